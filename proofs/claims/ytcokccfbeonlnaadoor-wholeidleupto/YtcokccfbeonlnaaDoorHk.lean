import Derived.Test.YtcokccfbeonlnaaDoorHj
import Derived.Deep.RegionHeldLaw
import Derived.Deep.AppendLies
set_option linter.unusedVariables false
set_option linter.unusedSimpArgs false
namespace Go.Proofs.YtcokccfbeonlnaaDoor
open Go.RowKit

section
variable {B : Nat} {w0 : World} {own : Nat → Nat} {W : World} {g gs n : Nat} {p : Pr}

theorem PS.turn (h : PS B w0 own W g gs n p) {own' : Nat → Nat} {W' : World} {p' : Pr} (hf : Fr 2 own own' W W') (hn : Nf own' W') (hsk : p'.sk = p.sk)
    (hpr : ∃ v, W'.heap[g]? = some (.cells (prc n gs p'.bl v p'.en) 55 (0, 0)) ∧ (W'.ownsRow 0 52 3 v p'.ar.length (flat bkc p'.ar.reverse) ∧ ∀ k, v.ownBlock = some k → own' k = 2)) :
    PS B w0 own' W' g gs n p' ∧ Sd own own' W W' ∧ W.heap.size ≤ W'.heap.size := by
  have hbl := h.bl
  refine ⟨⟨h.en.fr (by omega) hn hf, fun k hk => (hf.old k (by omega)).trans (h.lo k hk), h.bel.trans (hf.below hbl h.lo (by omega)), h.hB, ?_, hpr, (hf.old g h.lt).trans h.lab⟩, fun k hk h0 => ⟨hf.block k hk (by rw [h0]; omega), (hf.old k hk).trans h0⟩, hf.size⟩
  rw [hsk]
  exact h.sk.kept hf (by omega)

/-- The row of blocks has grown. -/
theorem PS.push (h : PS B w0 own W g gs n p) {v v2 : Value} {w2 : World} (h1 : W.heap[g]? = some (.cells (prc n gs p.bl v p.en) 55 (0, 0))) (h2 : W.ownsRow 0 52 3 v p.ar.length (flat bkc p.ar.reverse)) (h3 : ∀ k, v.ownBlock = some k → own k = 2)
    (ho2 : w2.ownsRow 0 52 3 v2 (p.ar.length + 1) (flat bkc p.ar.reverse ++ bkc p.bl)) (hg : W.grownBy w2 v.ownBlock) (hat : v2.ownBlock = v.ownBlock ∨ v2.ownBlock = some W.heap.size) :
    (∃ own', PS B w0 own' (w2.setCell ⟨g, 5, none⟩ v2) g gs n { p with ar := p.bl :: p.ar } ∧ Sd own own' W (w2.setCell ⟨g, 5, none⟩ v2) ∧ W.heap.size ≤ (w2.setCell ⟨g, 5, none⟩ v2).heap.size) ∧ w2.heap[g]? = some (.cells (prc n gs p.bl v p.en) 55 (0, 0)) := by
  have hk := Kp.of_grown hg
  have r1 := row_ne h2 h1 (by decide)
  have g1 : w2.heap[g]? = some (.cells (prc n gs p.bl v p.en) 55 (0, 0)) := hk.blk h1 (fun e => r1 e.symm)
  have r2 := row_ne ho2 g1 (by decide)
  have ks := Kp.set w2 g 5 v2
  have lt2 := fun k hk => (ho2.lt k hk).2
  have hlt := h.lt
  have kall : Kp (fun k => own k = 2) W (w2.setCell ⟨g, 5, none⟩ v2) := ((Kp.refl (fun k => own k = 2) W).step hk (fun j _ e => h3 j e.symm)).step ks (fun j _ e => by subst e; exact h.lab)
  refine ⟨⟨fun k => if k < W.heap.size then own k else if v2.ownBlock = some k then 2 else 0, h.turn (kall.fr (fun k _ e => e) (fun k hk => if_pos hk)) ?_ rfl ⟨v2, ?_, ?_, ?_⟩⟩, g1⟩
  · intro k hkk
    show (if k < W.heap.size then own k else if v2.ownBlock = some k then 2 else 0) = 0
    have := kall.size
    rw [if_neg (by omega), if_neg]
    intro e
    have h4 := lt2 k e
    have h5 := ks.size
    omega
  · exact blk_set g1 5 _
  · refine ks.row ?_ (fun k e1 e2 => r2 (by rw [e1, e2]))
    have : flat bkc (p.bl :: p.ar).reverse = flat bkc p.ar.reverse ++ bkc p.bl := by
      rw [List.reverse_cons, flat_append]; simp [flat]
    show w2.ownsRow 0 52 3 v2 (p.ar.length + 1) (flat bkc (p.bl :: p.ar).reverse)
    rw [this]
    exact ho2
  · intro k e
    show (if k < W.heap.size then own k else if v2.ownBlock = some k then 2 else 0) = 2
    by_cases hkk : k < W.heap.size
    · rw [if_pos hkk]
      rcases hat with e2 | e2
      · exact h3 k (by rw [← e2]; exact e)
      · rw [e2] at e; injection e with e; omega
    · rw [if_neg hkk, if_pos e]
theorem PS.setb (h : PS B w0 own W g gs n p) (b : Bk) : PS B w0 own (((W.setCell ⟨g, 2, none⟩ (.int .i64 b.ind)).setCell ⟨g, 3, none⟩ (.bool b.ev)).setCell ⟨g, 4, none⟩ (.bool b.ft)) g gs n { p with bl := b } ∧ Sd own own W (((W.setCell ⟨g, 2, none⟩ (.int .i64 b.ind)).setCell ⟨g, 3, none⟩ (.bool b.ev)).setCell ⟨g, 4, none⟩ (.bool b.ft)) ∧ W.heap.size ≤ (((W.setCell ⟨g, 2, none⟩ (.int .i64 b.ind)).setCell ⟨g, 3, none⟩ (.bool b.ev)).setCell ⟨g, 4, none⟩ (.bool b.ft)).heap.size := by
  obtain ⟨v, h1, h2, h3⟩ := h.pr
  have r1 := row_ne h2 h1 (by decide)
  have k3 := ((Kp.set W g 2 (.int .i64 b.ind)).trans (Kp.set _ g 3 (.bool b.ev))).trans (Kp.set _ g 4 (.bool b.ft))
  refine h.turn ((((Fr.refl 2 own W).set' h.lab 2 _).set' h.lab 3 _).set' h.lab 4 _) (h.en.nf.below k3.size) rfl ⟨v, blk_set (blk_set (blk_set h1 2 _) 3 _) 4 _, k3.row h2 (fun k e1 e2 => r1 (by rw [e1, e2])), h3⟩
end

theorem three_new (W : World) (a b c : Value) (t n : Nat) (h : n = W.heap.size) : ∀ j u, [a, b, c][j]? = some u → (W.alloc (.cells #[a, b, c] t)).cell? ((⟨n, 0, none⟩ : Addr).add j) = some u := by
  subst h
  intro j u hj
  match j, hj with
  | 0, hj => simp at hj; subst hj; simp [Addr.add]
  | 1, hj => simp at hj; subst hj; simp [Addr.add]
  | 2, hj => simp at hj; subst hj; simp [Addr.add]

theorem step_bk {W : World} {ops : Array Oper} {o : Oper} {a : Act} {K : Act → World → Prop} {Q : Exit → Act → World → Prop} {E : Prop} (hgd : o.guard = none) (s x : Operand)
    (ho : o.op = .call { callee := .builtin .append, args := #[s, x], argTypes := #[53, 53] }) (v : Value) (l : List Bk) (b : Bk) (hs : a.eval s = v) (hr : W.ownsRow 0 52 3 v l.length (flat bkc l.reverse))
    (g c : Nat) (hx : a.eval x = .slice (some ⟨g, 0, none⟩) 1 c) (hg : W.heap[g]? = some (.cells #[.int .i64 b.ind, .bool b.ev, .bool b.ft] 52 (0, 0))) (hl : l.length ≤ 1000000000)
    (h : ∀ q cap w', w'.ownsRow 0 52 3 (.slice (some ⟨q, 0, none⟩) (l.length + 1) cap) (l.length + 1) (flat bkc l.reverse ++ bkc b) → W.grownBy w' v.ownBlock → (v.ownBlock = some q ∨ q = W.heap.size) → K (a.put o.dst (.slice (some ⟨q, 0, none⟩) (l.length + 1) cap)) w') :
    if Region.wanted o (yielded ops a.tmps) = true then Oper.wp Tryd.prog o a W K Q else E := by
  obtain ⟨i0, hi, hz0, hz1, hz2⟩ := info_parts Tryd.info52
  refine step_append_lies W hgd s x 53 ho 0 52 i0 (.agg #[.int .i64 0, .bool false, .bool false]) 3 16 Tryd.underlying53 hi hz0 hz1 hz2 rfl (by decide) v _ _ hs hr ⟨g, 0, none⟩ 1 c (bkc b) hx rfl ?_ ?_ (by omega) (by unfold maxLen; omega) (by omega) (Nat.zero_le _) _ rfl ?_
  · intro j u hu
    exact World.news_of_block hg j u (by simpa [bkc] using hu)
  · intro u hu; simp [bkc] at hu; rcases hu with rfl | rfl | rfl <;> rfl
  · intro q cap w' a1 a2 a3 _
    exact h q cap w' a1 a2 a3

set_option maxHeartbeats 2000000 in
set_option maxRecDepth 100000 in
theorem put_beg {B : Nat} {w0 : World} {own : Nat → Nat} {W : World} {g gs n : Nat} {p : Pr} (h : PS B w0 own W g gs n p) {U : Nat} (hp : Bp p U) (hU : U ≤ 268435456) (need : Nat) (hnd : need ≤ 1000000) (hn : n ≤ 4096) (hl : p.ar.length ≤ 1000000000) (m : Nat) (hm : m ≤ 1000) (e : Bool) :
    Calls Tryd.prog 23 #[.pointer (some ⟨g, 0, none⟩), .agg #[.int .u8 6, .string ⟨#[]⟩, .int .i64 0, .int .i64 m, .bool e], .int .i64 need] W fun x w' => x = .returned (.tuple #[]) ∧ PA B w0 own W g gs n { p with ar := p.bl :: p.ar, bl := ⟨min (p.bl.ind + m) 1000, e, p.fits n need⟩ } w' := by
  obtain ⟨W1, hW1⟩ : ∃ W1, W.alloc (.cells #[.int .u8 6, .string ⟨#[]⟩, .int .i64 0, .int .i64 m, .bool e] 26) = W1 := ⟨_, rfl⟩
  obtain ⟨b1, b2, b3, b4, b5⟩ := h.box (.cells #[.int .u8 6, .string ⟨#[]⟩, .int .i64 0, .int .i64 m, .bool e] 26)
  rw [hW1] at b1 b2 b4 b5
  obtain ⟨v, h1, h2, h3⟩ := b1.pr
  have hlt := b1.lt
  have c2 := b1.c2
  have c3 := b1.c3
  have c4 := b1.c4
  have f5 := b1.fz 5
  have c5 : W1.cell? ⟨g, 5, none⟩ = some v := blk_cell h1 rfl
  have x3 : W1.cell? ⟨W.heap.size, 3, none⟩ = some (.int .i64 m) := blk_cell b2 rfl
  have x4 : W1.cell? ⟨W.heap.size, 4, none⟩ = some (.bool e) := blk_cell b2 rfl
  obtain ⟨pp, cap, rfl, _, _⟩ := row_shape h2
  have HW1 : Hid (W.alloc (.cells #[.int .u8 6, .string ⟨#[]⟩, .int .i64 0, .int .i64 m, .bool e] 26) = W1) := hW1
  have HR : Hid (∀ V, Below W1.heap.size W1 V → V.ownsRow 0 52 3 (.slice pp p.ar.length cap) p.ar.length (flat bkc p.ar.reverse)) := fun V hV => row_below h2 hV
  have HA : Hid (∀ V q cap2 w2, Below W1.heap.size W1 V → w2.ownsRow 0 52 3 (.slice (some ⟨q, 0, none⟩) (p.ar.length + 1) cap2) (p.ar.length + 1) (flat bkc p.ar.reverse ++ bkc p.bl) → V.grownBy w2 (Value.slice pp p.ar.length cap).ownBlock → ((Value.slice pp p.ar.length cap).ownBlock = some q ∨ q = V.heap.size) →
      Hid (PA B w0 own W g gs n { p with ar := p.bl :: p.ar } (w2.setCell ⟨g, 5, none⟩ (.slice (some ⟨q, 0, none⟩) (p.ar.length + 1) cap2)) ∧ (w2.setCell ⟨g, 5, none⟩ (.slice (some ⟨q, 0, none⟩) (p.ar.length + 1) cap2)).heap[W.heap.size]? = some (.cells #[.int .u8 6, .string ⟨#[]⟩, .int .i64 0, .int .i64 m, .bool e] 26 (0, 0))) ∧ (w2.cell? ⟨g, 2, none⟩ = some (.int .i64 p.bl.ind) ∧ w2.cell? ⟨g, 3, none⟩ = some (.bool p.bl.ev) ∧ w2.cell? ⟨g, 4, none⟩ = some (.bool p.bl.ft) ∧ w2.cell? ⟨g, 5, none⟩ = some (.slice pp p.ar.length cap)) ∧ w2.frozen? ⟨g, 5, none⟩ = false) := by
    intro V q cap2 w2 hV a1 a2 a3
    have hPV := b1.below hV
    obtain ⟨⟨own', d1, d2, d3⟩, d4⟩ := hPV.push (blk_below h1 hV) (row_below h2 hV) h3 a1 a2 (by rcases a3 with a | a; exact .inl a.symm; exact .inr (by rw [a]; rfl))
    have hs : Sd own own W1 V := fun k hk h0 => ⟨hV.block k hk, h0⟩
    have hs2 := (b4.trans b5 hs).trans (Nat.le_trans b5 hV.size) d2
    have hs3 := hs.trans hV.size d2
    refine ⟨⟨⟨own', d1, hs2, Nat.le_trans (Nat.le_trans b5 hV.size) d3⟩, (hs3 _ (blk_lt b2) b3).1.trans b2⟩, ⟨blk_cell d4 rfl, blk_cell d4 rfl, blk_cell d4 rfl, blk_cell d4 rfl⟩, blk_frozen d4⟩
  clear hW1
  go_enter Tryd.func23, Tryd.ntmps23
  go_wp2_with fail
  rw [HW1.out]
  go_region_law (refine step_bk (by rfl) _ _ (by rfl) _ p.ar p.bl (by rfl) (HR.out _ (by first | exact ((Below.refl _ _).alloc (Nat.le_refl _) _).drew | exact ((Below.refl _ _).drew).alloc (Nat.le_refl _) _)) W1.heap.size 1 (by rfl) (by first | exact new_at _ _ | exact new_at W1.drew _) hl ?_; intro q cap2 w2 ho2 hg2 hat; obtain ⟨HP2, HS2, z5⟩ := HA.out _ _ _ _ (by first | exact ((Below.refl _ _).alloc (Nat.le_refl _) _).drew | exact ((Below.refl _ _).drew).alloc (Nat.le_refl _) _) ho2 hg2 hat; obtain ⟨y2, y3, y4, y5⟩ := HS2)
  all_goals (
    obtain ⟨W3, hW3⟩ : ∃ W3, w2.setCell ⟨g, 5, none⟩ (.slice (some ⟨q, 0, none⟩) (p.ar.length + 1) cap2) = W3 := ⟨_, rfl⟩
    obtain ⟨⟨own3, d1, d2, d3⟩, dx⟩ := HP2.out
    rw [hW3] at d1 d2 d3 dx ⊢
    clear HP2 hg2 hat ho2 y2 y3 y4 y5 z5 hW3
    have y2 := d1.c2
    have x3' : W3.cell? ⟨W.heap.size, 3, none⟩ = some (.int .i64 m) := blk_cell dx rfl
    have x4' : W3.cell? ⟨W.heap.size, 4, none⟩ = some (.bool e) := blk_cell dx rfl
    have HF : Hid (∀ V, Below W3.heap.size W3 V → Calls Tryd.prog 39 #[.pointer (some ⟨g, 0, none⟩), .int .i64 need] V fun e w' => e = .returned (.bool (p.fits n need)) ∧ Below V.heap.size V w') := fun V hV => pfits_any (p := { p with ar := p.bl :: p.ar }) (d1.below hV) ⟨hp.out, hp.col, hp.ind, fun b hb => by rcases List.mem_cons.1 hb with rfl | hb; exact hp.ind; exact hp.ar b hb, hp.wt⟩ hU need hnd hn
    have HE : Hid (∀ V, Below W3.heap.size W3 V → PA B w0 own W g gs n { p with ar := p.bl :: p.ar, bl := ⟨min (p.bl.ind + m) 1000, e, p.fits n need⟩ } (((V.setCell ⟨g, 2, none⟩ (.int .i64 (min (p.bl.ind + m) 1000 : Nat))).setCell ⟨g, 3, none⟩ (.bool e)).setCell ⟨g, 4, none⟩ (.bool (p.fits n need))) ∧ V.cell? ⟨g, 2, none⟩ = some (.int .i64 p.bl.ind) ∧ V.cell? ⟨g, 3, none⟩ = some (.bool p.bl.ev) ∧ V.cell? ⟨g, 4, none⟩ = some (.bool p.bl.ft) ∧ V.frozen? ⟨g, 2, none⟩ = false ∧ V.frozen? ⟨g, 3, none⟩ = false ∧ V.frozen? ⟨g, 4, none⟩ = false ∧ V.cell? ⟨W.heap.size, 4, none⟩ = some (.bool e)) := by
      intro V hV
      have hPV := d1.below hV
      obtain ⟨k1, k2, k3⟩ := hPV.setb ⟨min (p.bl.ind + m) 1000, e, p.fits n need⟩
      have hs : Sd own3 own3 W3 V := fun k hk h0 => ⟨hV.block k hk, h0⟩
      exact ⟨⟨own3, k1, (d2.trans d3 hs).trans (Nat.le_trans d3 hV.size) k2, Nat.le_trans (Nat.le_trans d3 hV.size) k3⟩, hPV.c2, hPV.c3, hPV.c4, hPV.fz 2, hPV.fz 3, hPV.fz 4, blk_cell (blk_below dx hV) rfl⟩
    have hind := hp.ind
    have emin : min ((p.bl.ind : Int) + m) 1000 = ((min (p.bl.ind + m) 1000 : Nat) : Int) := by omega
    have glt : g < W3.heap.size := d1.lt
    clear d1 d2 d3 dx h hp b1 b2 b3 b4 b5 h1 h2 h3 c2 c3 c4 c5 f5 x3 x4 HA HR HW1
    obtain ⟨M, hM⟩ : ∃ M, min (p.bl.ind + m) 1000 = M := ⟨_, rfl⟩
    rw [hM] at HE emin
    have HM : Hid (min (p.bl.ind + m) 1000 = M) := hM
    clear hM
    go_wp2_with fail
    go_region
    all_goals (
      go_wp2_with fail
      have y3' := (HE.out _ (Below.refl _ W3).drew).2
      obtain ⟨v2, v3, v4, u2, u3, u4, v5⟩ := y3'
      go_region_with (first | (go_at_call 39; refine (HF.out _ (by first | exact (Below.refl _ _).drew.drew | exact (Below.refl _ _).drew)).mono ?_; rintro e w4 ⟨rfl, hb4⟩; obtain ⟨HP4, r2, r3, r4, q2, q3, q4, r5⟩ := HE.out _ ((Below.refl _ W3).drew.drew.trans (hb4.mono (Nat.le_refl _)))))
      all_goals (
        go_wp2_with fail
        go_end0
        rw [HM.out]
        exact ⟨rfl, HP4⟩)))
end Go.Proofs.YtcokccfbeonlnaaDoor
