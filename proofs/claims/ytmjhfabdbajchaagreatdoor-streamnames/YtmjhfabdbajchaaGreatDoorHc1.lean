import Derived.Test.YtmjhfabdbajchaaGreatDoorHa5
import Derived.Deep.RegionHeldLaw
import Derived.Deep.AppendLies
import Derived.Deep.CutRange
set_option linter.unusedVariables false
set_option linter.unusedSimpArgs false
namespace Go.Proofs.YtmjhfabdbajchaaGreatDoor
open Go.RowKit

section
variable {hd : Hd9} {B : Nat} {w0 : World} {own : Nat → Nat} {W : World} {g gs n : Nat} {p : Pr}

theorem PK9.turn (h : PK9 hd B w0 own W g gs n p) {own' : Nat → Nat} {W' : World} {p' : Pr} (hf : Fr 2 own own' W W') (hn : Nf own' W') (hsk : p'.sk = p.sk)
    (hpr : ∃ v, W'.heap[g]? = some (.cells (pg9 hd n gs p'.bl v p'.en) 67 (0, 0)) ∧ (W'.ownsRow 0 61 3 v p'.ar.length (flat bk9 p'.ar.reverse) ∧ ∀ k, v.ownBlock = some k → own' k = 2)) :
    PK9 hd B w0 own' W' g gs n p' ∧ Sd own own' W W' ∧ W.heap.size ≤ W'.heap.size := by
  have hbl := h.bl
  refine ⟨⟨h.en.fr (by omega) hn hf, fun k hk => (hf.old k (by omega)).trans (h.lo k hk), h.bel.trans (hf.below hbl h.lo (by omega)), h.hB, ?_, hpr, (hf.old g h.lt).trans h.lab⟩, fun k hk h0 => ⟨hf.block k hk (by rw [h0]; omega), (hf.old k hk).trans h0⟩, hf.size⟩
  rw [hsk]
  exact h.sk.kept hf (by omega)

/-- The row of blocks has grown. -/
theorem PK9.push (h : PK9 hd B w0 own W g gs n p) {v v2 : Value} {w2 : World} (h1 : W.heap[g]? = some (.cells (pg9 hd n gs p.bl v p.en) 67 (0, 0))) (h2 : W.ownsRow 0 61 3 v p.ar.length (flat bk9 p.ar.reverse)) (h3 : ∀ k, v.ownBlock = some k → own k = 2)
    (ho2 : w2.ownsRow 0 61 3 v2 (p.ar.length + 1) (flat bk9 p.ar.reverse ++ bk9 p.bl)) (hg : W.grownBy w2 v.ownBlock) (hat : v2.ownBlock = v.ownBlock ∨ v2.ownBlock = some W.heap.size) :
    (∃ own', PK9 hd B w0 own' (w2.setCell ⟨g, 12, none⟩ v2) g gs n { p with ar := p.bl :: p.ar } ∧ Sd own own' W (w2.setCell ⟨g, 12, none⟩ v2) ∧ W.heap.size ≤ (w2.setCell ⟨g, 12, none⟩ v2).heap.size) ∧ w2.heap[g]? = some (.cells (pg9 hd n gs p.bl v p.en) 67 (0, 0)) := by
  have hk := Kp.of_grown hg
  have r1 := row_ne h2 h1 (by decide)
  have g1 : w2.heap[g]? = some (.cells (pg9 hd n gs p.bl v p.en) 67 (0, 0)) := hk.blk h1 (fun e => r1 e.symm)
  have r2 := row_ne ho2 g1 (by decide)
  have ks := Kp.set w2 g 12 v2
  have lt2 := fun k hk => (ho2.lt k hk).2
  have hlt := h.lt
  have kall : Kp (fun k => own k = 2) W (w2.setCell ⟨g, 12, none⟩ v2) := ((Kp.refl (fun k => own k = 2) W).step hk (fun j _ e => h3 j e.symm)).step ks (fun j _ e => by subst e; exact h.lab)
  refine ⟨⟨fun k => if k < W.heap.size then own k else if v2.ownBlock = some k then 2 else 0, h.turn (kall.fr (fun k _ e => e) (fun k hk => if_pos hk)) ?_ rfl ⟨v2, ?_, ?_, ?_⟩⟩, g1⟩
  · intro k hkk
    show (if k < W.heap.size then own k else if v2.ownBlock = some k then 2 else 0) = 0
    have := kall.size
    rw [if_neg (by omega), if_neg]
    intro e
    have h4 := lt2 k e
    have h5 := ks.size
    omega
  · exact blk_set g1 12 _
  · refine ks.row ?_ (fun k e1 e2 => r2 (by rw [e1, e2]))
    have : flat bk9 (p.bl :: p.ar).reverse = flat bk9 p.ar.reverse ++ bk9 p.bl := by
      rw [List.reverse_cons, flat_append]; simp [flat]
    show w2.ownsRow 0 61 3 v2 (p.ar.length + 1) (flat bk9 (p.bl :: p.ar).reverse)
    rw [this]
    exact ho2
  · intro k e
    show (if k < W.heap.size then own k else if v2.ownBlock = some k then 2 else 0) = 2
    by_cases hkk : k < W.heap.size
    · rw [if_pos hkk]
      rcases hat with e2 | e2
      · exact h3 k (by rw [← e2]; exact e)
      · rw [e2] at e; injection e with e; omega
    · rw [if_neg hkk, if_pos e]
theorem PK9.setb (h : PK9 hd B w0 own W g gs n p) (b : Bk) : PK9 hd B w0 own (((W.setCell ⟨g, 9, none⟩ (.int .i64 b.ind)).setCell ⟨g, 10, none⟩ (.bool b.ev)).setCell ⟨g, 11, none⟩ (.bool b.ft)) g gs n { p with bl := b } ∧ Sd own own W (((W.setCell ⟨g, 9, none⟩ (.int .i64 b.ind)).setCell ⟨g, 10, none⟩ (.bool b.ev)).setCell ⟨g, 11, none⟩ (.bool b.ft)) ∧ W.heap.size ≤ (((W.setCell ⟨g, 9, none⟩ (.int .i64 b.ind)).setCell ⟨g, 10, none⟩ (.bool b.ev)).setCell ⟨g, 11, none⟩ (.bool b.ft)).heap.size := by
  obtain ⟨v, h1, h2, h3⟩ := h.pr
  have r1 := row_ne h2 h1 (by decide)
  have k3 := ((Kp.set W g 9 (.int .i64 b.ind)).trans (Kp.set _ g 10 (.bool b.ev))).trans (Kp.set _ g 11 (.bool b.ft))
  refine h.turn ((((Fr.refl 2 own W).set' h.lab 9 _).set' h.lab 10 _).set' h.lab 11 _) (h.en.nf.below k3.size) rfl ⟨v, blk_set (blk_set (blk_set h1 9 _) 10 _) 11 _, k3.row h2 (fun k e1 e2 => r1 (by rw [e1, e2])), h3⟩
end

theorem three9 (W : World) (a b c : Value) (t n : Nat) (h : n = W.heap.size) : ∀ j u, [a, b, c][j]? = some u → (W.alloc (.cells #[a, b, c] t)).cell? ((⟨n, 0, none⟩ : Addr).add j) = some u := by
  subst h
  intro j u hj
  match j, hj with
  | 0, hj => simp at hj; subst hj; simp [Addr.add]
  | 1, hj => simp at hj; subst hj; simp [Addr.add]
  | 2, hj => simp at hj; subst hj; simp [Addr.add]

theorem step_b9 {W : World} {ops : Array Oper} {o : Oper} {a : Act} {K : Act → World → Prop} {Q : Exit → Act → World → Prop} {E : Prop} (hgd : o.guard = none) (s x : Operand)
    (ho : o.op = .call { callee := .builtin .append, args := #[s, x], argTypes := #[62, 62] }) (v : Value) (l : List Bk) (b : Bk) (hs : a.eval s = v) (hr : W.ownsRow 0 61 3 v l.length (flat bk9 l.reverse))
    (g c : Nat) (hx : a.eval x = .slice (some ⟨g, 0, none⟩) 1 c) (hg : W.heap[g]? = some (.cells #[.int .i64 b.ind, .bool b.ev, .bool b.ft] 61 (0, 0))) (hl : l.length ≤ 1000000000)
    (h : ∀ q cap w', w'.ownsRow 0 61 3 (.slice (some ⟨q, 0, none⟩) (l.length + 1) cap) (l.length + 1) (flat bk9 l.reverse ++ bk9 b) → W.grownBy w' v.ownBlock → (v.ownBlock = some q ∨ q = W.heap.size) → K (a.put o.dst (.slice (some ⟨q, 0, none⟩) (l.length + 1) cap)) w') :
    if Region.wanted o (yielded ops a.tmps) = true then Oper.wp Tryz.prog o a W K Q else E := by
  obtain ⟨i0, hi, hz0, hz1, hz2⟩ := info_parts Tryz.info61
  refine step_append_lies W hgd s x 62 ho 0 61 i0 (.agg #[.int .i64 0, .bool false, .bool false]) 3 16 Tryz.underlying62 hi hz0 hz1 hz2 rfl (by decide) v _ _ hs hr ⟨g, 0, none⟩ 1 c (bk9 b) hx rfl ?_ ?_ (by omega) (by unfold maxLen; omega) (by omega) (Nat.zero_le _) _ rfl ?_
  · intro j u hu
    exact World.news_of_block hg j u (by simpa [bk9] using hu)
  · intro u hu; simp [bk9] at hu; rcases hu with rfl | rfl | rfl <;> rfl
  · intro q cap w' a1 a2 a3 _
    exact h q cap w' a1 a2 a3

theorem min_wr (a m : Nat) (h : a ≤ 1000) (hm : m ≤ 1000) : min (IntKind.i64.wrap ((a : Int) + m)) 1000 = ((min (a + m) 1000 : Nat) : Int) := by
  rw [IntKind.wrap_i64]; omega

set_option maxHeartbeats 400000000 in
set_option maxRecDepth 100000 in
theorem gput_beg {hd : Hd9} {B : Nat} {w0 : World} {own : Nat → Nat} {W : World} {g gs n : Nat} {p : Pr} (h : PK9 hd B w0 own W g gs n p) {U : Nat} (hp : Bp p U) (hU : U ≤ 268435456) (need : Nat) (hnd : need ≤ 1000000000000000) (hn : n ≤ 4096) (hl : p.ar.length ≤ 1000000000) (m : Nat) (hm : m ≤ 1000) (e : Bool) :
    Calls Tryz.prog 63 #[.pointer (some ⟨g, 7, none⟩), .agg #[.int .u8 6, .string ⟨#[]⟩, .int .i64 0, .int .i64 m, .bool e], .int .i64 need] W fun x w' => x = .returned (.tuple #[]) ∧ PKA hd B w0 own W g gs n { p with ar := p.bl :: p.ar, bl := ⟨min (p.bl.ind + m) 1000, e, p.fits n need⟩ } w' := by
  obtain ⟨W1, hW1⟩ : ∃ W1, W.alloc (.cells #[.int .u8 6, .string ⟨#[]⟩, .int .i64 0, .int .i64 m, .bool e] 37) = W1 := ⟨_, rfl⟩
  obtain ⟨b1, b2, b3, b4, b5⟩ := h.box (.cells #[.int .u8 6, .string ⟨#[]⟩, .int .i64 0, .int .i64 m, .bool e] 37)
  rw [hW1] at b1 b2 b4 b5
  obtain ⟨v, h1, h2, h3⟩ := b1.pr
  have hlt0 := h.lt
  have hlt := b1.lt
  have c2 := b1.c2
  have c3 := b1.c3
  have c4 := b1.c4
  have f5 := b1.fz 12
  have c5 : W1.cell? ⟨g, 12, none⟩ = some v := blk_cell h1 rfl
  have x3 : W1.cell? ⟨W.heap.size, 3, none⟩ = some (.int .i64 m) := blk_cell b2 rfl
  have x4 : W1.cell? ⟨W.heap.size, 4, none⟩ = some (.bool e) := blk_cell b2 rfl
  obtain ⟨pp, cap, rfl, _, _⟩ := row_shape h2
  have HW1 : Hid (W.alloc (.cells #[.int .u8 6, .string ⟨#[]⟩, .int .i64 0, .int .i64 m, .bool e] 37) = W1) := hW1
  have HR : Hid (∀ V, Below W1.heap.size W1 V → V.ownsRow 0 61 3 (.slice pp p.ar.length cap) p.ar.length (flat bk9 p.ar.reverse)) := fun V hV => row_below h2 hV
  have HA : Hid (∀ V q cap2 w2, Below W1.heap.size W1 V → w2.ownsRow 0 61 3 (.slice (some ⟨q, 0, none⟩) (p.ar.length + 1) cap2) (p.ar.length + 1) (flat bk9 p.ar.reverse ++ bk9 p.bl) → V.grownBy w2 (Value.slice pp p.ar.length cap).ownBlock → ((Value.slice pp p.ar.length cap).ownBlock = some q ∨ q = V.heap.size) →
      Hid (PKA hd B w0 own W g gs n { p with ar := p.bl :: p.ar } (w2.setCell ⟨g, 12, none⟩ (.slice (some ⟨q, 0, none⟩) (p.ar.length + 1) cap2)) ∧ (w2.setCell ⟨g, 12, none⟩ (.slice (some ⟨q, 0, none⟩) (p.ar.length + 1) cap2)).heap[W.heap.size]? = some (.cells #[.int .u8 6, .string ⟨#[]⟩, .int .i64 0, .int .i64 m, .bool e] 37 (0, 0))) ∧ (w2.cell? ⟨g, 9, none⟩ = some (.int .i64 p.bl.ind) ∧ w2.cell? ⟨g, 10, none⟩ = some (.bool p.bl.ev) ∧ w2.cell? ⟨g, 11, none⟩ = some (.bool p.bl.ft) ∧ w2.cell? ⟨g, 12, none⟩ = some (.slice pp p.ar.length cap)) ∧ w2.frozen? ⟨g, 12, none⟩ = false) := by
    intro V q cap2 w2 hV a1 a2 a3
    have hPV := b1.below hV
    obtain ⟨⟨own', d1, d2, d3⟩, d4⟩ := hPV.push (blk_below h1 hV) (row_below h2 hV) h3 a1 a2 (by rcases a3 with a | a; exact .inl a.symm; exact .inr (by rw [a]; rfl))
    have hs : Sd own own W1 V := fun k hk h0 => ⟨hV.block k hk, h0⟩
    have hs2 := (b4.trans b5 hs).trans (Nat.le_trans b5 hV.size) d2
    have hs3 := hs.trans hV.size d2
    refine ⟨⟨⟨own', d1, hs2, Nat.le_trans (Nat.le_trans b5 hV.size) d3⟩, (hs3 _ (blk_lt b2) b3).1.trans b2⟩, ⟨blk_cell d4 rfl, blk_cell d4 rfl, blk_cell d4 rfl, blk_cell d4 rfl⟩, blk_frozen d4⟩
  clear hW1
  go_enter Tryz.func63, Tryz.ntmps63
  go_wp2_with fail
  rw [HW1.out]
  go_cut [] from 42 (fun wx => Hid (PKA hd B w0 own W g gs n { p with ar := p.bl :: p.ar } wx ∧ wx.heap[W.heap.size]? = some (.cells #[.int .u8 6, .string ⟨#[]⟩, .int .i64 0, .int .i64 m, .bool e] 37 (0, 0))))
  case first =>
    go_region_law (refine step_b9 (by rfl) _ _ (by rfl) _ p.ar p.bl (by rfl) (HR.out _ (by first | exact ((Below.refl _ _).alloc (Nat.le_refl _) _).drew | exact ((Below.refl _ _).drew).alloc (Nat.le_refl _) _)) W1.heap.size 1 (by rfl) (by first | exact new_at _ _ | exact new_at W1.drew _) hl ?_; intro q cap2 w2 ho2 hg2 hat; obtain ⟨HP2, HS2, z5⟩ := HA.out _ _ _ _ (by first | exact ((Below.refl _ _).alloc (Nat.le_refl _) _).drew | exact ((Below.refl _ _).drew).alloc (Nat.le_refl _) _) ho2 hg2 hat; obtain ⟨y2, y3, y4, y5⟩ := HS2)
    all_goals (
      go_wp2_with fail
      go_meet
      exact HP2)
  case rest =>
    obtain ⟨⟨own3, d1, d2, d3⟩, dx⟩ := hcut.out
    clear hcut
    have y2 := d1.c2
    have x3' : wc.cell? ⟨W.heap.size, 3, none⟩ = some (.int .i64 m) := blk_cell dx rfl
    have x4' : wc.cell? ⟨W.heap.size, 4, none⟩ = some (.bool e) := blk_cell dx rfl
    have HF : Hid (∀ V, Below wc.heap.size wc V → Calls Tryz.prog 98 #[.pointer (some ⟨g, 7, none⟩), .int .i64 need] V fun e w' => e = .returned (.bool (p.fits n need)) ∧ Below V.heap.size V w') := fun V hV => gfits_any (p := { p with ar := p.bl :: p.ar }) (d1.below hV) ⟨hp.out, hp.col, hp.ind, fun b hb => by rcases List.mem_cons.1 hb with rfl | hb; exact hp.ind; exact hp.ar b hb, hp.wt⟩ hU need hnd hn
    have HE : Hid (∀ V, Below wc.heap.size wc V → PKA hd B w0 own W g gs n { p with ar := p.bl :: p.ar, bl := ⟨min (p.bl.ind + m) 1000, e, p.fits n need⟩ } (((V.setCell ⟨g, 9, none⟩ (.int .i64 (min (p.bl.ind + m) 1000 : Nat))).setCell ⟨g, 10, none⟩ (.bool e)).setCell ⟨g, 11, none⟩ (.bool (p.fits n need))) ∧ V.cell? ⟨g, 9, none⟩ = some (.int .i64 p.bl.ind) ∧ V.cell? ⟨g, 10, none⟩ = some (.bool p.bl.ev) ∧ V.cell? ⟨g, 11, none⟩ = some (.bool p.bl.ft) ∧ V.frozen? ⟨g, 9, none⟩ = false ∧ V.frozen? ⟨g, 10, none⟩ = false ∧ V.frozen? ⟨g, 11, none⟩ = false ∧ V.cell? ⟨W.heap.size, 4, none⟩ = some (.bool e) ∧ V.cell? ⟨W.heap.size, 3, none⟩ = some (.int .i64 m)) := by
      intro V hV
      have hPV := d1.below hV
      obtain ⟨k1, k2, k3⟩ := hPV.setb ⟨min (p.bl.ind + m) 1000, e, p.fits n need⟩
      have hs : Sd own3 own3 wc V := fun k hk h0 => ⟨hV.block k hk, h0⟩
      exact ⟨⟨own3, k1, (d2.trans d3 hs).trans (Nat.le_trans d3 hV.size) k2, Nat.le_trans (Nat.le_trans d3 hV.size) k3⟩, hPV.c2, hPV.c3, hPV.c4, hPV.fz 9, hPV.fz 10, hPV.fz 11, blk_cell (blk_below dx hV) rfl, blk_cell (blk_below dx hV) rfl⟩
    have hind := hp.ind
    have emin : min ((p.bl.ind : Int) + m) 1000 = ((min (p.bl.ind + m) 1000 : Nat) : Int) := by omega
    have glt : g < wc.heap.size := d1.lt
    clear d1 d2 d3 dx h hp b1 b2 b3 b4 b5 h1 h2 h3 c2 c3 c4 c5 f5 x3 x4 HA HR HW1
    obtain ⟨M, hM⟩ : ∃ M, min (p.bl.ind + m) 1000 = M := ⟨_, rfl⟩
    rw [hM] at HE emin
    have HM : Hid (min (p.bl.ind + m) 1000 = M) := hM
    have HEW : Hid (min (IntKind.i64.wrap ((p.bl.ind : Int) + m)) 1000 = (M : Int)) := by show _ = _; rw [min_wr p.bl.ind m hind hm, HM.out]
    clear hM
    have y3' := (HE.out _ (Below.refl _ wc).drew).2
    obtain ⟨v2, v3, v4, u2, u3, u4, v5, v6⟩ := y3'
    go_wp2_with fail
    have hgb : g ≠ W.heap.size := by have := hlt0; omega
    have hgb2 : W.heap.size ≠ g := Ne.symm hgb
    go_region_with (first | (go_at_call 98; refine (HF.out _ (by first | exact (Below.refl _ _).drew | exact Below.refl _ _)).mono ?_; rintro e w4 ⟨rfl, hb4⟩; obtain ⟨HP4, r2, r3, r4, q2, q3, q4, r5, r6⟩ := HE.out _ (by first | exact (Below.refl _ wc).drew.trans (hb4.mono (Nat.le_refl _)) | exact hb4)))
    all_goals (
      go_wp2_with fail
      go_end0
      rw [HM.out]
      first
      | exact ⟨rfl, HP4⟩
      | (rw [HEW.out]; exact ⟨rfl, HP4⟩))
end Go.Proofs.YtmjhfabdbajchaaGreatDoor
