import Derived.Test.YtkigadnkclkopaaGreatG8
set_option linter.unusedVariables false
set_option linter.unusedSimpArgs false
namespace Go.Proofs.YtkigadnkclkopaaGreat
open Go.RowKit

/-! The code's Build: read. -/
theorem Tryz.info32 : (Tryz.prog.info? 32).map (fun i => (i.zero, i.size, i.bytes)) = some (some (.agg #[.int .u8 0, .int .u8 0, .string ⟨#[]⟩, .int .i64 0, .int .i64 0, .int .i64 0, .int .i64 0, .slice none 0 0]), 8, 88) := by kernel_rfl
theorem app_nd {W : World} {ops : Array Oper} {rest : List Oper} {o : Oper} {a : Act} {Q : Exit → Act → World → Prop} (hgd : o.guard = none) (s x : Operand)
    (ho : o.op = .call { callee := .builtin .append, args := #[s, x], argTypes := #[30, 30] }) (v : Value) (c : List Nd) (vs : List Value) (n : Nd) (p : Option Addr) (m cp : Nat) (hs : a.eval s = v) (hr : RN W v c vs)
    (g c1 : Nat) (hx : a.eval x = .slice (some ⟨g, 0, none⟩) 1 c1) (hg : W.heap[g]? = some (NdB n.k n.d (.slice p m cp))) (hl : c.length ≤ 1000000000)
    (h : ∀ v' w', RN w' v' (c ++ [n]) (vs ++ [.slice p m cp]) → W.grownBy w' v.ownBlock → Nb W v v' → wpList Tryz.prog ops Q rest (a.put o.dst v') w') : wpList Tryz.prog ops Q (o :: rest) a W := by
  obtain ⟨i0, hi, hz0, hz1, hz2⟩ := info_parts Tryz.info32
  refine wpList_append_own_at (P := Tryz.prog) (w := W) hgd s x 30 ho 0 32 i0 _ 8 88 Tryz.underlying30 hi hz0 hz1 hz2 rfl (by decide) v _ _ hs hr.2 ⟨g, 0, none⟩ 1 c1 (nc n (.slice p m cp)) hx rfl ?_ ?_ (by unfold maxLen; omega) (by omega) (Nat.zero_le _) ?_
  · intro j u hu
    refine World.news_of_block hg j u ?_
    simpa [nc] using hu
  · intro u hu
    simp only [nc, List.mem_cons, List.not_mem_nil, or_false] at hu
    rcases hu with rfl | rfl | rfl | rfl | rfl | rfl | rfl | rfl <;> rfl
  · intro v' w' h1 h2 _ h4
    refine h v' w' ⟨by simp [hr.1], ?_⟩ h2 ?_
    · rw [List.length_append, ncs_app c vs hr.1]
      exact h1
    · rcases h4 with h4 | h4
      · exact .inl h4
      · exact .inr ⟨_, h4, Nat.le_refl _⟩
abbrev readF (g p : Nat) : Value := .func (.func 39) #[] #[.pointer (some ⟨g, 0, none⟩), .pointer (some ⟨p, 0, none⟩)]
/-- What read has in hand. -/
structure RS (w0 : World) (g p : Nat) (l : List Ev) (ao : Option Addr) (cap : Nat) (V : World) : Prop where
  bel : Below w0.heap.size w0 V
  hg : V.heap[g]? = some (.cells #[.slice ao l.length cap] 41 (0, 0))
  hp : V.heap[p]? = some (.cells #[readF g p] 82 (0, 0))
  le : Le w0 ao l
  lc : l.length ≤ cap
  cm : cap ≤ maxLen
  g0 : w0.heap.size ≤ g
  p0 : w0.heap.size ≤ p
theorem RS.ne {w0 : World} {g p : Nat} {l : List Ev} {ao : Option Addr} {cap : Nat} {V : World} (h : RS w0 g p l ao cap V) : g ≠ p := by
  rintro rfl
  have := h.hg
  rw [h.hp] at this
  injection this with e
  injection e with _ e
  exact absurd e (by decide)
theorem RS.below {w0 : World} {g p : Nat} {l : List Ev} {ao : Option Addr} {cap : Nat} {V V' : World} (h : RS w0 g p l ao cap V) (hb : Below V.heap.size V V') : RS w0 g p l ao cap V' :=
  ⟨h.bel.trans (hb.mono h.bel.size), blk_below h.hg hb, blk_below h.hp hb, h.le, h.lc, h.cm, h.g0, h.p0⟩
theorem RS.kp {S : Nat → Prop} {w0 : World} {g p : Nat} {l : List Ev} {ao : Option Addr} {cap : Nat} {V V' : World} (h : RS w0 g p l ao cap V) (hk : Kp S V V') (hS : ∀ k, S k → w0.heap.size ≤ k ∧ k ≠ g ∧ k ≠ p) : RS w0 g p l ao cap V' :=
  ⟨Kp.low h.bel hk (fun k e => (hS k e).1) h.bel.size, hk.blk h.hg (fun e => (hS g e).2.1 rfl), hk.blk h.hp (fun e => (hS p e).2.2 rfl), h.le, h.lc, h.cm, h.g0, h.p0⟩
theorem RS.set {w0 : World} {g p : Nat} {l l' : List Ev} {ao ao' : Option Addr} {cap cap' : Nat} {V : World} (h : RS w0 g p l ao cap V) (hl : Le w0 ao' l') (hc : l'.length ≤ cap') (hm : cap' ≤ maxLen) : RS w0 g p l' ao' cap' (V.setCell ⟨g, 0, none⟩ (.slice ao' l'.length cap')) :=
  ⟨Kp.low h.bel (Kp.set V g 0 _) (fun k e => by subst e; exact h.g0) h.bel.size, blk_set h.hg 0 _, blk_other h.hp (Ne.symm h.ne) _, hl, hc, hm, h.g0, h.p0⟩
/-- What read answers. -/
def RdP (w0 : World) (g p a : Nat) (l : List Ev) (W : World) (x : Ending) (w' : World) : Prop := ∃ (n : Nd) (sv : Value) (ok : Bool) (r : List Ev) (ao : Option Addr) (cap : Nat), x = .returned (.tuple #[ndv n.k n.d sv, .bool ok]) ∧ RS w0 g p r ao cap w' ∧ Kp (fun k => k = g) W w' ∧ r.length < l.length ∧ TN (fun k => W.heap.size ≤ k) w' n sv ∧ (if ok then Aft a l n r else Bad a l)
def ReadC (w0 : World) (g p : Nat) (l : List Ev) : Prop := ∀ (a : Nat) (ao : Option Addr) (cap : Nat) (W : World), a ≤ 1000 → (∀ e r, l = e :: r → e.k = 3 → a = 0) → RS w0 g p l ao cap W → Calls Tryz.prog 39 #[.int .i64 (a : Nat), .pointer (some ⟨g, 0, none⟩), .pointer (some ⟨p, 0, none⟩)] W (RdP w0 g p a l W)
/-- A node written into its block. -/
def sets8 (w : World) (b : Nat) (k : Int) (d : Tv) (s : Value) : World := (((((((w.setCell ⟨b, 0, none⟩ (.int .u8 k)).setCell ⟨b, 1, none⟩ (.int .u8 d.k)).setCell ⟨b, 2, none⟩ (.string d.t)).setCell ⟨b, 3, none⟩ (.int .i64 d.a)).setCell ⟨b, 4, none⟩ (.int .i64 d.l)).setCell ⟨b, 5, none⟩ (.int .i64 d.c)).setCell ⟨b, 6, none⟩ (.int .i64 d.f)).setCell ⟨b, 7, none⟩ s
theorem sets8_at {w : World} {b : Nat} {k0 : Int} {d0 : Tv} {s0 : Value} (h : w.heap[b]? = some (NdB k0 d0 s0)) (k : Int) (d : Tv) (s : Value) : (sets8 w b k d s).heap[b]? = some (NdB k d s) := by
  unfold sets8
  have := blk_set (blk_set (blk_set (blk_set (blk_set (blk_set (blk_set (blk_set h 0 (.int .u8 k)) 1 (.int .u8 d.k)) 2 (.string d.t)) 3 (.int .i64 d.a)) 4 (.int .i64 d.l)) 5 (.int .i64 d.c)) 6 (.int .i64 d.f)) 7 s
  rw [this]
  simp
theorem sets8_kp (w : World) (b : Nat) (k : Int) (d : Tv) (s : Value) : Kp (fun j => j = b) w (sets8 w b k d s) := by
  unfold sets8
  exact (((((((Kp.set _ _ _ _).trans (Kp.set _ _ _ _)).trans (Kp.set _ _ _ _)).trans (Kp.set _ _ _ _)).trans (Kp.set _ _ _ _)).trans (Kp.set _ _ _ _)).trans (Kp.set _ _ _ _)).trans (Kp.set _ _ _ _)
theorem nd_cells {w : World} {b : Nat} {k : Int} {d : Tv} {s : Value} (h : w.heap[b]? = some (NdB k d s)) : (w.cell? ⟨b, 0, none⟩ = some (.int .u8 k) ∧ w.cell? ⟨b, 1, none⟩ = some (.int .u8 d.k) ∧ w.cell? ⟨b, 2, none⟩ = some (.string d.t) ∧ w.cell? ⟨b, 3, none⟩ = some (.int .i64 d.a) ∧ w.cell? ⟨b, 4, none⟩ = some (.int .i64 d.l) ∧ w.cell? ⟨b, 5, none⟩ = some (.int .i64 d.c) ∧ w.cell? ⟨b, 6, none⟩ = some (.int .i64 d.f) ∧ w.cell? ⟨b, 7, none⟩ = some s) ∧ b < w.heap.size :=
  ⟨⟨blk_cell h rfl, blk_cell h rfl, blk_cell h rfl, blk_cell h rfl, blk_cell h rfl, blk_cell h rfl, blk_cell h rfl, blk_cell h rfl⟩, blk_lt h⟩
theorem nd_frozen {w : World} {b : Nat} {k : Int} {d : Tv} {s : Value} (h : w.heap[b]? = some (NdB k d s)) : w.frozen? ⟨b, 0, none⟩ = false ∧ w.frozen? ⟨b, 1, none⟩ = false ∧ w.frozen? ⟨b, 2, none⟩ = false ∧ w.frozen? ⟨b, 3, none⟩ = false ∧ w.frozen? ⟨b, 4, none⟩ = false ∧ w.frozen? ⟨b, 5, none⟩ = false ∧ w.frozen? ⟨b, 6, none⟩ = false ∧ w.frozen? ⟨b, 7, none⟩ = false :=
  ⟨blk_frozen h, blk_frozen h, blk_frozen h, blk_frozen h, blk_frozen h, blk_frozen h, blk_frozen h, blk_frozen h⟩
abbrev EvB (k n : Int) (d : Tv) : Obj := .cells #[.int .u8 k, .int .u8 n, .int .u8 d.k, .string d.t, .int .i64 d.a, .int .i64 d.l, .int .i64 d.c, .int .i64 d.f] 48
theorem ev_cells {w : World} {b : Nat} {k n : Int} {d : Tv} (h : w.heap[b]? = some (EvB k n d)) : (w.cell? ⟨b, 0, none⟩ = some (.int .u8 k) ∧ w.cell? ⟨b, 1, none⟩ = some (.int .u8 n) ∧ w.cell? ⟨b, 2, none⟩ = some (.int .u8 d.k) ∧ w.cell? ⟨b, 3, none⟩ = some (.string d.t) ∧ w.cell? ⟨b, 4, none⟩ = some (.int .i64 d.a) ∧ w.cell? ⟨b, 5, none⟩ = some (.int .i64 d.l) ∧ w.cell? ⟨b, 6, none⟩ = some (.int .i64 d.c) ∧ w.cell? ⟨b, 7, none⟩ = some (.int .i64 d.f)) ∧ b < w.heap.size :=
  ⟨⟨blk_cell h rfl, blk_cell h rfl, blk_cell h rfl, blk_cell h rfl, blk_cell h rfl, blk_cell h rfl, blk_cell h rfl, blk_cell h rfl⟩, blk_lt h⟩
/-- Behind the first statements of read. -/
structure R2 (w0 W : World) (g p : Nat) (r : List Ev) (ao : Option Addr) (cap : Nat) (ek en : Int) (ed : Tv) (V : World) : Prop where
  rs : RS w0 g p r ao cap V
  kp : Kp (fun k => k = g) W V
  rb : V.heap[W.heap.size]? = some (NdB 0 tv0 (.slice none 0 0))
  fb : V.heap[W.heap.size + 1]? = some (EvB ek en ed)
theorem r2_start {w0 W : World} {g p : Nat} {l r : List Ev} {ao ao2 : Option Addr} {cap cap2 : Nat} (h : RS w0 g p l ao cap W) (hl : Le w0 ao2 r) (hc : r.length ≤ cap2) (hm : cap2 ≤ maxLen) (ek en : Int) (ed : Tv) :
    R2 w0 W g p r ao2 cap2 ek en ed (((W.setCell ⟨g, 0, none⟩ (.slice ao2 r.length cap2)).alloc (NdB 0 tv0 (.slice none 0 0))).alloc (EvB ek en ed)) := by
  have e0 : (W.setCell ⟨g, 0, none⟩ (.slice ao2 r.length cap2)).heap.size = W.heap.size := by show (W.heap.modify g _).size = _; rw [Array.size_modify]
  have e1 := size_al (W.setCell ⟨g, 0, none⟩ (.slice ao2 r.length cap2)) (NdB 0 tv0 (.slice none 0 0))
  have b1 := below_new (W.setCell ⟨g, 0, none⟩ (.slice ao2 r.length cap2)) (NdB 0 tv0 (.slice none 0 0))
  have b2 := below_new ((W.setCell ⟨g, 0, none⟩ (.slice ao2 r.length cap2)).alloc (NdB 0 tv0 (.slice none 0 0))) (EvB ek en ed)
  refine ⟨((h.set hl hc hm).below b1).below b2, ((Kp.set _ _ _ _).alloc _).alloc _, ?_, ?_⟩
  · refine alloc_at' ?_ _
    rw [← e0]
    exact new_at _ _
  · rw [← e0, ← e1]
    exact new_at _ _
theorem R2.below {w0 W : World} {g p : Nat} {r : List Ev} {ao : Option Addr} {cap : Nat} {ek en : Int} {ed : Tv} {V V' : World} (h : R2 w0 W g p r ao cap ek en ed V) (hb : Below V.heap.size V V') : R2 w0 W g p r ao cap ek en ed V' :=
  ⟨h.rs.below hb, h.kp.step (T := fun _ => False) (Kp.of_below hb) (fun _ _ h => h.elim), blk_below h.rb hb, blk_below h.fb hb⟩
/-- What is answered is written. -/
theorem R2.out {w0 W : World} {g p : Nat} {r : List Ev} {ao : Option Addr} {cap : Nat} {ek en : Int} {ed : Tv} {V : World} (h : R2 w0 W g p r ao cap ek en ed V) (hgW : g < W.heap.size) (hpW : p < W.heap.size) (k : Int) (d : Tv) (s : Value) :
    RS w0 g p r ao cap (sets8 V W.heap.size k d s) ∧ Kp (fun k => k = g) W (sets8 V W.heap.size k d s) ∧ (sets8 V W.heap.size k d s).heap[W.heap.size]? = some (NdB k d s) := by
  have hk := sets8_kp V W.heap.size k d s
  have hw : w0.heap.size ≤ W.heap.size := by have := h.rs.g0; omega
  refine ⟨h.rs.kp hk (fun j e => by subst e; exact ⟨hw, by omega, by omega⟩), h.kp.step hk (fun j hj e => by omega), sets8_at h.rb k d s⟩

set_option maxRecDepth 100000 in
set_option maxHeartbeats 1000000 in
theorem read_leaf (w0 : World) (g p : Nat) (e : Ev) (r : List Ev) (h1 : e.k ≠ 1) : ReadC w0 g p (e :: r) := by
  intro a ao cap W ha h3 hI
  obtain ⟨b, off, ao2, cap2, rfl, hbl, ⟨c0, c1, c2, c3, c4, c5, c6, c7⟩, hsl, hc2, hm2, hle2⟩ := hI.le.tail (cap := cap) (by have := hI.lc; simpa using this) hI.cm
  have HI : Hid (RS w0 g p (e :: r) (some ⟨b, off, none⟩) cap W) := hI
  have tr : ∀ i u, w0.cell? ⟨b, i, none⟩ = some u → W.cell? ⟨b, i, none⟩ = some u := fun i u hu => (World.cell?_of_block (a := ⟨b, i, none⟩) (hI.bel.block b hbl)).trans hu
  replace c0 := tr _ _ c0
  replace c1 := tr _ _ c1
  replace c2 := tr _ _ c2
  replace c3 := tr _ _ c3
  replace c4 := tr _ _ c4
  replace c5 := tr _ _ c5
  replace c6 := tr _ _ c6
  replace c7 := tr _ _ c7
  have hbW : b < W.heap.size := World.block_lt_of_cell? _ _ c0
  have hgW : g < W.heap.size := blk_lt hI.hg
  have hcg : W.cell? ⟨g, 0, none⟩ = some (.slice (some ⟨b, off, none⟩) (r.length + 1) cap) := blk_cell hI.hg rfl
  have hfg : W.frozen? ⟨g, 0, none⟩ = false := blk_frozen hI.hg
  have hbg : b ≠ g := fun e => by have := hI.g0; omega
  have hk1 : (e.k == 1) = false := by simpa using h1
  have hk1' : (e.k != 1) = true := by simpa using h1
  obtain ⟨⟨ek, en, ed⟩, he⟩ : ∃ x, e = x := ⟨_, rfl⟩
  subst he
  dsimp only at *
  have HKf : Hid (∀ V, Calls Tryz.prog 31 #[.agg #[.int .u8 ed.k, .string ed.t, .int .i64 ed.a, .int .i64 ed.l, .int .i64 ed.c, .int .i64 ed.f]] V fun r w' => r = .returned (.int .u8 (kof ed)) ∧ Below V.heap.size V w') := fun V => kindOf_any ed V
  have hpW : p < W.heap.size := blk_lt hI.hp
  have hok : (if (ek == kof ed) = true then Aft a (⟨ek, en, ed⟩ :: r) (.mk 0 ed []) r else Bad a (⟨ek, en, ed⟩ :: r)) := by
    by_cases hq : ek = kof ed
    · rw [if_pos (by simpa using hq)]
      exact leaf_good (e := ⟨ek, en, ed⟩) hq
    · rw [if_neg (by simpa using hq)]
      exact leaf_bad (e := ⟨ek, en, ed⟩) h1 hq (h3 _ _ rfl)
  have HOK := show Hid _ from hok
  obtain ⟨W2, eW2⟩ : ∃ W2, ((W.setCell ⟨g, 0, none⟩ (.slice ao2 r.length cap2)).alloc (NdB 0 tv0 (.slice none 0 0))).alloc (EvB ek en ed) = W2 := ⟨_, rfl⟩
  have H2 : Hid (R2 w0 W g p r ao2 cap2 ek en ed W2) := by rw [← eW2]; exact r2_start hI hle2 hc2 hm2 ek en ed
  clear hI tr hok
  go_enter Tryz.func39, Tryz.ntmps39
  go_wp2_with fail
  dsimp only [NdB, EvB, tv0] at eW2
  rw [eW2]
  obtain ⟨⟨f0, f1, f2, f3, f4, f5, f6, f7⟩, fl⟩ := ev_cells H2.out.fb
  obtain ⟨⟨r0, r1, r2, r3, r4, r5, r6, r7⟩, rl⟩ := nd_cells H2.out.rb
  clear eW2 c0 c1 c2 c3 c4 c5 c6 c7 hcg hfg hsl
  go_region_law (first | (go_simp; go_at_call 31; refine (HKf.out _).mono ?_; rintro x w4 ⟨rfl, hb4⟩; have H4 : Hid (R2 w0 W g p r ao2 cap2 ek en ed w4) := H2.out.below ((Below.refl _ _).drew.trans (hb4.mono (Nat.le_refl _))); obtain ⟨⟨d0, d1, d2, d3, d4, d5, d6, d7⟩, dl⟩ := ev_cells H4.out.fb; obtain ⟨⟨s0, s1, s2, s3, s4, s5, s6, s7⟩, sl⟩ := nd_cells H4.out.rb; obtain ⟨z0, z1, z2, z3, z4, z5, z6, z7⟩ := nd_frozen H4.out.rb; clear hb4))
  all_goals (
    go_wp2_with fail
    have h9 := H4.out.out hgW hpW 0 ed (.slice none 0 0)
    obtain ⟨w9, e9⟩ : ∃ w9, sets8 w4 W.heap.size 0 ed (.slice none 0 0) = w9 := ⟨_, rfl⟩
    rw [e9] at h9
    dsimp only [sets8] at e9
    rw [e9]
    obtain ⟨⟨x0, x1, x2, x3, x4, x5, x6, x7⟩, xl⟩ := nd_cells h9.2.2
    refine bodyPost_ret (v := .tuple #[ndv 0 ed (.slice none 0 0), .bool (ek == kof ed)]) (by simp [results, Tryz.f39, go_sem, x0, x1, x2, x3, x4, x5, x6, x7]) rfl ?_
    exact ⟨.mk 0 ed [], .slice none 0 0, ek == kof ed, r, ao2, cap2, rfl, h9.1, h9.2.1, by simp, tn_nil _ _ _ _, HOK.out⟩)
end Go.Proofs.YtkigadnkclkopaaGreat
