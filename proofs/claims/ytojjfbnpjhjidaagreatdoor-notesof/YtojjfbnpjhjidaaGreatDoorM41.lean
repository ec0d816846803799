import Derived.Test.YtojjfbnpjhjidaaGreatDoorM32
import Derived.Test.YtojjfbnpjhjidaaGreatDoorM40
set_option linter.unusedVariables false
set_option linter.unusedSimpArgs false
namespace Go.Proofs.YtojjfbnpjhjidaaGreatDoor
open Go.RowKit
theorem Rm.up {B : Nat} {w : World} {v : Value} {l : List Rmk} (h : Rm B w v l) : ∀ k, v.ownBlock = some k → k < w.heap.size := by
  intro k hk
  rcases h.2 with ⟨rfl, h0⟩ | ⟨b, cap, cur, rfl, hb, h3, _⟩
  · cases hk
  · simp only [Value.ownBlock, Option.some.injEq] at hk
    subst hk
    exact blk_lt h3
structure Ow (w W : World) (v : Value) (n : Nat) : Prop where
  row : ∃ xs, W.ownsRow 0 38 3 v n xs
  kp : Kp (fun k => some k = v.ownBlock) w W
theorem Ow.at_ {w W : World} {g n cap k : Nat} (h : Ow w W (.slice (some ⟨g, 0, none⟩) n cap) n) (hk : k < n) : (∃ u0 u1 u2, W.cell? ⟨g, k * 3, none⟩ = some u0 ∧ W.cell? ⟨g, k * 3 + 1, none⟩ = some u1 ∧ W.cell? ⟨g, k * 3 + 2, none⟩ = some u2) ∧ ∀ j, W.frozen? ⟨g, j, none⟩ = false := by
  obtain ⟨xs, hx1, hx2⟩ := h.row
  rcases hx2 with ⟨hv, _⟩ | ⟨g', cap', cur, hv, h1, h2, h3, h4, h5, h6⟩
  · cases hv
  · cases hv
    have hin : ∀ j, j < 3 → ∃ u, cur[k * 3 + j]? = some u := fun j hj => ⟨_, Array.getElem?_eq_getElem (by have := Nat.mul_le_mul_right 3 (Nat.le_trans hk h3); omega)⟩
    obtain ⟨u0, e0⟩ := hin 0 (by omega)
    obtain ⟨u1, e1⟩ := hin 1 (by omega)
    obtain ⟨u2, e2⟩ := hin 2 (by omega)
    exact ⟨⟨u0, u1, u2, blk_cell h2 e0, blk_cell h2 e1, blk_cell h2 e2⟩, fun j => blk_frozen h2⟩
theorem Ow.set {w W : World} {g n cap : Nat} (h : Ow w W (.slice (some ⟨g, 0, none⟩) n cap) n) (k : Nat) (u : Value) : Ow w (W.setCell ⟨g, k, none⟩ u) (.slice (some ⟨g, 0, none⟩) n cap) n := by
  obtain ⟨xs, hx1, hx2⟩ := h.row
  rcases hx2 with ⟨hv, _⟩ | ⟨g', cap', cur, hv, h1, h2, h3, h4, h5, h6⟩
  · cases hv
  · cases hv
    refine ⟨⟨(cur.setIfInBounds k u).toList.take (n * 3), ?_, .inr ⟨g, cap, _, rfl, h1, blk_set h2 k u, h3, h4, by simpa using h5, rfl⟩⟩, h.kp.step (Kp.set W g k u) (fun j _ e => by rw [e]; rfl)⟩
    rw [List.length_take]
    simp
    have := Nat.mul_le_mul_right 3 h3
    omega
theorem kp_low {S : Nat → Prop} {B : Nat} {w W W' : World} (h : Below B w W) (hk : Kp S W W') (hS : ∀ k, S k → B ≤ k) (hB : B ≤ W.heap.size) : Below B w W' :=
  h.trans ⟨hk.os, hk.tape, hk.output, hk.size, fun j hj => hk.block j (Nat.lt_of_lt_of_le hj hB) (fun hs => by have := hS j hs; omega)⟩
structure Th (W wr : World) (R : List Rmk) (vw va vb : Value) : Prop where
  bel : Below W.heap.size W wr
  want : ∃ B, Rm B wr vw R
  fst : ∃ B, Rm B wr va R ∧ W.heap.size ≤ B
  snd : ∃ B, Rm B wr vb R
  ne : ∀ k, va.ownBlock = some k → ¬ vw.ownBlock = some k ∧ ¬ vb.ownBlock = some k
theorem Th.on {W wr V : World} {R : List Rmk} {vw va vb : Value} (h : Th W wr R vw va vb) (hb : Below wr.heap.size wr V) : Th W V R vw va vb := by
  obtain ⟨B1, h1⟩ := h.want
  obtain ⟨B2, h2, h3⟩ := h.fst
  obtain ⟨B4, h4⟩ := h.snd
  exact ⟨h.bel.trans (hb.mono h.bel.size), ⟨B1, h1.below hb⟩, ⟨B2, h2.below hb, h3⟩, ⟨B4, h4.below hb⟩, h.ne⟩
theorem Th.end_ {W w7 wr : World} {R : List Rmk} {vw va vb : Value} (h : Th W w7 R vw va vb) {n : Nat} (ho : Ow w7 wr va n) : (∃ B, Rm B wr vw R) ∧ (∃ B, Rm B wr vb R) ∧ Below W.heap.size W wr := by
  obtain ⟨B1, h1⟩ := h.want
  obtain ⟨B2, h2, h3⟩ := h.fst
  obtain ⟨B4, h4⟩ := h.snd
  refine ⟨⟨B1, h1.kp ho.kp (fun k e e2 => (h.ne k e2.symm).1 e)⟩, ⟨B4, h4.kp ho.kp (fun k e e2 => (h.ne k e2.symm).2 e)⟩, kp_low h.bel ho.kp (fun k e => ?_) h.bel.size⟩
  have := h2.own k e.symm
  omega
theorem lm_of {B : Nat} {w : World} {p : Option Addr} {n c : Nat} {l : List Rmk} (h : Rm B w (.slice p n c) l) : Lm w p l := by
  obtain ⟨a, c, e, h1, _⟩ := Lm.row h
  cases e
  exact h1
set_option maxHeartbeats 2000000 in
set_option maxRecDepth 100000 in
theorem nof_walk {s : ByteArray} {R : List Rmk} {E x y z : Int} {W : World} (hs : s.size ≤ maxLen) (hE : ETy W)
    (HA : Hid (Calls Tryz.prog 5 #[] W fun r w' => r = .returned (.bool true) ∧ Below W.heap.size W w'))
    (HD : Hid (s.size ≤ 2097152 → ∀ V, Below W.heap.size W V → Calls Tryz.prog 6 #[.string s] V (OdP V E x y z R)))
    (HC : Hid (s.size ≤ 2097152 → ∀ V, Below W.heap.size W V → Calls Tryz.prog 7 #[.string s] V (OcP V E x y z R))) (hR : s.size ≤ 2097152 → R.length ≤ 1000000000) :
    Calls Tryz.prog 3 #[.string s] W fun r w' => r = .returned (.bool true) ∧ Below W.heap.size W w' := by
  by_cases hb : 2097152 < s.size
  · have q : (s.size : Int) > 2097152 := by omega
    clear hb HD HC hE
    go_enter Tryz.func3, Tryz.ntmps3
    go_wp2_with fail
    refine HA.out.mono ?_
    rintro r w1 ⟨rfl, hb1⟩
    have H1 : Hid (Below W.heap.size W w1) := hb1
    clear hb1
    go_wp2_with fail
    go_ret
    exact ⟨rfl, H1.out⟩
  have q : ¬ ((s.size : Int) > 2097152) := by omega
  have HD' := show Hid _ from HD.out (by omega)
  have HC' := show Hid _ from HC.out (by omega)
  have hr := hR (by omega)
  have HI : Hid (∀ V er, Below W.heap.size W V → Er V er E x y z → Calls Tryz.prog 8 #[er, ftv E x y z] V fun r w' => r = .returned (.bool true) ∧ Below V.heap.size V w') := fun V er h1 h2 => lis_any (hE.below h1) h2
  have HS : Hid (∀ V p q c d, Lm V p R → Lm V q R → Calls Tryz.prog 9 #[.slice p R.length c, .slice q R.length d] V fun r w' => r = .returned (.bool true) ∧ Below V.heap.size V w') := fun V p q c d h1 h2 => nsame_eq h1 h2 hr
  clear hb HD HC hE hR
  go_enter Tryz.func3, Tryz.ntmps3
  go_wp2_with fail
  refine HA.out.mono ?_
  rintro r w1 ⟨rfl, hb1⟩
  have H1 : Hid (Below W.heap.size W w1) := hb1
  clear hb1 HA
  go_wp2_with fail
  refine (HD'.out _ H1.out).mono ?_
  rintro r w2 ⟨vw, rfl, hw2, hb2⟩
  obtain ⟨pw, cw, rfl, -, -⟩ := hw2.shape
  obtain ⟨V2, eV2⟩ : ∃ V2, w2.alloc (ftb E x y z) = V2 := ⟨_, rfl⟩
  obtain ⟨g2, hg2⟩ : ∃ g2, w2.heap.size = g2 := ⟨_, rfl⟩
  have hx : Below w2.heap.size w2 V2 := by rw [← eV2]; exact (Below.refl _ _).alloc (Nat.le_refl _) _
  have k2 : V2.heap[g2]? = some (ftb E x y z) := by rw [← eV2, ← hg2]; exact new_at _ _
  have H2 : Hid (Below W.heap.size W V2 ∧ V2.heap[g2]? = some (ftb E x y z) ∧ Rm w1.heap.size V2 (.slice pw R.length cw) R) := ⟨by have h := H1.out.trans (hb2.mono H1.out.size); exact h.trans (hx.mono h.size), k2, hw2.below hx⟩
  clear hb2 hx k2 H1 hw2
  go_wp2_with fail
  try rw [eV2]
  try rw [hg2]
  clear eV2 hg2
  refine (HC'.out _ H2.out.1).mono ?_
  rintro r w3 ⟨va, ea, rfl, ha3, he3, hb3⟩
  obtain ⟨pa, ca, rfl, -, -⟩ := ha3.shape
  have H3 : Hid (Below W.heap.size W w3 ∧ w3.heap[g2]? = some (ftb E x y z) ∧ Rm w1.heap.size w3 (.slice pw R.length cw) R ∧ Rm V2.heap.size w3 (.slice pa R.length ca) R ∧ Er w3 ea E x y z ∧ W.heap.size ≤ V2.heap.size ∧ ∀ k, (Value.slice pw R.length cw).ownBlock = some k → k < V2.heap.size) := ⟨H2.out.1.trans (hb3.mono H2.out.1.size), blk_below H2.out.2.1 hb3, H2.out.2.2.below hb3, ha3, he3, H2.out.1.size, H2.out.2.2.up⟩
  clear ha3 he3 hb3 H2
  go_wp2_with fail
  refine (HC'.out _ H3.out.1).mono ?_
  rintro r w4 ⟨vb, eb, rfl, hv4, he4, hb4⟩
  obtain ⟨pb, cb, rfl, -, -⟩ := hv4.shape
  have H4 : Hid (Th W w4 R (.slice pw R.length cw) (.slice pa R.length ca) (.slice pb R.length cb) ∧ w4.heap[g2]? = some (ftb E x y z) ∧ Er w4 ea E x y z ∧ Er w4 eb E x y z) := by
    obtain ⟨h1, h2, h3, h4, h5, h6, h7⟩ := H3.out
    refine ⟨⟨h1.trans (hb4.mono h1.size), ⟨_, h3.below hb4⟩, ⟨_, h4.below hb4, h6⟩, ⟨_, hv4⟩, fun k hk => ⟨fun e => ?_, fun e => ?_⟩⟩, blk_below h2 hb4, h5.below hb4, he4⟩
    · have := h4.own k hk
      have := h7 k e
      omega
    · have := h4.up k hk
      have := hv4.own k e
      omega
  obtain ⟨c0, c1, c2, c3⟩ := ft_cells H4.out.2.1
  clear hv4 he4 hb4 H3 HC' HD'
  go_wp2_with fail
  refine (HI.out _ _ H4.out.1.bel H4.out.2.2.1).mono ?_
  rintro r w5 ⟨rfl, hb5⟩
  have H5 : Hid (Th W w5 R (.slice pw R.length cw) (.slice pa R.length ca) (.slice pb R.length cb) ∧ w5.heap[g2]? = some (ftb E x y z) ∧ Er w5 eb E x y z) := ⟨H4.out.1.on hb5, blk_below H4.out.2.1 hb5, H4.out.2.2.2.below hb5⟩
  obtain ⟨d0, d1, d2, d3⟩ := ft_cells H5.out.2.1
  clear hb5 H4 c0 c1 c2 c3
  go_wp2_with fail
  refine (HI.out _ _ H5.out.1.bel H5.out.2.2).mono ?_
  rintro r w6 ⟨rfl, hb6⟩
  have H6 : Hid (Th W w6 R (.slice pw R.length cw) (.slice pa R.length ca) (.slice pb R.length cb)) := H5.out.1.on hb6
  clear hb6 H5 d0 d1 d2 d3
  go_wp2_with fail
  obtain ⟨⟨B1, r1⟩, ⟨B2, r2, _⟩, -⟩ := And.intro H6.out.want (And.intro H6.out.fst trivial)
  refine (HS.out _ _ _ _ _ (lm_of r2) (lm_of r1)).mono ?_
  clear r1 r2
  rintro r w7 ⟨rfl, hb7⟩
  have H7 : Hid (Th W w7 R (.slice pw R.length cw) (.slice pa R.length ca) (.slice pb R.length cb)) := H6.out.on hb7
  clear hb7 H6
  go_wp2_with fail
  go_loopw [13] (fun i wr => ∃ j : Nat, j ≤ R.length ∧ i = .int .i64 j ∧ Hid (Ow w7 wr (.slice pa R.length ca) R.length)) (fun i _ => R.length - (intOf i).toNat)
  case atStart =>
    obtain ⟨B, h, _⟩ := H7.out.fst
    refine ⟨0, Nat.zero_le _, rfl, ⟨⟨_, h.1, ?_⟩, Kp.refl _ _⟩⟩
    rcases h.2 with h1 | ⟨g, cap, cur, h0, h2, h3⟩
    · exact .inl h1
    · exact .inr ⟨g, cap, cur, h0, Nat.zero_le _, h3⟩
  case round =>
    obtain ⟨j, hj, rfl, HJ⟩ := hrel
    by_cases hlt : j < R.length
    · have q1 : (j : Int) < R.length := by omega
      have q0 : (0 : Int) ≤ j := by omega
      obtain ⟨ga, rfl⟩ : ∃ ga, pa = some ⟨ga, 0, none⟩ := by
        obtain ⟨xs, _, h⟩ := HJ.out.row
        rcases h with ⟨_, h0⟩ | ⟨g, cap, cur, h0, _⟩
        · omega
        · cases h0; exact ⟨g, rfl⟩
      obtain ⟨⟨u0, u1, u2, y0, y1, y2⟩, fz⟩ := HJ.out.at_ hlt
      have HX := show Hid _ from ((HJ.out.set (j * 3) (.int .i64 (-1))).set (j * 3 + 1) (.string ⟨#[]⟩)).set (j * 3 + 2) (.bool false)
      clear HJ H7 HI HS
      go_wp2_with fail
      exact ⟨⟨j + 1, hlt, by go_num, HX⟩, by simp [intOf]; omega⟩
    · obtain rfl : j = R.length := by omega
      have q1 : ¬ ((R.length : Int) < R.length) := by omega
      obtain ⟨⟨B1, r1⟩, ⟨B2, r2⟩, r3⟩ := H7.out.end_ HJ.out
      have H8 : Hid (Lm wr pb R ∧ Lm wr pw R ∧ Below W.heap.size W wr) := ⟨lm_of r2, lm_of r1, r3⟩
      clear r1 r2 r3 HJ H7
      go_wp2_with fail
      refine (HS.out _ _ _ _ _ H8.out.1 H8.out.2.1).mono ?_
      rintro r w9 ⟨rfl, hb9⟩
      have H9 : Hid (Below W.heap.size W w9) := H8.out.2.2.trans (hb9.mono H8.out.2.2.size)
      clear hb9 H8
      go_wp2_with fail
      go_ret
      exact ⟨rfl, H9.out⟩
theorem rof_any (s : ByteArray) (hs : s.size ≤ 100000000) (W : World) : Calls Tryz.prog 6 #[.string s] W (OdP W (eN s) (eX s) (eY s) (eZ s) (rem s)) := by
  have HS : ∀ V, Calls Tryz.prog 12 #[.string s] V (AlP V (eN s) (eX s) (eY s) (eZ s) (ntk s)) := fun V => (Lx.rall_any s V (by omega)).mono fun e w' h => alp_of h
  have hl := ntk_len s
  by_cases h0 : (Lx.scn s).2.1 = 0
  · have e1 : eN s = 0 := by unfold eN; rw [h0]; rfl
    have e2 : eX s = 0 := if_pos h0
    have e3 : eY s = 0 := if_pos h0
    have e4 : eZ s = 0 := if_pos h0
    unfold rem
    rw [if_pos h0]
    rw [e1, e2, e3, e4] at HS ⊢
    exact rof_good HS (by omega)
  · unfold rem
    rw [if_neg h0]
    exact rof_err HS (by unfold eN; omega)
theorem rst_any (s : ByteArray) (hs : s.size ≤ 100000000) (W : World) : Calls Tryz.prog 10 #[.string s] W (SdP W (eN s) (eX s) (eY s) (eZ s) (str s)) := by
  have HS : ∀ V, Calls Tryz.prog 12 #[.string s] V (AlP V (eN s) (eX s) (eY s) (eZ s) (ntk s)) := fun V => (Lx.rall_any s V (by omega)).mono fun e w' h => alp_of h
  have hl := ntk_len s
  by_cases h0 : (Lx.scn s).2.1 = 0
  · have e1 : eN s = 0 := by unfold eN; rw [h0]; rfl
    have e2 : eX s = 0 := if_pos h0
    have e3 : eY s = 0 := if_pos h0
    have e4 : eZ s = 0 := if_pos h0
    unfold str
    rw [if_pos h0]
    rw [e1, e2, e3, e4] at HS ⊢
    exact rst_good HS (by omega) (by omega) (ntk_chn s)
  · unfold str
    rw [if_neg h0]
    exact rst_err HS (by unfold eN; omega)
theorem rem_len (s : ByteArray) : (rem s).length ≤ s.size := by
  unfold rem
  split
  · exact Nat.le_trans (rmk_len _ _ _) (ntk_len s)
  · exact Nat.zero_le _
theorem notesOf_any (s : ByteArray) (hs : s.size ≤ maxLen) (W : World) (hT : Lx.Kab W) (hE : ETy W) : Calls Tryz.prog 3 #[.string s] W fun r w' => r = .returned (.bool true) ∧ Below W.heap.size W w' :=
  nof_walk hs hE (nawk_any hT) (fun h V hb => rof_any s (by omega) V) (fun h V hb => nof_cal (hT.below hb) (by omega) (ntk_sz (by omega))) (fun h => by have := rem_len s; omega)
theorem notesStrip_any (s : ByteArray) (hs : s.size ≤ maxLen) (W : World) (hT : Lx.Kab W) (hE : ETy W) : Calls Tryz.prog 4 #[.string s] W fun r w' => r = .returned (.bool true) ∧ Below W.heap.size W w' :=
  nstrip_walk hs hE (nawk_any hT) (fun h V hb => rst_any s (by omega) V) (fun h V hb => nst_cal (hT.below hb) (by omega) (ntk_sz (by omega)))
end Go.Proofs.YtojjfbnpjhjidaaGreatDoor
