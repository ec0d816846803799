import Derived.Test.YtkigadnkclkopaaGreatU1
set_option linter.unusedVariables false
set_option linter.unusedSimpArgs false
namespace Go.Proofs.YtkigadnkclkopaaGreat
open Go.RowKit

/-! relation, statement, branch. -/
def relL : List ByteArray := [⟨#[61]⟩, ⟨#[35]⟩, ⟨#[60]⟩, ⟨#[60, 61]⟩, ⟨#[62]⟩, ⟨#[62, 61]⟩]
theorem qn_has {L : List Tv} {d : D} {k : Int} {l : List ByteArray} {s : ByteArray} {j : Nat} (hj : l[j]? = some s) (h : qn L d (wk k s) = true) : qn L d (fun t => Fl.takes t (.wd k l)) = true := by
  unfold qn at h ⊢
  cases hn : nxt L d with
  | none => rw [hn] at h; cases h
  | some t =>
    rw [hn] at h
    simp only [Option.elim, wk, Bool.and_eq_true, decide_eq_true_eq, Fl.takes] at h ⊢
    exact ⟨h.1, List.any_eq_true.2 ⟨s, List.mem_of_getElem? hj, by simp [h.2]⟩⟩
theorem qn_hasn {L : List Tv} {d : D} {k : Int} {l : List ByteArray} (h : ∀ (j : Nat) s, l[j]? = some s → qn L d (wk k s) = false) : qn L d (fun t => Fl.takes t (.wd k l)) = false := by
  unfold qn at h ⊢
  cases hn : nxt L d with
  | none => rfl
  | some t =>
    rw [hn] at h
    simp only [Option.elim, wk, Fl.takes] at h ⊢
    cases hk : (t.k == k) with
    | false => rfl
    | true =>
      rw [Bool.true_and]
      refine List.any_eq_false.2 (fun s hs => ?_)
      obtain ⟨j, hj, e⟩ := List.getElem_of_mem hs
      have := h j s (by rw [← e]; exact List.getElem?_eq_getElem hj)
      simpa [hk] using this
set_option maxHeartbeats 4194304 in
theorem rel_ct (n : Nat) (C1 : CT .sum 145 60 n) (C2 : CA .sum 145 60 n) : CT .rel 131 55 n := by
  intro X r d W h hr hm
  have H0 : Hid (RD X r d W) := h
  have HM : Hid (ms X.L d ≤ n) := hm
  clear h hm
  go_enter Tryz.func131, Tryz.ntmps131
  go_wp2_with fail
  refine (opens_any H0.out (by omega) 22).mono ?_
  rintro e w1 ⟨rfl, h1⟩
  have H1 := show Hid _ from h1
  clear h1
  go_wp2_with fail
  refine (C1 X _ _ _ H1.out (by omega) (by have m0 := HM.out; have m1 : ms X.L (opD 22 d) = ms X.L d := ms_op; omega)).mono ?_
  rintro e w2 ⟨rfl, d2, h2, i2⟩
  have H2 := show Hid _ from h2
  have I2 := show Hid _ from i2
  clear h2 i2
  go_wp2_with fail
  obtain ⟨wA, eA⟩ : ∃ wA, w2.alloc (.cells #[.string ⟨#[61]⟩, .string ⟨#[35]⟩, .string ⟨#[60]⟩, .string ⟨#[60, 61]⟩, .string ⟨#[62]⟩, .string ⟨#[62, 61]⟩] 9) = wA := ⟨_, rfl⟩
  have HA : Hid (Below w2.heap.size w2 wA ∧ wA.heap[w2.heap.size]? = some (.cells #[.string ⟨#[61]⟩, .string ⟨#[35]⟩, .string ⟨#[60]⟩, .string ⟨#[60, 61]⟩, .string ⟨#[62]⟩, .string ⟨#[62, 61]⟩] 9)) := by rw [← eA]; exact ⟨below_new _ _, new_at _ _⟩
  obtain ⟨b, eb⟩ : ∃ b, w2.heap.size = b := ⟨_, rfl⟩
  rw [eb] at HA
  try rw [eA]
  try rw [eb]
  clear eA
  have HS : Hid (RD X 0 d2 wA) := H2.out.below (by rw [eb]; exact HA.out.1)
  have HC : Hid (∀ V, Below wA.heap.size wA V → ∀ j s, relL[j]? = some s → V.cell? ⟨b, j, none⟩ = some (.string s)) := fun V hb j s hj => by
    have h1 := blk_below HA.out.2 hb
    have hl := (List.getElem?_eq_some_iff.1 hj).1
    simp only [relL, List.length_cons, List.length_nil] at hl
    match j, hl with
    | 0, _ => cases hj; exact blk_cell h1 rfl
    | 1, _ => cases hj; exact blk_cell h1 rfl
    | 2, _ => cases hj; exact blk_cell h1 rfl
    | 3, _ => cases hj; exact blk_cell h1 rfl
    | 4, _ => cases hj; exact blk_cell h1 rfl
    | 5, _ => cases hj; exact blk_cell h1 rfl
  clear eb
  go_loopw [3, 4] (fun iv _ wr => ∃ j : Nat, j ≤ 6 ∧ iv = .int .i64 j ∧ Hid (RD X 0 d2 wr ∧ Below wA.heap.size wA wr ∧ ∀ q s, q < j → relL[q]? = some s → qn X.L d2 (wk 6 s) = false)) (fun iv _ _ => 6 - (intOf iv).toNat)
  case atStart => exact ⟨0, Nat.zero_le _, rfl, HS.out, Below.refl _ _, fun q s h => by omega⟩
  case round =>
    obtain ⟨j, hj, rfl, HJ⟩ := hrel
    by_cases hlt : j < 6
    · have q1 : (j : Int) < 6 := by omega
      have q2 : (0 : Int) ≤ j := by omega
      obtain ⟨s, hs⟩ : ∃ s, relL[j]? = some s := ⟨_, List.getElem?_eq_getElem hlt⟩
      have c0 := HC.out wr HJ.out.2.1 j s hs
      have hbl := World.block_lt_of_cell? _ _ c0
      have HSS : Hid (relL[j]? = some s) := hs
      clear hs
      obtain ⟨b3, e3⟩ : ∃ b, qn X.L d2 (wk 6 s) = b := ⟨_, rfl⟩
      have HL3 : Hid (∀ V, Below wr.heap.size wr V → Calls Tryz.prog 80 #[pt X.g, .string s] V fun e w' => e = .returned (.bool b3) ∧ Below V.heap.size V w') := fun V hb => by rw [← e3]; exact rsign_any (HJ.out.1.below hb) _
      have E3 : Hid (qn X.L d2 (wk 6 s) = b3) := e3
      clear e3
      cases b3 with
      | true =>
        go_wp2_with fail
        refine (HL3.out _ (Below.refl _ _)).mono ?_
        rintro e w3 ⟨rfl, hb3⟩
        have HB3 : Hid (Below wr.heap.size wr w3) := hb3
        clear hb3
        have H4 := show Hid _ from HJ.out.1.below HB3.out
        go_wp2_with fail
        refine (take_true H4.out (by omega) (x := .wd 6 relL) (qn_has HSS.out E3.out)).mono ?_
        rintro e w5 ⟨rfl, h5⟩
        have H5 := show Hid _ from h5
        clear h5
        go_wp2_with fail
        refine (C2 (ms X.L (tkI X.L (.wd 6 relL) d2)) (by have m0 := HM.out; have m1 : ms X.L (opD 22 d) = ms X.L d := ms_op; have m2 := ms_ib I2.out; have mv := ms_live E3.out; have m5 := ms_tkI (L := X.L) (x := .wd 6 relL) (d := d2); omega) X _ _ _ H5.out (by omega) (Nat.le_refl _)).mono ?_
        rintro e w6 ⟨rfl, d6, h6, i6⟩
        have H6 := show Hid _ from h6
        have I6 := show Hid _ from i6
        clear h6 i6
        go_wp2_with fail
        refine (closes_any 22 H6.out (pn_ib (pn_tk (pn_ib pn_op rfl I2.out)) rfl I6.out)).mono ?_
        rintro e w7 ⟨rfl, h7⟩
        have H7 := show Hid _ from h7
        clear h7
        go_wp2_with fail
        go_end0
        exact ⟨rfl, _, H7.out, ib_op rfl (rb_cons I2.out (rb_cons (ib_once1 (pick_row1 (qn_has HSS.out E3.out)) (ib_all (rb_cons ib_w (rb_cons I6.out rb_nil)))) (rb_cons ib_lv rb_nil)))⟩
      | false =>
        go_wp2_with fail
        refine (HL3.out _ (Below.refl _ _)).mono ?_
        rintro e w3 ⟨rfl, hb3⟩
        have HB3 : Hid (Below wr.heap.size wr w3) := hb3
        clear hb3
        have H8 := show Hid _ from HJ.out.1.below HB3.out
        go_wp2_with fail
        refine ⟨⟨j + 1, hlt, by go_num, H8.out, HJ.out.2.1.trans (HB3.out.mono HJ.out.2.1.size), fun q u hq hu => ?_⟩, by simp [intOf]; omega⟩
        by_cases e : q = j
        · subst e; rw [HSS.out] at hu; cases hu; exact E3.out
        · exact HJ.out.2.2 q u (by omega) hu
    · obtain rfl : j = 6 := by omega
      have H9 := show Hid _ from HJ.out.1
      go_wp2_with fail
      refine (closes_any 22 H9.out (pn_ib pn_op rfl I2.out)).mono ?_
      rintro e w9 ⟨rfl, h9⟩
      have H9 := show Hid _ from h9
      clear h9
      go_wp2_with fail
      go_end0
      exact ⟨rfl, _, H9.out, ib_op rfl (rb_cons I2.out (rb_cons (ib_once0 (pick_row0 (qn_hasn (l := relL) (fun q s hq => HJ.out.2.2 q s (List.getElem?_eq_some_iff.1 hq).1 hq)))) (rb_cons ib_lv rb_nil)))⟩
set_option maxHeartbeats 4194304 in
theorem branch_ct (n : Nat) (C1 : CA .expr 110 50 n) (C2 : CA .body 84 60 n) : ∀ (X : Rx) (r : Nat) (d : D) (W : World), RD X r d W → r ≤ 70 → ms X.L d ≤ n → 0 < ms X.L d → drow (nxt X.L d) .statement = .op 15 [.fl (.wd 2 [⟨#[105, 102]⟩]), .fl (.mt .expr), .fl (.wd 2 [⟨#[116, 104, 101, 110]⟩]), .fl (.mt .body), .again (.row [.wd 2 [⟨#[101, 108, 105, 102]⟩], .mt .expr, .wd 2 [⟨#[116, 104, 101, 110]⟩], .mt .body]), .once (.row [.wd 2 [⟨#[101, 108, 115, 101]⟩], .mt .body]), .fl (.wd 2 [⟨#[101, 110, 100]⟩])] → Calls Tryz.prog 133 #[pt X.g] W fun e w' => e = .returned (.tuple #[]) ∧ ∃ d', RD X 0 d' w' ∧ Ib X.L (.fl (.mt .statement)) d d' := by
  intro X r d W h hr hm hv hd
  have H0 : Hid (RD X r d W) := h
  have HM : Hid (ms X.L d ≤ n ∧ 0 < ms X.L d) := ⟨hm, hv⟩
  have HD := show Hid _ from hd
  clear h hm hv hd
  go_enter Tryz.func133, Tryz.ntmps133
  go_wp2_with fail
  refine (opens_any H0.out (by omega) 15).mono ?_
  rintro e w1 ⟨rfl, h1⟩
  have H1 := show Hid _ from h1
  clear h1
  go_wp2_with fail
  refine (rtakeWord_any H1.out (by omega) ⟨#[105, 102]⟩).mono ?_
  rintro e w2 ⟨rfl, h2⟩
  have H2 := show Hid _ from h2
  clear h2
  go_wp2_with fail
  refine (C1 (ms X.L (tkI X.L (.wd 2 [⟨#[105, 102]⟩]) (opD 15 d))) (by have m0 := HM.out; have m1 : ms X.L (opD 15 d) = ms X.L d := ms_op; have m2 := ms_tkI (L := X.L) (x := .wd 2 [⟨#[105, 102]⟩]) (d := (opD 15 d)); omega) X _ _ _ H2.out (by omega) (Nat.le_refl _)).mono ?_
  rintro e w3 ⟨rfl, d3, h3, i3⟩
  have H3 := show Hid _ from h3
  have I3 := show Hid _ from i3
  clear h3 i3
  go_wp2_with fail
  refine (rtakeWord_any H3.out (by omega) ⟨#[116, 104, 101, 110]⟩).mono ?_
  rintro e w4 ⟨rfl, h4⟩
  have H4 := show Hid _ from h4
  clear h4
  go_wp2_with fail
  refine (C2 (ms X.L (tkI X.L (.wd 2 [⟨#[116, 104, 101, 110]⟩]) d3)) (by have m0 := HM.out; have m1 : ms X.L (opD 15 d) = ms X.L d := ms_op; have m2 := ms_tkI (L := X.L) (x := .wd 2 [⟨#[105, 102]⟩]) (d := (opD 15 d)); have m3 := ms_ib I3.out; have m4 := ms_tkI (L := X.L) (x := .wd 2 [⟨#[116, 104, 101, 110]⟩]) (d := d3); omega) X _ _ _ H4.out (by omega) (Nat.le_refl _)).mono ?_
  rintro e w5 ⟨rfl, d5, h5, i5⟩
  have H5 := show Hid _ from h5
  have I5 := show Hid _ from i5
  clear h5 i5
  go_wp2_with fail
  go_loopw [2] (fun _ wr => ∃ dk, Hid (RD X 0 dk wr ∧ Lp X.L (.row [.wd 2 [⟨#[101, 108, 105, 102]⟩], .mt .expr, .wd 2 [⟨#[116, 104, 101, 110]⟩], .mt .body]) d5 dk)) (fun _ wr => ymW X wr)
  case atStart => exact ⟨_, H5.out, .refl⟩
  case round =>
    obtain ⟨dk, HJ⟩ := hrel
    obtain ⟨b6, e6⟩ : ∃ b, qn X.L dk (wk 2 ⟨#[101, 108, 105, 102]⟩) = b := ⟨_, rfl⟩
    have HL6 : Hid (∀ V, Below wr.heap.size wr V → Calls Tryz.prog 77 #[pt X.g, .string ⟨#[101, 108, 105, 102]⟩] V fun e w' => e = .returned (.bool b6) ∧ Below V.heap.size V w') := fun V hb => by rw [← e6]; exact rword_any (HJ.out.1.below hb) _
    have E6 : Hid (qn X.L dk (wk 2 ⟨#[101, 108, 105, 102]⟩) = b6) := e6
    clear e6
    cases b6 with
    | true =>
      go_wp2_with fail
      refine (HL6.out _ (Below.refl _ _)).mono ?_
      rintro e w6 ⟨rfl, hb6⟩
      have HB6 : Hid (Below wr.heap.size wr w6) := hb6
      clear hb6
      have H7 := show Hid _ from HJ.out.1.below HB6.out
      go_wp2_with fail
      refine (rtakeWord_any H7.out (by omega) ⟨#[101, 108, 105, 102]⟩).mono ?_
      rintro e w8 ⟨rfl, h8⟩
      have H8 := show Hid _ from h8
      clear h8
      go_wp2_with fail
      refine (C1 (ms X.L (tkI X.L (.wd 2 [⟨#[101, 108, 105, 102]⟩]) dk)) (by have m0 := HM.out; have m1 : ms X.L (opD 15 d) = ms X.L d := ms_op; have m2 := ms_tkI (L := X.L) (x := .wd 2 [⟨#[105, 102]⟩]) (d := (opD 15 d)); have m3 := ms_ib I3.out; have m4 := ms_tkI (L := X.L) (x := .wd 2 [⟨#[116, 104, 101, 110]⟩]) (d := d3); have m5 := ms_ib I5.out; have ml := HJ.out.2.le; have mv := ms_live E6.out; have m8 := ms_tkI (L := X.L) (x := .wd 2 [⟨#[101, 108, 105, 102]⟩]) (d := dk); omega) X _ _ _ H8.out (by omega) (Nat.le_refl _)).mono ?_
      rintro e w9 ⟨rfl, d9, h9, i9⟩
      have H9 := show Hid _ from h9
      have I9 := show Hid _ from i9
      clear h9 i9
      go_wp2_with fail
      refine (rtakeWord_any H9.out (by omega) ⟨#[116, 104, 101, 110]⟩).mono ?_
      rintro e w10 ⟨rfl, h10⟩
      have H10 := show Hid _ from h10
      clear h10
      go_wp2_with fail
      refine (C2 (ms X.L (tkI X.L (.wd 2 [⟨#[116, 104, 101, 110]⟩]) d9)) (by have m0 := HM.out; have m1 : ms X.L (opD 15 d) = ms X.L d := ms_op; have m2 := ms_tkI (L := X.L) (x := .wd 2 [⟨#[105, 102]⟩]) (d := (opD 15 d)); have m3 := ms_ib I3.out; have m4 := ms_tkI (L := X.L) (x := .wd 2 [⟨#[116, 104, 101, 110]⟩]) (d := d3); have m5 := ms_ib I5.out; have ml := HJ.out.2.le; have mv := ms_live E6.out; have m8 := ms_tkI (L := X.L) (x := .wd 2 [⟨#[101, 108, 105, 102]⟩]) (d := dk); have m9 := ms_ib I9.out; have m10 := ms_tkI (L := X.L) (x := .wd 2 [⟨#[116, 104, 101, 110]⟩]) (d := d9); omega) X _ _ _ H10.out (by omega) (Nat.le_refl _)).mono ?_
      rintro e w11 ⟨rfl, d11, h11, i11⟩
      have H11 := show Hid _ from h11
      have I11 := show Hid _ from i11
      clear h11 i11
      go_wp2_with fail
      exact ⟨⟨_, H11.out, HJ.out.2.step (pick_row1 (qn_wd E6.out)) (ib_all (rb_cons ib_w (rb_cons I9.out (rb_cons ib_w (rb_cons I11.out rb_nil)))))⟩, by rw [ymW_is H11.out, ymW_is HJ.out.1]; have m0 := HM.out; have m1 : ms X.L (opD 15 d) = ms X.L d := ms_op; have m2 := ms_tkI (L := X.L) (x := .wd 2 [⟨#[105, 102]⟩]) (d := (opD 15 d)); have m3 := ms_ib I3.out; have m4 := ms_tkI (L := X.L) (x := .wd 2 [⟨#[116, 104, 101, 110]⟩]) (d := d3); have m5 := ms_ib I5.out; have ml := HJ.out.2.le; have mv := ms_live E6.out; have m8 := ms_tkI (L := X.L) (x := .wd 2 [⟨#[101, 108, 105, 102]⟩]) (d := dk); have m9 := ms_ib I9.out; have m10 := ms_tkI (L := X.L) (x := .wd 2 [⟨#[116, 104, 101, 110]⟩]) (d := d9); have m11 := ms_ib I11.out; omega⟩
    | false =>
      go_wp2_with fail
      refine (HL6.out _ (Below.refl _ _)).mono ?_
      rintro e w6 ⟨rfl, hb6⟩
      have HB6 : Hid (Below wr.heap.size wr w6) := hb6
      clear hb6
      have H12 := show Hid _ from HJ.out.1.below HB6.out
      obtain ⟨b13, e13⟩ : ∃ b, qn X.L dk (wk 2 ⟨#[101, 108, 115, 101]⟩) = b := ⟨_, rfl⟩
      have HL13 : Hid (∀ V, Below w6.heap.size w6 V → Calls Tryz.prog 77 #[pt X.g, .string ⟨#[101, 108, 115, 101]⟩] V fun e w' => e = .returned (.bool b13) ∧ Below V.heap.size V w') := fun V hb => by rw [← e13]; exact rword_any (H12.out.below hb) _
      have E13 : Hid (qn X.L dk (wk 2 ⟨#[101, 108, 115, 101]⟩) = b13) := e13
      clear e13
      cases b13 with
      | true =>
        go_wp2_with fail
        refine (HL13.out _ (Below.refl _ _)).mono ?_
        rintro e w13 ⟨rfl, hb13⟩
        have HB13 : Hid (Below w6.heap.size w6 w13) := hb13
        clear hb13
        have H14 := show Hid _ from H12.out.below HB13.out
        go_wp2_with fail
        refine (rtakeWord_any H14.out (by omega) ⟨#[101, 108, 115, 101]⟩).mono ?_
        rintro e w15 ⟨rfl, h15⟩
        have H15 := show Hid _ from h15
        clear h15
        go_wp2_with fail
        refine (C2 (ms X.L (tkI X.L (.wd 2 [⟨#[101, 108, 115, 101]⟩]) dk)) (by have m0 := HM.out; have m1 : ms X.L (opD 15 d) = ms X.L d := ms_op; have m2 := ms_tkI (L := X.L) (x := .wd 2 [⟨#[105, 102]⟩]) (d := (opD 15 d)); have m3 := ms_ib I3.out; have m4 := ms_tkI (L := X.L) (x := .wd 2 [⟨#[116, 104, 101, 110]⟩]) (d := d3); have m5 := ms_ib I5.out; have ml := HJ.out.2.le; have mv := ms_live E13.out; have m15 := ms_tkI (L := X.L) (x := .wd 2 [⟨#[101, 108, 115, 101]⟩]) (d := dk); omega) X _ _ _ H15.out (by omega) (Nat.le_refl _)).mono ?_
        rintro e w16 ⟨rfl, d16, h16, i16⟩
        have H16 := show Hid _ from h16
        have I16 := show Hid _ from i16
        clear h16 i16
        go_wp2_with fail
        refine (rtakeWord_any H16.out (by omega) ⟨#[101, 110, 100]⟩).mono ?_
        rintro e w17 ⟨rfl, h17⟩
        have H17 := show Hid _ from h17
        clear h17
        go_wp2_with fail
        refine (closes_any 15 H17.out (pn_tk (pn_ib (pn_tk (HJ.out.2.pn (pn_ib (pn_tk (pn_ib (pn_tk pn_op) rfl I3.out)) rfl I5.out))) rfl I16.out))).mono ?_
        rintro e w18 ⟨rfl, h18⟩
        have H18 := show Hid _ from h18
        clear h18
        go_wp2_with fail
        go_end0
        exact ⟨rfl, _, H18.out, ib_op HD.out (rb_cons ib_w (rb_cons I3.out (rb_cons ib_w (rb_cons I5.out (rb_cons (HJ.out.2.fin (pick_row0 (qn_wd E6.out))) (rb_cons (ib_once1 (pick_row1 (qn_wd E13.out)) (ib_all (rb_cons ib_w (rb_cons I16.out rb_nil)))) (rb_cons ib_w (rb_cons ib_lv rb_nil))))))))⟩
      | false =>
        go_wp2_with fail
        refine (HL13.out _ (Below.refl _ _)).mono ?_
        rintro e w13 ⟨rfl, hb13⟩
        have HB13 : Hid (Below w6.heap.size w6 w13) := hb13
        clear hb13
        have H19 := show Hid _ from H12.out.below HB13.out
        go_wp2_with fail
        refine (rtakeWord_any H19.out (by omega) ⟨#[101, 110, 100]⟩).mono ?_
        rintro e w20 ⟨rfl, h20⟩
        have H20 := show Hid _ from h20
        clear h20
        go_wp2_with fail
        refine (closes_any 15 H20.out (pn_tk (HJ.out.2.pn (pn_ib (pn_tk (pn_ib (pn_tk pn_op) rfl I3.out)) rfl I5.out)))).mono ?_
        rintro e w21 ⟨rfl, h21⟩
        have H21 := show Hid _ from h21
        clear h21
        go_wp2_with fail
        go_end0
        exact ⟨rfl, _, H21.out, ib_op HD.out (rb_cons ib_w (rb_cons I3.out (rb_cons ib_w (rb_cons I5.out (rb_cons (HJ.out.2.fin (pick_row0 (qn_wd E6.out))) (rb_cons (ib_once0 (pick_row0 (qn_wd E13.out))) (rb_cons ib_w (rb_cons ib_lv rb_nil))))))))⟩
end Go.Proofs.YtkigadnkclkopaaGreat
