import Derived.Test.YtkigadnkclkopaaGreatGe
set_option linter.unusedVariables false
set_option linter.unusedSimpArgs false
namespace Go.Proofs.YtkigadnkclkopaaGreat
open Go.RowKit

/-! Tokens that are looked for. -/
/-- It was not there, or it was taken. -/
def Mb (X : Sx) (r : Nat) (x : Fl) (d : D) (e : Ending) (w : World) : Prop := (qn (tks X.l) d (fun t => x.takes t) = false ∧ e = .returned (.bool false) ∧ SD X r d w) ∨ (qn (tks X.l) d (fun t => x.takes t) = true ∧ Out X (.bool true) (tkI (tks X.l) x d) e w)
theorem takeIf_sd {X : Sx} {r : Nat} {d : D} {W : World} (h : SD X r d W) (hr : r ≤ 100) {x : Fl} {b : Bool} (hq : qn (tks X.l) d (fun t => x.takes t) = b) :
    Calls Tryz.prog 68 #[pg X.g, .bool b] W fun e w' => Mb X r x d e w' := by
  cases b with
  | false =>
    have HX : Hid (Mb X r x d (.returned (.bool false)) W) := .inl ⟨hq, rfl, h⟩
    clear h hq
    go_enter Tryz.func68, Tryz.ntmps68
    go_wp2_with fail
    go_ret
    exact HX.out
  | true =>
    have HT : Hid (Calls Tryz.prog 93 #[pg X.g] W fun e w' => Out X (.tuple #[]) (tkI (tks X.l) x d) e w') := take_sd h hr hq
    have HX : Hid (∀ e w', Out X (.bool true) (tkI (tks X.l) x d) e w' → Mb X r x d e w') := fun e w' ho => .inr ⟨hq, ho⟩
    clear h hq
    generalize tkI (tks X.l) x d = d' at *
    go_enter Tryz.func68, Tryz.ntmps68
    go_wp2_with fail
    refine HT.out.mono ?_
    rintro e w1 (⟨z, rfl, h1⟩ | ⟨z, rfl, h1⟩)
    · have H1 := show Hid _ from h1
      clear h1
      go_wp2_with fail
      go_ret
      exact HX.out _ _ (.inl ⟨z, rfl, H1.out⟩)
    · have H1 := show Hid _ from h1
      clear h1
      go_wp2_with fail
      exact ⟨rfl, HX.out _ _ (.inr ⟨z, rfl, H1.out⟩)⟩
theorem kt_has {k : Int} {ts : List ByteArray} {t : Tv} (hz : has ts ⟨#[]⟩ = false) : has ts (kt k t) = Fl.takes t (.wd k ts) := by
  unfold kt
  simp only [Fl.takes]
  cases h : (t.k == k) with
  | true => simp
  | false => simp [hz]
set_option maxHeartbeats 1000000 in
theorem maybeKey_sd {X : Sx} {r : Nat} {d : D} {W : World} (h : SD X r d W) (hr : r ≤ 100) {ao : Option Addr} {ts : List ByteArray} {cap : Nat} (hl : Ls W ao ts) (hn : ts.length ≤ 1000) (hz : has ts ⟨#[]⟩ = false) :
    Calls Tryz.prog 50 #[pg X.g, .slice ao ts.length cap] W fun e w' => Mb X r (.wd 2 ts) d e w' := by
  have HK : Hid (Calls Tryz.prog 70 #[pg X.g] W fun e w' => e = .returned (.string (kt 2 (nx X (ps X.l d.i)))) ∧ Below W.heap.size W w') := skey_any h.sv (ps_le _ _)
  have HC : Hid (∀ V, Below W.heap.size W V → Calls Tryz.prog 69 #[.slice ao ts.length cap, .string (kt 2 (nx X (ps X.l d.i)))] V fun r w' => r = .returned (.bool (qn (tks X.l) d (fun t => Fl.takes t (.wd 2 ts)))) ∧ w' = V) := fun V hb => by
    rw [h.hqn (by simp [Fl.takes, tv0]), ← kt_has hz]
    exact sContains_any ao ts cap _ V (hl.below hb) hn
  have HT : Hid (∀ V, Below W.heap.size W V → Calls Tryz.prog 68 #[pg X.g, .bool (qn (tks X.l) d (fun t => Fl.takes t (.wd 2 ts)))] V fun e w' => Mb X r (.wd 2 ts) d e w') := fun V hb => takeIf_sd (h.below hb) hr rfl
  clear h hl
  generalize (kt 2 (nx X (ps X.l d.i))) = s at *
  obtain ⟨b, hb⟩ : ∃ b, qn (tks X.l) d (fun t => Fl.takes t (.wd 2 ts)) = b := ⟨_, rfl⟩
  rw [hb] at HC HT
  have HQ := show Hid _ from hb
  clear hb
  go_enter Tryz.func50, Tryz.ntmps50
  go_wp2_with fail
  refine HK.out.mono ?_
  rintro e w1 ⟨rfl, hb1⟩
  have HB1 := show Hid _ from hb1
  clear hb1
  go_wp2_with fail
  refine (HC.out _ HB1.out).mono ?_
  rintro e w2 ⟨rfl, hw2⟩
  subst hw2
  go_wp2_with fail
  refine (HT.out _ HB1.out).mono ?_
  rintro e w3 (⟨z, rfl, h3⟩ | ⟨z, ⟨z2, rfl, h3⟩ | ⟨z2, rfl, h3⟩⟩)
  · have H3 := show Hid _ from h3
    have HZ := show Hid _ from z
    clear h3 z
    go_wp2_with fail
    go_ret
    exact .inl ⟨HZ.out, rfl, H3.out⟩
  · have H3 := show Hid _ from h3
    have HZ := show Hid _ from z
    have HY := show Hid _ from z2
    clear h3 z z2
    go_wp2_with fail
    go_ret
    exact .inr ⟨HZ.out, .inl ⟨HY.out, rfl, H3.out⟩⟩
  · have H3 := show Hid _ from h3
    have HZ := show Hid _ from z
    have HY := show Hid _ from z2
    clear h3 z z2
    go_wp2_with fail
    exact ⟨rfl, .inr ⟨HZ.out, .inr ⟨HY.out, rfl, H3.out⟩⟩⟩
set_option maxHeartbeats 1000000 in
theorem maybeSign_sd {X : Sx} {r : Nat} {d : D} {W : World} (h : SD X r d W) (hr : r ≤ 100) {ao : Option Addr} {ts : List ByteArray} {cap : Nat} (hl : Ls W ao ts) (hn : ts.length ≤ 1000) (hz : has ts ⟨#[]⟩ = false) :
    Calls Tryz.prog 52 #[pg X.g, .slice ao ts.length cap] W fun e w' => Mb X r (.wd 6 ts) d e w' := by
  have HK : Hid (Calls Tryz.prog 71 #[pg X.g] W fun e w' => e = .returned (.string (kt 6 (nx X (ps X.l d.i)))) ∧ Below W.heap.size W w') := ssign_any h.sv (ps_le _ _)
  have HC : Hid (∀ V, Below W.heap.size W V → Calls Tryz.prog 69 #[.slice ao ts.length cap, .string (kt 6 (nx X (ps X.l d.i)))] V fun r w' => r = .returned (.bool (qn (tks X.l) d (fun t => Fl.takes t (.wd 6 ts)))) ∧ w' = V) := fun V hb => by
    rw [h.hqn (by simp [Fl.takes, tv0]), ← kt_has hz]
    exact sContains_any ao ts cap _ V (hl.below hb) hn
  have HT : Hid (∀ V, Below W.heap.size W V → Calls Tryz.prog 68 #[pg X.g, .bool (qn (tks X.l) d (fun t => Fl.takes t (.wd 6 ts)))] V fun e w' => Mb X r (.wd 6 ts) d e w') := fun V hb => takeIf_sd (h.below hb) hr rfl
  clear h hl
  generalize (kt 6 (nx X (ps X.l d.i))) = s at *
  obtain ⟨b, hb⟩ : ∃ b, qn (tks X.l) d (fun t => Fl.takes t (.wd 6 ts)) = b := ⟨_, rfl⟩
  rw [hb] at HC HT
  have HQ := show Hid _ from hb
  clear hb
  go_enter Tryz.func52, Tryz.ntmps52
  go_wp2_with fail
  refine HK.out.mono ?_
  rintro e w1 ⟨rfl, hb1⟩
  have HB1 := show Hid _ from hb1
  clear hb1
  go_wp2_with fail
  refine (HC.out _ HB1.out).mono ?_
  rintro e w2 ⟨rfl, hw2⟩
  subst hw2
  go_wp2_with fail
  refine (HT.out _ HB1.out).mono ?_
  rintro e w3 (⟨z, rfl, h3⟩ | ⟨z, ⟨z2, rfl, h3⟩ | ⟨z2, rfl, h3⟩⟩)
  · have H3 := show Hid _ from h3
    have HZ := show Hid _ from z
    clear h3 z
    go_wp2_with fail
    go_ret
    exact .inl ⟨HZ.out, rfl, H3.out⟩
  · have H3 := show Hid _ from h3
    have HZ := show Hid _ from z
    have HY := show Hid _ from z2
    clear h3 z z2
    go_wp2_with fail
    go_ret
    exact .inr ⟨HZ.out, .inl ⟨HY.out, rfl, H3.out⟩⟩
  · have H3 := show Hid _ from h3
    have HZ := show Hid _ from z
    have HY := show Hid _ from z2
    clear h3 z z2
    go_wp2_with fail
    exact ⟨rfl, .inr ⟨HZ.out, .inr ⟨HY.out, rfl, H3.out⟩⟩⟩
theorem fldK (k : Int) (t : ByteArray) (a l c f : Int) (w : World) : (Instr.field 28 (.agg #[.int .u8 k, .string t, .int .i64 a, .int .i64 l, .int .i64 c, .int .i64 f]) 0).run Tryz.prog w = .ok (.int .u8 k) w := by kernel_rfl
set_option maxHeartbeats 1000000 in
theorem maybeName_sd {X : Sx} {r : Nat} {d : D} {W : World} (h : SD X r d W) (hr : r ≤ 100) :
    Calls Tryz.prog 51 #[pg X.g] W fun e w' => Mb X r .nm d e w' := by
  have HK : Hid (Calls Tryz.prog 49 #[pg X.g] W fun e w' => e = .returned (nx X (ps X.l d.i)).v ∧ Below W.heap.size W w') := snext_any h.sv (ps_le _ _)
  have HE : qn (tks X.l) d (fun t => Fl.takes t .nm) = ((nx X (ps X.l d.i)).k == 1) := h.hqn (by simp [Fl.takes, tv0])
  have HT : Hid (∀ V, Below W.heap.size W V → Calls Tryz.prog 68 #[pg X.g, .bool (qn (tks X.l) d (fun t => Fl.takes t .nm))] V fun e w' => Mb X r .nm d e w') := fun V hb => takeIf_sd (h.below hb) hr rfl
  rw [HE] at HT
  clear h HE
  generalize nx X (ps X.l d.i) = t at *
  have hfd : ∀ w : World, (Instr.field 28 (.agg #[.int .u8 t.k, .string t.t, .int .i64 t.a, .int .i64 t.l, .int .i64 t.c, .int .i64 t.f]) 0).run Tryz.prog w = .ok (.int .u8 t.k) w := fun w => fldK _ _ _ _ _ _ w
  dsimp only [Tv.v] at HK
  cases hb : (t.k == 1) with
  | true =>
    rw [hb] at HT
    go_enter Tryz.func51, Tryz.ntmps51
    go_wp2_with fail
    refine HK.out.mono ?_
    rintro e w1 ⟨rfl, hb1⟩
    have HB1 := show Hid _ from hb1
    clear hb1
    go_wp2_with fail
    refine (HT.out _ HB1.out).mono ?_
    rintro e w3 (⟨z, rfl, h3⟩ | ⟨z, ⟨z2, rfl, h3⟩ | ⟨z2, rfl, h3⟩⟩)
    · have H3 := show Hid _ from h3
      have HZ := show Hid _ from z
      clear h3 z
      go_wp2_with fail
      go_ret
      exact .inl ⟨HZ.out, rfl, H3.out⟩
    · have H3 := show Hid _ from h3
      have HZ := show Hid _ from z
      have HY := show Hid _ from z2
      clear h3 z z2
      go_wp2_with fail
      go_ret
      exact .inr ⟨HZ.out, .inl ⟨HY.out, rfl, H3.out⟩⟩
    · have H3 := show Hid _ from h3
      have HZ := show Hid _ from z
      have HY := show Hid _ from z2
      clear h3 z z2
      go_wp2_with fail
      exact ⟨rfl, .inr ⟨HZ.out, .inr ⟨HY.out, rfl, H3.out⟩⟩⟩
  | false =>
    rw [hb] at HT
    go_enter Tryz.func51, Tryz.ntmps51
    go_wp2_with fail
    refine HK.out.mono ?_
    rintro e w1 ⟨rfl, hb1⟩
    have HB1 := show Hid _ from hb1
    clear hb1
    go_wp2_with fail
    refine (HT.out _ HB1.out).mono ?_
    rintro e w3 (⟨z, rfl, h3⟩ | ⟨z, ⟨z2, rfl, h3⟩ | ⟨z2, rfl, h3⟩⟩)
    · have H3 := show Hid _ from h3
      have HZ := show Hid _ from z
      clear h3 z
      go_wp2_with fail
      go_ret
      exact .inl ⟨HZ.out, rfl, H3.out⟩
    · have H3 := show Hid _ from h3
      have HZ := show Hid _ from z
      have HY := show Hid _ from z2
      clear h3 z z2
      go_wp2_with fail
      go_ret
      exact .inr ⟨HZ.out, .inl ⟨HY.out, rfl, H3.out⟩⟩
    · have H3 := show Hid _ from h3
      have HZ := show Hid _ from z
      have HY := show Hid _ from z2
      clear h3 z z2
      go_wp2_with fail
      exact ⟨rfl, .inr ⟨HZ.out, .inr ⟨HY.out, rfl, H3.out⟩⟩⟩
theorem ls_one (W : World) (s : ByteArray) : Ls (W.alloc (.cells #[.string s] 9)) (some ⟨W.heap.size, 0, none⟩) [s] := by
  intro j x hj
  have hj0 : j = 0 := by
    cases j with
    | zero => rfl
    | succ j => simp at hj
  subst hj0
  simp at hj
  subst hj
  exact ⟨_, _, rfl, blk_cell (new_at W _) rfl⟩
theorem tkI_no {L : List Tv} {x : Fl} {d : D} (h : qn L d (fun t => x.takes t) = false) : tkI L x d = tkD L false d := by unfold tkI; rw [h]
set_option maxHeartbeats 1000000 in
theorem key_sd {X : Sx} {r : Nat} {d : D} {W : World} (h : SD X r d W) (hr : r ≤ 100) {s : ByteArray} (hz : has [s] ⟨#[]⟩ = false) :
    Calls Tryz.prog 34 #[pg X.g, .string s] W fun e w' => Out X (.tuple #[]) (tkI (tks X.l) (.wd 2 [s]) d) e w' := by
  have HM : Hid (Calls Tryz.prog 50 #[pg X.g, .slice (some ⟨W.heap.size, 0, none⟩) 1 1] (W.alloc (.cells #[.string s] 9)) fun e w' => Mb X r (.wd 2 [s]) d e w') := maybeKey_sd (ts := [s]) (h.below ((Below.refl _ _).alloc (Nat.le_refl _) _)) hr (ls_one W s) (by simp) hz
  clear h
  go_enter Tryz.func34, Tryz.ntmps34
  go_wp2_with fail
  refine HM.out.mono ?_
  rintro e w1 (⟨z, rfl, h1⟩ | ⟨z, ⟨z2, rfl, h1⟩ | ⟨z2, rfl, h1⟩⟩)
  · have HR : Hid (Calls Tryz.prog 38 #[pg X.g] w1 fun e w' => Out X (.tuple #[]) (tkI (tks X.l) (.wd 2 [s]) d) e w' ∧ (tkI (tks X.l) (.wd 2 [s]) d).e ≠ 0 ∧ e = .panicked (stop (tkI (tks X.l) (.wd 2 [s]) d).e (ps X.l (tkI (tks X.l) (.wd 2 [s]) d).i)) ∧ Below X.w0.heap.size X.w0 w') := by rw [tkI_no z]; exact refuse_sd h1 _
    clear z h1 HM
    go_wp2_with fail
    refine HR.out.mono ?_
    rintro e w2 ⟨ho, hz2, rfl, hb2⟩
    have HO := show Hid _ from hz2
    have HB := show Hid _ from hb2
    clear ho hz2 hb2
    go_wp2_with fail
    exact ⟨rfl, .inr ⟨HO.out, rfl, HB.out⟩⟩
  · have H1 := show Hid _ from h1
    have HY := show Hid _ from z2
    clear h1 z z2
    go_wp2_with fail
    go_end0
    exact .inl ⟨HY.out, rfl, H1.out⟩
  · have H1 := show Hid _ from h1
    have HY := show Hid _ from z2
    clear h1 z z2
    go_wp2_with fail
    exact ⟨rfl, .inr ⟨HY.out, rfl, H1.out⟩⟩
set_option maxHeartbeats 1000000 in
theorem sign_sd {X : Sx} {r : Nat} {d : D} {W : World} (h : SD X r d W) (hr : r ≤ 100) {s : ByteArray} (hz : has [s] ⟨#[]⟩ = false) :
    Calls Tryz.prog 36 #[pg X.g, .string s] W fun e w' => Out X (.tuple #[]) (tkI (tks X.l) (.wd 6 [s]) d) e w' := by
  have HM : Hid (Calls Tryz.prog 52 #[pg X.g, .slice (some ⟨W.heap.size, 0, none⟩) 1 1] (W.alloc (.cells #[.string s] 9)) fun e w' => Mb X r (.wd 6 [s]) d e w') := maybeSign_sd (ts := [s]) (h.below ((Below.refl _ _).alloc (Nat.le_refl _) _)) hr (ls_one W s) (by simp) hz
  clear h
  go_enter Tryz.func36, Tryz.ntmps36
  go_wp2_with fail
  refine HM.out.mono ?_
  rintro e w1 (⟨z, rfl, h1⟩ | ⟨z, ⟨z2, rfl, h1⟩ | ⟨z2, rfl, h1⟩⟩)
  · have HR : Hid (Calls Tryz.prog 38 #[pg X.g] w1 fun e w' => Out X (.tuple #[]) (tkI (tks X.l) (.wd 6 [s]) d) e w' ∧ (tkI (tks X.l) (.wd 6 [s]) d).e ≠ 0 ∧ e = .panicked (stop (tkI (tks X.l) (.wd 6 [s]) d).e (ps X.l (tkI (tks X.l) (.wd 6 [s]) d).i)) ∧ Below X.w0.heap.size X.w0 w') := by rw [tkI_no z]; exact refuse_sd h1 _
    clear z h1 HM
    go_wp2_with fail
    refine HR.out.mono ?_
    rintro e w2 ⟨ho, hz2, rfl, hb2⟩
    have HO := show Hid _ from hz2
    have HB := show Hid _ from hb2
    clear ho hz2 hb2
    go_wp2_with fail
    exact ⟨rfl, .inr ⟨HO.out, rfl, HB.out⟩⟩
  · have H1 := show Hid _ from h1
    have HY := show Hid _ from z2
    clear h1 z z2
    go_wp2_with fail
    go_end0
    exact .inl ⟨HY.out, rfl, H1.out⟩
  · have H1 := show Hid _ from h1
    have HY := show Hid _ from z2
    clear h1 z z2
    go_wp2_with fail
    exact ⟨rfl, .inr ⟨HY.out, rfl, H1.out⟩⟩
set_option maxHeartbeats 1000000 in
theorem name_sd {X : Sx} {r : Nat} {d : D} {W : World} (h : SD X r d W) (hr : r ≤ 100) :
    Calls Tryz.prog 35 #[pg X.g] W fun e w' => Out X (.tuple #[]) (tkI (tks X.l) (.nm) d) e w' := by
  have HM : Hid (Calls Tryz.prog 51 #[pg X.g] W fun e w' => Mb X r (.nm) d e w') := maybeName_sd h hr
  clear h
  go_enter Tryz.func35, Tryz.ntmps35
  go_wp2_with fail
  refine HM.out.mono ?_
  rintro e w1 (⟨z, rfl, h1⟩ | ⟨z, ⟨z2, rfl, h1⟩ | ⟨z2, rfl, h1⟩⟩)
  · have HR : Hid (Calls Tryz.prog 38 #[pg X.g] w1 fun e w' => Out X (.tuple #[]) (tkI (tks X.l) (.nm) d) e w' ∧ (tkI (tks X.l) (.nm) d).e ≠ 0 ∧ e = .panicked (stop (tkI (tks X.l) (.nm) d).e (ps X.l (tkI (tks X.l) (.nm) d).i)) ∧ Below X.w0.heap.size X.w0 w') := by rw [tkI_no z]; exact refuse_sd h1 _
    clear z h1 HM
    go_wp2_with fail
    refine HR.out.mono ?_
    rintro e w2 ⟨ho, hz2, rfl, hb2⟩
    have HO := show Hid _ from hz2
    have HB := show Hid _ from hb2
    clear ho hz2 hb2
    go_wp2_with fail
    exact ⟨rfl, .inr ⟨HO.out, rfl, HB.out⟩⟩
  · have H1 := show Hid _ from h1
    have HY := show Hid _ from z2
    clear h1 z z2
    go_wp2_with fail
    go_end0
    exact .inl ⟨HY.out, rfl, H1.out⟩
  · have H1 := show Hid _ from h1
    have HY := show Hid _ from z2
    clear h1 z z2
    go_wp2_with fail
    exact ⟨rfl, .inr ⟨HY.out, rfl, H1.out⟩⟩

end Go.Proofs.YtkigadnkclkopaaGreat
