import Derived.Test.YtjibpdncginkdaaNp
set_option linter.unusedVariables false
set_option linter.unusedSimpArgs false
namespace Go.Proofs.Ytjibpdncginkdaa
open Go.RowKit

/-! What a ring is: nothing (a nil ring), or a room and a list. -/
abbrev St := Option (Nat × List Int)
def bad (k : Int) (l : List Int) : Prop := k < 0 ∨ (l.length : Int) ≤ k
instance (k : Int) (l : List Int) : Decidable (bad k l) := inferInstanceAs (Decidable (_ ∨ _))
def pushE : St → Int | none => 3 | some (r, l) => if l.length = r then 50 else 0
def pushS (x : Int) : St → St | none => none | some (r, l) => if l.length = r then some (r, l) else some (r, l ++ [x])
def popE : St → Int | none => 3 | some (_, l) => if l = [] then 51 else 0
def popFV : St → Int | none => 0 | some (_, l) => l.getD 0 0
def popFS : St → St | none => none | some (r, l) => some (r, l.tail)
def popBV : St → Int | none => 0 | some (_, l) => l.getD (l.length - 1) 0
def popBS : St → St | none => none | some (r, l) => some (r, l.dropLast)
def atE (k : Int) : St → Int | none => 3 | some (_, l) => if bad k l then 1 else 0
def atV (k : Int) : St → Int | none => 0 | some (_, l) => if bad k l then 0 else l.getD k.toNat 0
def setS (k x : Int) : St → St | none => none | some (r, l) => if bad k l then some (r, l) else some (r, l.set k.toNat x)
def lenV : St → Int | none => 0 | some (_, l) => l.length
def roomV : St → Int | none => 0 | some (r, _) => r
/-- What a ring of things tells where one of numbers tells x. -/
def tv (e x : Int) : Th := if e = 0 then th x else z0

def SI (own : Nat → Nat) (i : Nat) (w : World) (pv : Value) : St → Prop
  | none => pv = .pointer none
  | some (r, l) => ∃ g sv zs front, pv = .pointer (some ⟨g, 0, none⟩) ∧ RI own i w g r sv zs front l
def ST (own : Nat → Nat) (i : Nat) (w : World) (pv : Value) : St → Prop
  | none => pv = .pointer none
  | some (r, l) => ∃ g sv zs front, pv = .pointer (some ⟨g, 0, none⟩) ∧ RT own i w g r sv zs front (l.map th)
def SR (own : Nat → Nat) (i : Nat) (w : World) (pv : Value) : St → Prop
  | none => pv = .pointer none
  | some (r, l) => ∃ g sv, pv = .pointer (some ⟨g, 0, none⟩) ∧ RR own i w g r sv l

/-- What a call on the ring of label i leaves. -/
def Lv (Q : (Nat → Nat) → Nat → World → Value → St → Prop) (own : Nat → Nat) (i : Nat) (w w' : World) (pv : Value) (st : St) : Prop := ∃ own', Nf own' w' ∧ Fr i own own' w w' ∧ Q own' i w' pv st

theorem SI.kept {own own' : Nat → Nat} {i j : Nat} {w w' : World} {pv : Value} {st : St} (h : SI own i w pv st) (hf : Fr j own own' w w') (hij : i ≠ j) : SI own' i w' pv st := by
  cases st with
  | none => exact h
  | some p => obtain ⟨g, sv, zs, front, e, hr⟩ := h; exact ⟨g, sv, zs, front, e, hr.kept hf hij⟩
theorem ST.kept {own own' : Nat → Nat} {i j : Nat} {w w' : World} {pv : Value} {st : St} (h : ST own i w pv st) (hf : Fr j own own' w w') (hij : i ≠ j) : ST own' i w' pv st := by
  cases st with
  | none => exact h
  | some p => obtain ⟨g, sv, zs, front, e, hr⟩ := h; exact ⟨g, sv, zs, front, e, hr.kept hf hij⟩
theorem SR.kept {own own' : Nat → Nat} {i j : Nat} {w w' : World} {pv : Value} {st : St} (h : SR own i w pv st) (hf : Fr j own own' w w') (hij : i ≠ j) : SR own' i w' pv st := by
  cases st with
  | none => exact h
  | some p => obtain ⟨g, sv, e, hr⟩ := h; exact ⟨g, sv, e, hr.kept hf hij⟩
theorem SI.below {own : Nat → Nat} {i : Nat} {w w' : World} {pv : Value} {st : St} (h : SI own i w pv st) (hb : Below w.heap.size w w') : SI own i w' pv st := h.kept (Fr.of_below (i := i + 1) hb) (by omega)
theorem ST.below {own : Nat → Nat} {i : Nat} {w w' : World} {pv : Value} {st : St} (h : ST own i w pv st) (hb : Below w.heap.size w w') : ST own i w' pv st := h.kept (Fr.of_below (i := i + 1) hb) (by omega)
theorem SR.below {own : Nat → Nat} {i : Nat} {w w' : World} {pv : Value} {st : St} (h : SR own i w pv st) (hb : Below w.heap.size w w') : SR own i w' pv st := h.kept (Fr.of_below (i := i + 1) hb) (by omega)

theorem Lv.here {Q : (Nat → Nat) → Nat → World → Value → St → Prop} {own : Nat → Nat} {i : Nat} {w : World} {pv : Value} {st : St} (h : Q own i w pv st) (hn : Nf own w) : Lv Q own i w w pv st := ⟨own, hn, Fr.refl _ _ _, h⟩
theorem lvI {own : Nat → Nat} {i : Nat} {w w' : World} {pv : Value} {st : St} (h : SI own i w pv st) (hn : Nf own w) (hb : Below w.heap.size w w') : Lv SI own i w w' pv st := ⟨own, hn.below hb.size, Fr.of_below hb, h.below hb⟩
theorem lvT {own : Nat → Nat} {i : Nat} {w w' : World} {pv : Value} {st : St} (h : ST own i w pv st) (hn : Nf own w) (hb : Below w.heap.size w w') : Lv ST own i w w' pv st := ⟨own, hn.below hb.size, Fr.of_below hb, h.below hb⟩
theorem lvR {own : Nat → Nat} {i : Nat} {w w' : World} {pv : Value} {st : St} (h : SR own i w pv st) (hn : Nf own w) (hb : Below w.heap.size w w') : Lv SR own i w w' pv st := ⟨own, hn.below hb.size, Fr.of_below hb, h.below hb⟩
theorem lvI_af {own : Nat → Nat} {i g r : Nat} {w w' : World} {l : List Int} (h : AfI own i w w' g r l) : Lv SI own i w w' (.pointer (some ⟨g, 0, none⟩)) (some (r, l)) := by
  obtain ⟨own', sv, zs, front, a, b, c⟩ := h; exact ⟨own', a, b, g, sv, zs, front, rfl, c⟩
theorem lvT_af {own : Nat → Nat} {i g r : Nat} {w w' : World} {l : List Int} {L : List Th} (h : AfT own i w w' g r L) (hL : L = l.map th) : Lv ST own i w w' (.pointer (some ⟨g, 0, none⟩)) (some (r, l)) := by
  subst hL; obtain ⟨own', sv, zs, front, a, b, c⟩ := h; exact ⟨own', a, b, g, sv, zs, front, rfl, c⟩
theorem lvR_af {own : Nat → Nat} {i g r : Nat} {w w' : World} {l : List Int} (h : AfR own i w w' g r l) : Lv SR own i w w' (.pointer (some ⟨g, 0, none⟩)) (some (r, l)) := by
  obtain ⟨own', sv, a, b, c⟩ := h; exact ⟨own', a, b, g, sv, rfl, c⟩
theorem drewN_below {w w' : World} (h : ∃ m, w' = w.drewN m) : Below w.heap.size w w' := by obtain ⟨m, rfl⟩ := h; exact below_drewN w m
theorem same_below {w w' : World} (h : w' = w) : Below w.heap.size w w' := by subst h; exact Below.refl _ _

theorem get0 {l : List Int} (h : l ≠ []) : l[0]? = some (l.getD 0 0) := by cases l with | nil => exact absurd rfl h | cons x r => rfl
theorem getK {l : List Int} {k : Nat} (h : k < l.length) : l[k]? = some (l.getD k 0) := by rw [List.getD, List.getElem?_eq_getElem h]; rfl
theorem map_at {l : List Int} {k : Nat} (h : k < l.length) : (l.map th)[k]? = some (th (l.getD k 0)) := by rw [List.getElem?_map, getK h]; rfl

/-! The ring of numbers. -/
section
variable {own : Nat → Nat} {i : Nat} {w : World} {pv : Value} {st : St}
theorem pushI_st (x : Int) (h : SI own i w pv st) (hn : Nf own w) : Calls Try.prog 20 #[pv, .int .i64 x] w fun e w' => e = .returned (.int .i64 (pushE st)) ∧ Lv SI own i w w' pv (pushS x st) := by
  rcases st with _ | ⟨r, l⟩
  · obtain rfl := h
    exact (pushI_nil x w).mono fun e w' ⟨he, hw⟩ => ⟨he, lvI (st := none) rfl hn (same_below hw)⟩
  · obtain ⟨g, sv, zs, front, rfl, hr⟩ := h
    by_cases hf : l.length = r
    · unfold pushE pushS
      simp only [if_pos hf]
      have h3 := hr.c3
      rw [hf] at h3
      exact (pushI_full g r x w hr.c0 h3).mono fun e w' ⟨he, hw⟩ => ⟨he, lvI (st := some (r, l)) ⟨g, sv, zs, front, rfl, hr⟩ hn (drewN_below hw)⟩
    · unfold pushE pushS
      simp only [if_neg hf]
      have := hr.hold.1
      have := hr.len
      exact (pushI_any own i g r front sv zs l x w hr hn (by omega)).mono fun e w' ⟨he, hw⟩ => ⟨he, lvI_af hw⟩
theorem popFI_st (h : SI own i w pv st) (hn : Nf own w) : Calls Try.prog 22 #[pv] w fun e w' => e = .returned (.tuple #[.int .i64 (popFV st), .int .i64 (popE st)]) ∧ Lv SI own i w w' pv (popFS st) := by
  rcases st with _ | ⟨r, l⟩
  · obtain rfl := h
    exact (popFI_nil w).mono fun e w' ⟨he, hw⟩ => ⟨he, lvI (st := none) rfl hn (same_below hw)⟩
  · obtain ⟨g, sv, zs, front, rfl, hr⟩ := h
    unfold popFV popE popFS
    by_cases hf : l = []
    · subst hf
      exact (popFI_empty g w hr.c3).mono fun e w' ⟨he, hw⟩ => ⟨he, lvI (st := some (r, [])) ⟨g, sv, zs, front, rfl, hr⟩ hn (same_below hw)⟩
    · simp only [hf, if_false]
      exact (popFI_any own i g r front sv zs l (l.getD 0 0) w hr hn (get0 hf)).mono fun e w' ⟨he, hw⟩ => ⟨he, lvI_af hw⟩
theorem popBI_st (h : SI own i w pv st) (hn : Nf own w) : Calls Try.prog 24 #[pv] w fun e w' => e = .returned (.tuple #[.int .i64 (popBV st), .int .i64 (popE st)]) ∧ Lv SI own i w w' pv (popBS st) := by
  rcases st with _ | ⟨r, l⟩
  · obtain rfl := h
    exact (popBI_nil w).mono fun e w' ⟨he, hw⟩ => ⟨he, lvI (st := none) rfl hn (same_below hw)⟩
  · obtain ⟨g, sv, zs, front, rfl, hr⟩ := h
    unfold popBV popE popBS
    by_cases hf : l = []
    · subst hf
      exact (popBI_empty g w hr.c3).mono fun e w' ⟨he, hw⟩ => ⟨he, lvI (st := some (r, [])) ⟨g, sv, zs, front, rfl, hr⟩ hn (same_below hw)⟩
    · simp only [hf, if_false]
      have hlp : 0 < l.length := List.length_pos_iff.2 hf
      exact (popBI_any own i g r front sv zs l (l.getD (l.length - 1) 0) w hr hn hlp (getK (by omega))).mono fun e w' ⟨he, hw⟩ => ⟨he, lvI_af hw⟩
theorem atI_st (k : Int) (h : SI own i w pv st) : Calls Try.prog 23 #[pv, .int .i64 k] w fun e w' => e = .returned (.tuple #[.int .i64 (atV k st), .int .i64 (atE k st)]) ∧ Below w.heap.size w w' := by
  rcases st with _ | ⟨r, l⟩
  · obtain rfl := h
    exact (atI_nil k w).mono fun e w' ⟨he, hw⟩ => ⟨he, same_below hw⟩
  · obtain ⟨g, sv, zs, front, rfl, hr⟩ := h
    unfold atV atE
    by_cases hb : bad k l
    · simp only [hb, if_true]
      exact (atI_bad g l.length k w hr.c3 hb).mono fun e w' ⟨he, hw⟩ => ⟨he, same_below hw⟩
    · simp only [hb, if_false]
      unfold bad at hb
      obtain ⟨n, rfl⟩ : ∃ n : Nat, k = n := ⟨k.toNat, by omega⟩
      exact (atI_any own i g r front n sv zs l (l.getD n 0) w hr (getK (by omega))).mono fun e w' ⟨he, hw⟩ => ⟨he, drewN_below hw⟩
theorem setI_st (k x : Int) (h : SI own i w pv st) (hn : Nf own w) : Calls Try.prog 36 #[pv, .int .i64 k, .int .i64 x] w fun e w' => e = .returned (.int .i64 (atE k st)) ∧ Lv SI own i w w' pv (setS k x st) := by
  rcases st with _ | ⟨r, l⟩
  · obtain rfl := h
    exact (setI_nil k x w).mono fun e w' ⟨he, hw⟩ => ⟨he, lvI (st := none) rfl hn (same_below hw)⟩
  · obtain ⟨g, sv, zs, front, rfl, hr⟩ := h
    unfold setS atE
    by_cases hb : bad k l
    · simp only [hb, if_true]
      exact (setI_bad g l.length k x w hr.c3 hb).mono fun e w' ⟨he, hw⟩ => ⟨he, lvI (st := some (r, l)) ⟨g, sv, zs, front, rfl, hr⟩ hn (same_below hw)⟩
    · simp only [hb, if_false]
      unfold bad at hb
      obtain ⟨n, rfl⟩ : ∃ n : Nat, k = n := ⟨k.toNat, by omega⟩
      exact (setI_any own i g r front n sv zs l x w hr hn (by omega)).mono fun e w' ⟨he, hw⟩ => ⟨he, lvI_af hw⟩
theorem lenI_st (h : SI own i w pv st) : Calls Try.prog 21 #[pv] w fun e w' => e = .returned (.int .i64 (lenV st)) ∧ w' = w := by
  rcases st with _ | ⟨r, l⟩
  · obtain rfl := h; exact lenI_nil w
  · obtain ⟨g, sv, zs, front, rfl, hr⟩ := h; exact lenI g l.length w hr.c3
theorem roomI_st (h : SI own i w pv st) : Calls Try.prog 30 #[pv] w fun e w' => e = .returned (.int .i64 (roomV st)) ∧ w' = w := by
  rcases st with _ | ⟨r, l⟩
  · obtain rfl := h; exact roomI_nil w
  · obtain ⟨g, sv, zs, front, rfl, hr⟩ := h; exact roomI g r w hr.c0

/-! The ring of things. -/
theorem pushT_st (x : Int) (h : ST own i w pv st) (hn : Nf own w) (hi : i ≠ 0) : Calls Try.prog 9 #[pv, .agg #[.string (th x).1, .int .i64 (th x).2.1, .int .i64 (th x).2.2]] w fun e w' => e = .returned (.int .i64 (pushE st)) ∧ Lv ST own i w w' pv (pushS x st) := by
  rcases st with _ | ⟨r, l⟩
  · obtain rfl := h
    exact (pushT_nil (th x) w).mono fun e w' ⟨he, hw⟩ => ⟨he, lvT (st := none) rfl hn hw⟩
  · obtain ⟨g, sv, zs, front, rfl, hr⟩ := h
    by_cases hf : l.length = r
    · unfold pushE pushS
      simp only [if_pos hf]
      have h3 := hr.c3
      rw [List.length_map, hf] at h3
      exact (pushT_full g r (th x) w hr.c0 h3).mono fun e w' ⟨he, hw⟩ => ⟨he, lvT (st := some (r, l)) ⟨g, sv, zs, front, rfl, hr⟩ hn hw⟩
    · unfold pushE pushS
      simp only [if_neg hf]
      have h1 := hr.hold.1
      have := hr.len
      rw [List.length_map] at h1
      exact (pushT_any own i g r front sv zs (l.map th) (th x) w hr hn hi (by rw [List.length_map]; omega)).mono fun e w' ⟨he, hw⟩ => ⟨he, lvT_af hw (by simp)⟩
theorem popFT_st (h : ST own i w pv st) (hn : Nf own w) : Calls Try.prog 6 #[pv] w fun e w' => e = .returned (.tuple #[.agg #[.string (tv (popE st) (popFV st)).1, .int .i64 (tv (popE st) (popFV st)).2.1, .int .i64 (tv (popE st) (popFV st)).2.2], .int .i64 (popE st)]) ∧ Lv ST own i w w' pv (popFS st) := by
  rcases st with _ | ⟨r, l⟩
  · obtain rfl := h
    exact (popFT_err _ 3 w (fun W _ => someT_nil W) (by omega)).mono fun e w' ⟨he, hw⟩ => ⟨he, lvT (st := none) rfl hn hw⟩
  · obtain ⟨g, sv, zs, front, rfl, hr⟩ := h
    unfold popFV popE popFS
    have hgw := blk_lt hr.blk
    by_cases hf : l = []
    · subst hf
      exact (popFT_err _ 51 w (fun W hW => someT_empty g W ((hW.cell (p := ⟨g, 3, none⟩) hgw).trans hr.c3)) (by omega)).mono fun e w' ⟨he, hw⟩ => ⟨he, lvT (st := some (r, [])) ⟨g, sv, zs, front, rfl, hr⟩ hn hw⟩
    · simp only [hf, if_false, tv, if_true]
      have hlp : 0 < l.length := List.length_pos_iff.2 hf
      exact (popFT_any own i g r front sv zs (l.map th) (th (l.getD 0 0)) w hr hn (map_at hlp)).mono fun e w' ⟨he, hw⟩ => ⟨he, lvT_af hw (by simp)⟩
theorem popBT_st (h : ST own i w pv st) (hn : Nf own w) : Calls Try.prog 7 #[pv] w fun e w' => e = .returned (.tuple #[.agg #[.string (tv (popE st) (popBV st)).1, .int .i64 (tv (popE st) (popBV st)).2.1, .int .i64 (tv (popE st) (popBV st)).2.2], .int .i64 (popE st)]) ∧ Lv ST own i w w' pv (popBS st) := by
  rcases st with _ | ⟨r, l⟩
  · obtain rfl := h
    exact (popBT_err _ 3 w (fun W _ => someT_nil W) (by omega)).mono fun e w' ⟨he, hw⟩ => ⟨he, lvT (st := none) rfl hn hw⟩
  · obtain ⟨g, sv, zs, front, rfl, hr⟩ := h
    unfold popBV popE popBS
    have hgw := blk_lt hr.blk
    by_cases hf : l = []
    · subst hf
      exact (popBT_err _ 51 w (fun W hW => someT_empty g W ((hW.cell (p := ⟨g, 3, none⟩) hgw).trans hr.c3)) (by omega)).mono fun e w' ⟨he, hw⟩ => ⟨he, lvT (st := some (r, [])) ⟨g, sv, zs, front, rfl, hr⟩ hn hw⟩
    · simp only [hf, if_false, tv, if_true]
      have hlp : 0 < l.length := List.length_pos_iff.2 hf
      exact (popBT_any own i g r front sv zs (l.map th) (th (l.getD (l.length - 1) 0)) w hr hn (by simp; omega) (by rw [List.length_map]; exact map_at (by omega))).mono fun e w' ⟨he, hw⟩ => ⟨he, lvT_af hw (by simp)⟩
theorem withinT_bad (g c : Nat) (k : Int) (w : World) (h : w.cell? ⟨g, 3, none⟩ = some (.int .i64 c)) (hk : k < 0 ∨ (c : Int) ≤ k) : Calls Try.prog 28 #[.pointer (some ⟨g, 0, none⟩), .int .i64 k] w fun e w' => e = .returned (.int .i64 1) ∧ w' = w := by
  rcases hk with hk | hk
  · exact withinT_neg g k w hk
  · exact withinT_out g c k w h hk
theorem atT_st (k : Int) (h : ST own i w pv st) : Calls Try.prog 8 #[pv, .int .i64 k] w fun e w' => e = .returned (.tuple #[.agg #[.string (tv (atE k st) (atV k st)).1, .int .i64 (tv (atE k st) (atV k st)).2.1, .int .i64 (tv (atE k st) (atV k st)).2.2], .int .i64 (atE k st)]) ∧ Below w.heap.size w w' := by
  rcases st with _ | ⟨r, l⟩
  · obtain rfl := h
    exact atT_err _ 3 k w (fun W _ => withinT_nil k W) (by omega)
  · obtain ⟨g, sv, zs, front, rfl, hr⟩ := h
    have hgw := blk_lt hr.blk
    unfold atV atE
    by_cases hb : bad k l
    · simp only [hb, if_true]
      exact atT_err _ 1 k w (fun W hW => withinT_bad g l.length k W (by have := (hW.cell (p := ⟨g, 3, none⟩) hgw).trans hr.c3; rw [List.length_map] at this; exact this) hb) (by omega)
    · simp only [hb, if_false, tv, if_true]
      unfold bad at hb
      obtain ⟨n, rfl⟩ : ∃ n : Nat, k = n := ⟨k.toNat, by omega⟩
      exact atT_any own i g r front n sv zs (l.map th) (th (l.getD n 0)) w hr (map_at (by omega))
theorem setT_st (k x : Int) (h : ST own i w pv st) (hn : Nf own w) : Calls Try.prog 11 #[pv, .int .i64 k, .agg #[.string (th x).1, .int .i64 (th x).2.1, .int .i64 (th x).2.2]] w fun e w' => e = .returned (.int .i64 (atE k st)) ∧ Lv ST own i w w' pv (setS k x st) := by
  rcases st with _ | ⟨r, l⟩
  · obtain rfl := h
    exact (setT_err _ 3 k (th x) w (fun W _ => withinT_nil k W) (by omega)).mono fun e w' ⟨he, hw⟩ => ⟨he, lvT (st := none) rfl hn hw⟩
  · obtain ⟨g, sv, zs, front, rfl, hr⟩ := h
    have hgw := blk_lt hr.blk
    unfold setS atE
    by_cases hb : bad k l
    · simp only [hb, if_true]
      exact (setT_err _ 1 k (th x) w (fun W hW => withinT_bad g l.length k W (by have := (hW.cell (p := ⟨g, 3, none⟩) hgw).trans hr.c3; rw [List.length_map] at this; exact this) hb) (by omega)).mono fun e w' ⟨he, hw⟩ => ⟨he, lvT (st := some (r, l)) ⟨g, sv, zs, front, rfl, hr⟩ hn hw⟩
    · simp only [hb, if_false]
      unfold bad at hb
      obtain ⟨n, rfl⟩ : ∃ n : Nat, k = n := ⟨k.toNat, by omega⟩
      exact (setT_any own i g r front n sv zs (l.map th) (th x) w hr hn (by simp; omega)).mono fun e w' ⟨he, hw⟩ => ⟨he, lvT_af hw (by simp [List.map_set])⟩
theorem lenT_st (h : ST own i w pv st) : Calls Try.prog 12 #[pv] w fun e w' => e = .returned (.int .i64 (lenV st)) ∧ w' = w := by
  rcases st with _ | ⟨r, l⟩
  · obtain rfl := h; exact lenT_nil w
  · obtain ⟨g, sv, zs, front, rfl, hr⟩ := h; exact lenT g l.length w (by have := hr.c3; rw [List.length_map] at this; exact this)
theorem roomT_st (h : ST own i w pv st) : Calls Try.prog 13 #[pv] w fun e w' => e = .returned (.int .i64 (roomV st)) ∧ w' = w := by
  rcases st with _ | ⟨r, l⟩
  · obtain rfl := h; exact roomT_nil w
  · obtain ⟨g, sv, zs, front, rfl, hr⟩ := h; exact roomT g r w hr.c0

/-! The document's ring. -/
theorem pushR_st (x : Int) (h : SR own i w pv st) (hn : Nf own w) : Calls Try.prog 31 #[pv, .int .i64 x] w fun e w' => e = .returned (.int .i64 (pushE st)) ∧ Lv SR own i w w' pv (pushS x st) := by
  rcases st with _ | ⟨r, l⟩
  · obtain rfl := h
    exact (pushR_nil x w).mono fun e w' ⟨he, hw⟩ => ⟨he, lvR (st := none) rfl hn (same_below hw)⟩
  · obtain ⟨g, sv, rfl, hr⟩ := h
    have hlen := hr.len
    by_cases hf : l.length = r
    · unfold pushE pushS
      simp only [if_pos hf]
      obtain ⟨sp, cap, hsv⟩ := hr.sl
      have h1 := hr.c1
      rw [hsv, hf] at h1
      exact (pushR_full g r cap sp x w hr.c0 h1).mono fun e w' ⟨he, hw⟩ => ⟨he, lvR (st := some (r, l)) ⟨g, sv, rfl, hr⟩ hn (drewN_below hw)⟩
    · unfold pushE pushS
      simp only [if_neg hf]
      exact (pushR_any own i g r sv l x w hr hn (by omega)).mono fun e w' ⟨he, hw⟩ => ⟨he, lvR_af hw⟩
theorem RR.full {g most : Nat} {sv : Value} {l : List Int} (h : RR own i w g most sv l) (hl : 0 < l.length) : ∃ b off cap cur, sv = .slice (some ⟨b, off, none⟩) l.length cap ∧ l.length ≤ cap ∧ cap ≤ maxLen ∧ w.heap[b]? = some (.cells cur 3 (0, 0)) ∧ own b = i ∧ b ≠ g ∧ off + cap ≤ cur.size ∧ (∀ j x, l[j]? = some x → cur[off + j]? = some (.int .i64 x)) := by
  rcases h.row with ⟨_, rfl⟩ | h1
  · simp at hl
  · exact h1
theorem popFR_st (h : SR own i w pv st) (hn : Nf own w) : Calls Try.prog 32 #[pv] w fun e w' => e = .returned (.tuple #[.int .i64 (popFV st), .int .i64 (popE st)]) ∧ Lv SR own i w w' pv (popFS st) := by
  rcases st with _ | ⟨r, l⟩
  · obtain rfl := h
    exact (popFR_nil w).mono fun e w' ⟨he, hw⟩ => ⟨he, lvR (st := none) rfl hn (same_below hw)⟩
  · obtain ⟨g, sv, rfl, hr⟩ := h
    unfold popFV popE popFS
    by_cases hf : l = []
    · subst hf
      obtain ⟨sp, cap, hsv⟩ := hr.sl
      have h1 := hr.c1
      rw [hsv] at h1
      exact (popFR_empty g cap sp w h1).mono fun e w' ⟨he, hw⟩ => ⟨he, lvR (st := some (r, [])) ⟨g, sv, rfl, hr⟩ hn (same_below hw)⟩
    · simp only [hf, if_false]
      have hlp : 0 < l.length := List.length_pos_iff.2 hf
      have hlen := hr.len
      obtain ⟨b, off, cap, cur, rfl, hle, hmx, hrow, hob, hbg, hcap, hcl⟩ := hr.full hlp
      refine (popFR g l.length cap b off (l.getD 0 0) w hr.c1 hlp hle (blk_cell hrow (hcl 0 _ (get0 hf))) (hr.fz 1)).mono ?_
      rintro e w' ⟨rfl, rfl⟩
      refine ⟨rfl, own, fun k hk => hn k (by rw [size_set] at hk; exact hk), (Fr.refl _ _ _).set' hr.lab _ _, g, _, rfl, blk_set hr.blk 1 _, hr.lab, hr.r1, hr.r2, by simp; omega, .inr ?_⟩
      by_cases hc1 : cap = 1
      · refine ⟨b, off, cap - 1, cur, by simp [hc1], by simp; omega, by omega, blk_other hrow hbg _, hob, hbg, by omega, ?_⟩
        intro j x hj
        have := (List.getElem?_eq_some_iff.1 hj).1
        simp at this; omega
      · refine ⟨b, off + 1, cap - 1, cur, by simp [hc1], by simp; omega, by omega, blk_other hrow hbg _, hob, hbg, by omega, ?_⟩
        intro j x hj
        rw [List.getElem?_tail] at hj
        have := hcl (j + 1) x hj
        rw [show off + 1 + j = off + (j + 1) by omega]; exact this
theorem popBR_st (h : SR own i w pv st) (hn : Nf own w) : Calls Try.prog 33 #[pv] w fun e w' => e = .returned (.tuple #[.int .i64 (popBV st), .int .i64 (popE st)]) ∧ Lv SR own i w w' pv (popBS st) := by
  rcases st with _ | ⟨r, l⟩
  · obtain rfl := h
    exact (popBR_nil w).mono fun e w' ⟨he, hw⟩ => ⟨he, lvR (st := none) rfl hn (same_below hw)⟩
  · obtain ⟨g, sv, rfl, hr⟩ := h
    unfold popBV popE popBS
    by_cases hf : l = []
    · subst hf
      obtain ⟨sp, cap, hsv⟩ := hr.sl
      have h1 := hr.c1
      rw [hsv] at h1
      exact (popBR_empty g cap sp w h1).mono fun e w' ⟨he, hw⟩ => ⟨he, lvR (st := some (r, [])) ⟨g, sv, rfl, hr⟩ hn (same_below hw)⟩
    · simp only [hf, if_false]
      have hlp : 0 < l.length := List.length_pos_iff.2 hf
      have hlen := hr.len
      obtain ⟨b, off, cap, cur, rfl, hle, hmx, hrow, hob, hbg, hcap, hcl⟩ := hr.full hlp
      obtain ⟨c, hc⟩ : ∃ c, l.length = c + 1 := ⟨l.length - 1, by omega⟩
      have h1 := hr.c1
      rw [hc] at h1
      have hx : l[c]? = some (l.getD (l.length - 1) 0) := by rw [show l.length - 1 = c by omega]; exact getK (by omega)
      refine (popBR g c cap b off (l.getD (l.length - 1) 0) w h1 (by omega) (blk_cell hrow (hcl c _ hx)) (hr.fz 1) hmx).mono ?_
      rintro e w' ⟨rfl, m, rfl⟩
      refine ⟨rfl, own, fun k hk => hn k (by have := size_set w ⟨g, 1, none⟩ (.slice (some ⟨b, off, none⟩) c cap); change (w.setCell ⟨g, 1, none⟩ (.slice (some ⟨b, off, none⟩) c cap)).heap.size ≤ k at hk; omega), ((Fr.refl _ _ _).set' hr.lab _ _).drewN m, g, _, rfl, blk_set hr.blk 1 _, hr.lab, hr.r1, hr.r2, by simp; omega, .inr ?_⟩
      refine ⟨b, off, cap, cur, by simp [hc], by simp; omega, by omega, blk_other hrow hbg _, hob, hbg, by omega, ?_⟩
      intro j x hj
      rw [List.getElem?_dropLast] at hj
      split at hj
      · exact hcl j x hj
      · cases hj
theorem atR_st (k : Int) (h : SR own i w pv st) : Calls Try.prog 34 #[pv, .int .i64 k] w fun e w' => e = .returned (.tuple #[.int .i64 (atV k st), .int .i64 (atE k st)]) ∧ w' = w := by
  rcases st with _ | ⟨r, l⟩
  · obtain rfl := h
    exact atR_nil k w
  · obtain ⟨g, sv, rfl, hr⟩ := h
    unfold atV atE
    by_cases hb : bad k l
    · simp only [hb, if_true]
      obtain ⟨sp, cap, hsv⟩ := hr.sl
      have h1 := hr.c1
      rw [hsv] at h1
      exact atR_bad g l.length cap sp k w h1 hb
    · simp only [hb, if_false]
      unfold bad at hb
      obtain ⟨n, rfl⟩ : ∃ n : Nat, k = n := ⟨k.toNat, by omega⟩
      obtain ⟨b, off, cap, cur, rfl, hle, hmx, hrow, hob, hbg, hcap, hcl⟩ := hr.full (by omega)
      exact atR g l.length cap b off n (l.getD n 0) w hr.c1 (by omega) (blk_cell hrow (hcl n _ (getK (by omega))))
theorem setR_st (k x : Int) (h : SR own i w pv st) (hn : Nf own w) : Calls Try.prog 35 #[pv, .int .i64 k, .int .i64 x] w fun e w' => e = .returned (.int .i64 (atE k st)) ∧ Lv SR own i w w' pv (setS k x st) := by
  rcases st with _ | ⟨r, l⟩
  · obtain rfl := h
    exact (setR_nil k x w).mono fun e w' ⟨he, hw⟩ => ⟨he, lvR (st := none) rfl hn (same_below hw)⟩
  · obtain ⟨g, sv, rfl, hr⟩ := h
    unfold setS atE
    by_cases hb : bad k l
    · simp only [hb, if_true]
      obtain ⟨sp, cap, hsv⟩ := hr.sl
      have h1 := hr.c1
      rw [hsv] at h1
      exact (setR_bad g l.length cap sp k x w h1 hb).mono fun e w' ⟨he, hw⟩ => ⟨he, lvR (st := some (r, l)) ⟨g, sv, rfl, hr⟩ hn (same_below hw)⟩
    · simp only [hb, if_false]
      unfold bad at hb
      obtain ⟨n, rfl⟩ : ∃ n : Nat, k = n := ⟨k.toNat, by omega⟩
      have hlen := hr.len
      obtain ⟨b, off, cap, cur, rfl, hle, hmx, hrow, hob, hbg, hcap, hcl⟩ := hr.full (by omega)
      refine (setR g l.length cap b off n x (l.getD n 0) w hr.c1 (by omega) (blk_cell hrow (hcl n _ (getK (by omega)))) (blk_frozen hrow)).mono ?_
      rintro e w' ⟨rfl, rfl⟩
      refine ⟨rfl, own, fun k hk => hn k (by rw [size_set] at hk; exact hk), (Fr.refl _ _ _).set' hob _ _, g, _, rfl, blk_other hr.blk (Ne.symm hbg) _, hr.lab, hr.r1, hr.r2, by simp; omega, .inr ⟨b, off, cap, cur.setIfInBounds (off + n) (.int .i64 x), by simp, by simp; omega, hmx, blk_set hrow _ _, hob, hbg, by simp; omega, ?_⟩⟩
      intro j y hj
      simp only [Int.toNat_natCast] at hj
      by_cases hc : n = j
      · subst hc
        rw [List.getElem?_set_self (by omega)] at hj
        cases hj
        rw [Array.getElem?_setIfInBounds_self_of_lt (by omega)]
      · rw [List.getElem?_set_ne hc] at hj
        rw [Array.getElem?_setIfInBounds_ne (by omega)]
        exact hcl j y hj
theorem lenR_st (h : SR own i w pv st) : Calls Try.prog 19 #[pv] w fun e w' => e = .returned (.int .i64 (lenV st)) ∧ w' = w := by
  rcases st with _ | ⟨r, l⟩
  · obtain rfl := h; exact lenR_nil w
  · obtain ⟨g, sv, rfl, hr⟩ := h
    obtain ⟨sp, cap, hsv⟩ := hr.sl
    have h1 := hr.c1
    rw [hsv] at h1
    exact lenR g l.length cap sp w h1
theorem roomR_st (h : SR own i w pv st) : Calls Try.prog 37 #[pv] w fun e w' => e = .returned (.int .i64 (roomV st)) ∧ w' = w := by
  rcases st with _ | ⟨r, l⟩
  · obtain rfl := h; exact roomR_nil w
  · obtain ⟨g, sv, rfl, hr⟩ := h; exact roomR g r w hr.c0
end
end Go.Proofs.Ytjibpdncginkdaa
