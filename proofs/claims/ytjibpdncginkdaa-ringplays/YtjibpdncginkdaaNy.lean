import Derived.Test.YtjibpdncginkdaaNv
import Derived.Test.YtjibpdncginkdaaNw
import Derived.BigQuiet
set_option linter.unusedVariables false
set_option linter.unusedSimpArgs false
namespace Go.Proofs.Ytjibpdncginkdaa
open Go.RowKit Go.BigFrame

/-- The act's block and the three rings, amid an act. -/
structure Md (a : Nat) (own0 : Nat → Nat) (w0 : World) (B : Nat) (k : Int) (o : Bool) (I X : Int) (pr pt pq : Value) (si st sr : St) (own : Nat → Nat) (W : World) : Prop where
  en : En a own0 w0 B k o I X own W
  i : SI own a W pr si
  t : ST own (a + 1) W pt st
  r : SR own (a + 2) W pq sr
section
variable {a : Nat} {own0 : Nat → Nat} {w0 : World} {B : Nat} {k : Int} {o : Bool} {I X : Int} {pr pt pq : Value} {si st sr si' st' sr' : St} {own : Nat → Nat} {W W' : World}
theorem Md.below (h : Md a own0 w0 B k o I X pr pt pq si st sr own W) (hb : Below W.heap.size W W') : Md a own0 w0 B k o I X pr pt pq si st sr own W' :=
  ⟨h.en.below hb, h.i.below hb, h.t.below hb, h.r.below hb⟩
theorem Md.onI (ha : a ≠ 0) (h : Md a own0 w0 B k o I X pr pt pq si st sr own W) (l : Lv SI own a W W' pr si') : ∃ own', Md a own0 w0 B k o I X pr pt pq si' st sr own' W' := by
  obtain ⟨own', n, f, s⟩ := l
  exact ⟨own', h.en.call f n (.inl rfl) ha, s, h.t.kept f (by omega), h.r.kept f (by omega)⟩
theorem Md.onT (ha : a ≠ 0) (h : Md a own0 w0 B k o I X pr pt pq si st sr own W) (l : Lv ST own (a + 1) W W' pt st') : ∃ own', Md a own0 w0 B k o I X pr pt pq si st' sr own' W' := by
  obtain ⟨own', n, f, s⟩ := l
  exact ⟨own', h.en.call f n (.inr (.inl rfl)) (by omega), h.i.kept f (by omega), s, h.r.kept f (by omega)⟩
theorem Md.onR (ha : a ≠ 0) (h : Md a own0 w0 B k o I X pr pt pq si st sr own W) (l : Lv SR own (a + 2) W W' pq sr') : ∃ own', Md a own0 w0 B k o I X pr pt pq si st sr' own' W' := by
  obtain ⟨own', n, f, s⟩ := l
  exact ⟨own', h.en.call f n (.inr (.inr rfl)) (by omega), h.i.kept f (by omega), h.t.kept f (by omega), s⟩
theorem Md.keep (h : Md a own0 w0 B k o I X pr pt pq si st sr own W) : W.cell? ⟨B, 2, none⟩ = some (.int .i64 I) ∧ W.cell? ⟨B, 3, none⟩ = some (.int .i64 X) := ⟨h.en.c2, h.en.c3⟩
theorem Md.po (h : Md a own0 w0 B k o I X pr pt pq st st st own W) : Po a own0 w0 W pr pt pq st := ⟨own, h.en.nf, h.en.fr, h.i, h.t, h.r⟩
end

set_option maxRecDepth 100000 in
set_option maxHeartbeats 1000000 in
theorem one5 (a : Nat) (own : Nat → Nat) (w : World) (pr pt pq : Value) (st : St) (o : Bool) (I X : Int) (hn : Nf own w) (ha : a ≠ 0) (hT : Tri a own w pr pt pq st) :
    Calls Try.prog 18 #[pr, pt, pq, .agg #[.int .i64 5, .bool o, .int .i64 I, .int .i64 X]] w fun e w' => e = .returned (.bool true) ∧ Po a own w w' pr pt pq (setS I X st) := by
  have hE := En.start (a := a) (k := 5) (o := o) (I := I) (X := X) own w hn
  have hB : Below w.heap.size w (w.alloc (.cells #[.int .i64 5, .bool o, .int .i64 I, .int .i64 X] 45)) := (Below.refl _ w).alloc (Nat.le_refl _) _
  have hT0 := hT.below hB
  clear hT hB hn
  have EQ := eqA
  go_enter Try.func18, Try.ntmps18
  go_wp2_with fail
  generalize w.alloc (.cells #[.int .i64 5, .bool o, .int .i64 I, .int .i64 X] 45) = W at *
  generalize w.heap.size = B at *
  have m0 : Md a own w B 5 o I X pr pt pq st st st own W := ⟨hE, hT0.1, hT0.2.1, hT0.2.2⟩
  clear hE hT0
  refine (setR_st I X m0.r m0.en.nf).mono ?_
  rintro e w1 ⟨rfl, l1⟩
  obtain ⟨o1, m1⟩ := m0.onR ha l1
  clear m0 l1
  generalize hS2 : setS I X st = st2 at *
  have HS2 : Hid (setS I X st = st2) := hS2
  clear hS2
  have m1d : Md a own w B 5 o I X pr pt pq st st st2 o1 w1.drew := m1.below (below_drewN w1 1)
  have c2 := m1.en.c2
  have c3 := m1.en.c3
  generalize hEE : atE I st = E at *
  have KI : Hid (∀ W, Md a own w B 5 o I X pr pt pq st st st2 o1 W → Calls Try.prog 36 #[pr, .int .i64 I, .int .i64 X] W fun e w' => e = .returned (.int .i64 E) ∧ ∃ o2, Md a own w B 5 o I X pr pt pq st2 st st2 o2 w') := fun W h =>
    (setI_st I X h.i h.en.nf).mono fun e w' ⟨he, l⟩ => ⟨by rw [← hEE]; exact he, by rw [HS2.out] at l; exact h.onI ha l⟩
  have KT : Hid (∀ o2 W, Md a own w B 5 o I X pr pt pq st2 st st2 o2 W → Calls Try.prog 10 #[.int .i64 X] W fun e w' => e = .returned (.agg #[.string (th X).1, .int .i64 (th X).2.1, .int .i64 (th X).2.2]) ∧ Md a own w B 5 o I X pr pt pq st2 st st2 o2 w') := fun o2 W h =>
    (thing_any X W).mono fun e w' ⟨he, hb⟩ => ⟨he, h.below hb⟩
  have KS : Hid (∀ o2 W, Md a own w B 5 o I X pr pt pq st2 st st2 o2 W → Calls Try.prog 11 #[pt, .int .i64 I, .agg #[.string (th X).1, .int .i64 (th X).2.1, .int .i64 (th X).2.2]] W fun e w' => e = .returned (.int .i64 E) ∧ ∃ o3, Md a own w B 5 o I X pr pt pq st2 st2 st2 o3 w') := fun o2 W h =>
    (setT_st I X h.t h.en.nf).mono fun e w' ⟨he, l⟩ => ⟨by rw [← hEE]; exact he, by rw [HS2.out] at l; exact h.onT ha l⟩
  clear hEE m1
  go_wp2_with fail
  go_region_held3 (fun w' => w'.cell? ⟨B, 2, none⟩ = some (.int .i64 I) ∧ w'.cell? ⟨B, 3, none⟩ = some (.int .i64 X))
    (first | (exact Md.keep (by assumption)) | (exact ⟨c2, c3⟩) | go_keep)
    (first | (go_at_call 36; refine (KI.out _ (by assumption)).mono ?_; rintro e w2 ⟨rfl, o2, h2⟩) | (go_at_call 10; refine (KT.out _ _ (by assumption)).mono ?_; rintro e w3 ⟨rfl, h3⟩) | (go_at_call 11; refine (KS.out _ _ (by assumption)).mono ?_; rintro e w4 ⟨rfl, o3, h4⟩))
  all_goals (
    have hfin : Po a own w w4 pr pt pq st2 := Md.po (by assumption)
    go_wp2_with fail
    go_ret
    exact ⟨rfl, by rw [HS2.out]; exact hfin⟩)

set_option maxRecDepth 100000 in
set_option maxHeartbeats 1000000 in
theorem one6 (a : Nat) (own : Nat → Nat) (w : World) (pr pt pq : Value) (st : St) (o : Bool) (I X : Int) (hn : Nf own w) (ha : a ≠ 0) (hT : Tri a own w pr pt pq st) :
    Calls Try.prog 18 #[pr, pt, pq, .agg #[.int .i64 6, .bool o, .int .i64 I, .int .i64 X]] w fun e w' => e = .returned (.bool true) ∧ Po a own w w' pr pt pq st := by
  have hE := En.start (a := a) (k := 6) (o := o) (I := I) (X := X) own w hn
  have hB : Below w.heap.size w (w.alloc (.cells #[.int .i64 6, .bool o, .int .i64 I, .int .i64 X] 45)) := (Below.refl _ w).alloc (Nat.le_refl _) _
  have hT0 := hT.below hB
  clear hT hB hn
  have EQ := eqA
  go_enter Try.func18, Try.ntmps18
  go_wp2_with fail
  generalize w.alloc (.cells #[.int .i64 6, .bool o, .int .i64 I, .int .i64 X] 45) = W at *
  generalize w.heap.size = B at *
  have m0 : Md a own w B 6 o I X pr pt pq st st st own W := ⟨hE, hT0.1, hT0.2.1, hT0.2.2⟩
  clear hE hT0
  have HP : Hid (Po a own w W pr pt pq st) := m0.po
  refine (lenI_st m0.i).mono ?_
  rintro e w1 ⟨rfl, rfl⟩
  have KR : Hid (Calls Try.prog 19 #[pq] w1 fun e w' => e = .returned (.int .i64 (lenV st)) ∧ w' = w1) := lenR_st m0.r
  have KT : Hid (Calls Try.prog 12 #[pt] w1 fun e w' => e = .returned (.int .i64 (lenV st)) ∧ w' = w1) := lenT_st m0.t
  clear m0
  generalize lenV st = Z at *
  go_wp2_with fail
  refine KR.out.mono ?_
  rintro e w2 ⟨rfl, rfl⟩
  go_wp2_with fail
  refine KT.out.mono ?_
  rintro e w3 ⟨rfl, rfl⟩
  go_wp2_with fail
  refine KR.out.mono ?_
  rintro e w4 ⟨rfl, rfl⟩
  go_wp2_with fail
  go_ret
  exact ⟨rfl, HP.out⟩

set_option maxRecDepth 100000 in
set_option maxHeartbeats 1000000 in
theorem one7 (a : Nat) (own : Nat → Nat) (w : World) (pr pt pq : Value) (st : St) (o : Bool) (I X : Int) (hn : Nf own w) (ha : a ≠ 0) (hT : Tri a own w pr pt pq st) :
    Calls Try.prog 18 #[pr, pt, pq, .agg #[.int .i64 7, .bool o, .int .i64 I, .int .i64 X]] w fun e w' => e = .returned (.bool true) ∧ Po a own w w' pr pt pq st := by
  have hE := En.start (a := a) (k := 7) (o := o) (I := I) (X := X) own w hn
  have hB : Below w.heap.size w (w.alloc (.cells #[.int .i64 7, .bool o, .int .i64 I, .int .i64 X] 45)) := (Below.refl _ w).alloc (Nat.le_refl _) _
  have hT0 := hT.below hB
  clear hT hB hn
  have EQ := eqA
  go_enter Try.func18, Try.ntmps18
  go_wp2_with fail
  generalize w.alloc (.cells #[.int .i64 7, .bool o, .int .i64 I, .int .i64 X] 45) = W at *
  generalize w.heap.size = B at *
  have m0 : Md a own w B 7 o I X pr pt pq st st st own W := ⟨hE, hT0.1, hT0.2.1, hT0.2.2⟩
  clear hE hT0
  have HP : Hid (Po a own w W pr pt pq st) := m0.po
  refine (roomI_st m0.i).mono ?_
  rintro e w1 ⟨rfl, rfl⟩
  have KR : Hid (Calls Try.prog 37 #[pq] w1 fun e w' => e = .returned (.int .i64 (roomV st)) ∧ w' = w1) := roomR_st m0.r
  have KT : Hid (Calls Try.prog 13 #[pt] w1 fun e w' => e = .returned (.int .i64 (roomV st)) ∧ w' = w1) := roomT_st m0.t
  clear m0
  generalize roomV st = Z at *
  go_wp2_with fail
  refine KR.out.mono ?_
  rintro e w2 ⟨rfl, rfl⟩
  go_wp2_with fail
  refine KT.out.mono ?_
  rintro e w3 ⟨rfl, rfl⟩
  go_wp2_with fail
  refine KR.out.mono ?_
  rintro e w4 ⟨rfl, rfl⟩
  go_wp2_with fail
  go_ret
  exact ⟨rfl, HP.out⟩

set_option maxRecDepth 100000 in
set_option maxHeartbeats 1000000 in
theorem one0 (a : Nat) (own : Nat → Nat) (w : World) (pr pt pq : Value) (st : St) (k : Int) (o : Bool) (I X : Int) (hn : Nf own w) (hT : Tri a own w pr pt pq st) (h1 : k ≠ 1) (h2 : k ≠ 2) (h3 : k ≠ 3) (h4 : k ≠ 4) (h5 : k ≠ 5) (h6 : k ≠ 6) (h7 : k ≠ 7) :
    Calls Try.prog 18 #[pr, pt, pq, .agg #[.int .i64 k, .bool o, .int .i64 I, .int .i64 X]] w fun e w' => e = .returned (.bool true) ∧ Po a own w w' pr pt pq st := by
  have hB : Below w.heap.size w (w.alloc (.cells #[.int .i64 k, .bool o, .int .i64 I, .int .i64 X] 45)) := (Below.refl _ w).alloc (Nat.le_refl _) _
  have HP : Hid (Po a own w (w.alloc (.cells #[.int .i64 k, .bool o, .int .i64 I, .int .i64 X] 45)) pr pt pq st) := ⟨own, hn.below hB.size, FrS.of_below hB, hT.below hB⟩
  have g1 : (k == 1) = false := by simp; exact h1
  have g2 : (k == 2) = false := by simp; exact h2
  have g3 : (k == 3) = false := by simp; exact h3
  have g4 : (k == 4) = false := by simp; exact h4
  have g5 : (k == 5) = false := by simp; exact h5
  have g6 : (k == 6) = false := by simp; exact h6
  have g7 : (k == 7) = false := by simp; exact h7
  clear hT hB hn
  go_enter Try.func18, Try.ntmps18
  go_wp2_with fail
  go_ret
  exact ⟨rfl, HP.out⟩

/-- Any act. -/
theorem one_any (a : Nat) (own : Nat → Nat) (w : World) (pr pt pq : Value) (st : St) (k : Int) (o : Bool) (I X : Int) (hn : Nf own w) (ha : a ≠ 0) (hT : Tri a own w pr pt pq st) :
    Calls Try.prog 18 #[pr, pt, pq, .agg #[.int .i64 k, .bool o, .int .i64 I, .int .i64 X]] w fun e w' => e = .returned (.bool true) ∧ Po a own w w' pr pt pq (stp k I X st) := by
  by_cases h1 : k = 1
  · subst h1; exact one1 a own w pr pt pq st o I X hn ha hT
  by_cases h2 : k = 2
  · subst h2; exact one2 a own w pr pt pq st o I X hn ha hT
  by_cases h3 : k = 3
  · subst h3; exact one3 a own w pr pt pq st o I X hn ha hT
  by_cases h5 : k = 5
  · subst h5; exact one5 a own w pr pt pq st o I X hn ha hT
  have hs : stp k I X st = st := by unfold stp; rw [if_neg h1, if_neg h2, if_neg h3, if_neg h5]
  rw [hs]
  by_cases h4 : k = 4
  · subst h4; exact one4 a own w pr pt pq st o I X hn ha hT
  by_cases h6 : k = 6
  · subst h6; exact one6 a own w pr pt pq st o I X hn ha hT
  by_cases h7 : k = 7
  · subst h7; exact one7 a own w pr pt pq st o I X hn ha hT
  exact one0 a own w pr pt pq st k o I X hn hT h1 h2 h3 h4 h5 h6 h7
end Go.Proofs.Ytjibpdncginkdaa
