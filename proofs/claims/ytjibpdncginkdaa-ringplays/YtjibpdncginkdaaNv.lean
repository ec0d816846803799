import Derived.Test.YtjibpdncginkdaaNu
import Derived.BigQuiet
set_option linter.unusedVariables false
set_option linter.unusedSimpArgs false
namespace Go.Proofs.Ytjibpdncginkdaa
open Go.RowKit Go.BigFrame

set_option maxRecDepth 100000 in
set_option maxHeartbeats 1000000 in
theorem one2 (a : Nat) (own : Nat → Nat) (w : World) (pr pt pq : Value) (st : St) (o : Bool) (I X : Int) (hn : Nf own w) (ha : a ≠ 0) (hT : Tri a own w pr pt pq st) :
    Calls Try.prog 18 #[pr, pt, pq, .agg #[.int .i64 2, .bool o, .int .i64 I, .int .i64 X]] w fun e w' => e = .returned (.bool true) ∧ Po a own w w' pr pt pq (popFS st) := by
  have hE := En.start (a := a) (k := 2) (o := o) (I := I) (X := X) own w hn
  have hB : Below w.heap.size w (w.alloc (.cells #[.int .i64 2, .bool o, .int .i64 I, .int .i64 X] 45)) := (Below.refl _ w).alloc (Nat.le_refl _) _
  have hT0 := hT.below hB
  clear hT hB hn
  have EQ := eqA
  go_enter Try.func18, Try.ntmps18
  go_wp2_with fail
  generalize w.alloc (.cells #[.int .i64 2, .bool o, .int .i64 I, .int .i64 X] 45) = W at *
  generalize w.heap.size = B at *
  refine (popFR_st hT0.2.2 hE.nf).mono ?_
  rintro e w1 ⟨rfl, o1, n1, f1, s1⟩
  have e1 := hE.call f1 n1 (.inr (.inr rfl)) (by omega)
  have i1 := hT0.1.kept f1 (by omega)
  have t1 := hT0.2.1.kept f1 (by omega)
  clear hE hT0 n1 f1
  generalize hE : popE st = E at *
  have HE : Hid (popE st = E) := hE
  clear hE
  generalize hY : popFV st = Y at *
  have HY : Hid (popFV st = Y) := hY
  clear hY
  go_wp2_with fail
  refine (popFI_st i1 e1.nf).mono ?_
  rintro e w2 ⟨rfl, o2, n2, f2, i2⟩
  rw [HE.out, HY.out]
  have e2 := e1.call f2 n2 (.inl rfl) (by omega)
  have s2 := s1.kept f2 (by omega)
  have t2 := t1.kept f2 (by omega)
  clear e1 i1 s1 t1 n2 f2
  go_wp2_with fail
  refine (popFT_st t2 e2.nf).mono ?_
  rintro e w3 ⟨rfl, o3, n3, f3, t3⟩
  rw [HE.out, HY.out]
  have e3 := e2.call f3 n3 (.inr (.inl rfl)) (by omega)
  have i3 := i2.kept f3 (by omega)
  have s3 := s2.kept f3 (by omega)
  clear e2 i2 s2 t2 n3 f3
  have HEND : Hid (Po a own w w3 pr pt pq (popFS st)) := ⟨o3, e3.nf, e3.fr, i3, t3, s3⟩
  clear e3
  generalize hu : tv E Y = u at *
  have HU : Hid (tv E Y = u) := hu
  clear hu
  go_wp2_with fail
  obtain ⟨V, hV⟩ : ∃ V, w3.alloc (Obj.cells #[.string u.1, .int .i64 u.2.1, .int .i64 u.2.2] 25) = V := ⟨_, rfl⟩
  have hBV : Below w3.heap.size w3 V := by rw [← hV]; exact (Below.refl _ _).alloc (Nat.le_refl _) _
  have bu : BoxT V w3.heap.size u := by rw [← hV]; exact BoxT.new w3 u
  rw [hV]
  clear hV
  have PEND : Hid (∀ V', Below V.heap.size V V' → Po a own w V' pr pt pq (popFS st)) := fun V' hV' => by
    obtain ⟨oo, n, f, t⟩ := HEND.out
    have hb := hBV.trans (hV'.mono hBV.size)
    exact ⟨oo, n.below hb.size, f.trans (FrS.of_below hb), t.below hb⟩
  clear HEND hBV
  generalize w3.heap.size = D at *
  have u0 := bu.c0
  have u1 := bu.c1
  have u2 := bu.c2
  by_cases hE0 : E = 0
  · subst hE0
    obtain rfl : u = th Y := by rw [← HU.out]; rfl
    have KT : Hid (∀ W, Calls Try.prog 10 #[.int .i64 Y] W fun e w' => e = .returned (.agg #[.string (th Y).1, .int .i64 (th Y).2.1, .int .i64 (th Y).2.2]) ∧ Below W.heap.size W w') := fun W => thing_any Y W
    generalize th Y = t at *
    clear HU HE HY bu
    have hc0 : ∀ x : HW (S3 V D t), x.W.cell? ⟨D, 0, none⟩ = some (.string t.1) := fun x => x.h.1
    have hc1 : ∀ x : HW (S3 V D t), x.W.cell? ⟨D, 1, none⟩ = some (.int .i64 t.2.1) := fun x => x.h.2.1
    have hc2 : ∀ x : HW (S3 V D t), x.W.cell? ⟨D, 2, none⟩ = some (.int .i64 t.2.2) := fun x => x.h.2.2.1
    have hne : Nonempty (HW (S3 V D t)) := ⟨⟨V.drew, u0, u1, u2, (Below.refl _ _).drew⟩⟩
    have hex : ∀ x : HW (S3 V D t), ∃ y : HW (S3 V D t), x.W = y.W := fun x => ⟨x, rfl⟩
    refine wp_region_quiet_in (S := S3 V D t) (by kernel_rfl) (by kernel_rfl) ⟨u0, u1, u2, (Below.refl _ _).drew⟩ ?_
    clear u0 u1 u2
    repeat (go_big_quiet_step ((go_at_call 10; exact Calls.quiet_in _ (KT.out _) (fun _ _ => S3.keep))))
    refine wpQuiet_nil ?_
    rintro _ ⟨⟨W5, hS5⟩, rfl⟩
    have hfin := hS5.2.2.2
    clear hc0 hc1 hc2 hS5
    go_wp2_with fail
    go_ret
    exact ⟨rfl, PEND.out _ hfin⟩
  · obtain rfl : u = z0 := by rw [← HU.out]; unfold tv; rw [if_neg hE0]
    have g1 : (E == 0) = false := by simp; exact hE0
    have g2 : (E != 0) = true := by simp; exact hE0
    have g3 : decide (E = 0) = false := by simp; exact hE0
    clear HU HE HY bu
    change V.cell? ⟨D, 0, none⟩ = some (.string ⟨#[]⟩) at u0
    change V.cell? ⟨D, 1, none⟩ = some (.int .i64 0) at u1
    change V.cell? ⟨D, 2, none⟩ = some (.int .i64 0) at u2
    go_quiet (fail)
    go_wp2_with fail
    go_ret
    exact ⟨rfl, PEND.out _ (below_drewN V _)⟩

end Go.Proofs.Ytjibpdncginkdaa
