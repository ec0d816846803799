import Derived.Test.YtjibpdncginkdaaNq
set_option linter.unusedVariables false
set_option linter.unusedSimpArgs false
namespace Go.Proofs.Ytjibpdncginkdaa
open Go.RowKit

/-- A new ring of numbers. -/
theorem newI_st (own : Nat → Nat) (i k : Nat) (w : World) (h1 : 1 ≤ k) (h2 : k ≤ 2097152) (hn : Nf own w) : Calls Try.prog 16 #[.int .i64 k] w fun e w' => e = .returned (.tuple #[.pointer (some ⟨w.heap.size, 0, none⟩), .int .i64 0]) ∧ Lv SI own i w w' (.pointer (some ⟨w.heap.size, 0, none⟩)) (some (k, [])) := by
  refine (newI k w h1 h2).mono ?_
  rintro e w' ⟨rfl, rfl⟩
  refine ⟨rfl, fun j => if j = w.heap.size then i else own j, ?_, Fr.label ((Below.refl _ w).alloc (Nat.le_refl _) _), w.heap.size, .slice none 0 0, [], 0, rfl, heap_alloc_new w _, if_pos rfl, h1, h2, by simp, .inl ⟨rfl, rfl, rfl⟩, by simp [Holds]⟩
  intro j hj
  rw [World.size_alloc] at hj
  exact (if_neg (by omega)).trans (hn j (by omega))
theorem newT_st (own : Nat → Nat) (i k : Nat) (w : World) (h1 : 1 ≤ k) (h2 : k ≤ 2097152) (hn : Nf own w) : Calls Try.prog 17 #[.int .i64 k] w fun e w' => e = .returned (.tuple #[.pointer (some ⟨w.heap.size, 0, none⟩), .int .i64 0]) ∧ Lv ST own i w w' (.pointer (some ⟨w.heap.size, 0, none⟩)) (some (k, [])) := by
  refine (newT k w h1 h2).mono ?_
  rintro e w' ⟨rfl, rfl⟩
  refine ⟨rfl, fun j => if j = w.heap.size then i else own j, ?_, Fr.label ((Below.refl _ w).alloc (Nat.le_refl _) _), w.heap.size, .slice none 0 0, [], 0, rfl, heap_alloc_new w _, if_pos rfl, h1, h2, by simp, .inl ⟨rfl, rfl, rfl⟩, by simp [Holds]⟩
  intro j hj
  rw [World.size_alloc] at hj
  exact (if_neg (by omega)).trans (hn j (by omega))
theorem newR_st (own : Nat → Nat) (i k : Nat) (w : World) (h1 : 1 ≤ k) (h2 : k ≤ 2097152) (hn : Nf own w) : Calls Try.prog 15 #[.int .i64 k] w fun e w' => e = .returned (.tuple #[.pointer (some ⟨w.heap.size, 0, none⟩), .int .i64 0]) ∧ Lv SR own i w w' (.pointer (some ⟨w.heap.size, 0, none⟩)) (some (k, [])) := by
  refine (newR k w h1 h2).mono ?_
  rintro e w' ⟨rfl, rfl⟩
  refine ⟨rfl, fun j => if j = w.heap.size then i else own j, ?_, Fr.label ((Below.refl _ w).alloc (Nat.le_refl _) _), w.heap.size, .slice none 0 0, rfl, heap_alloc_new w _, if_pos rfl, h1, h2, by simp, .inl ⟨rfl, rfl⟩⟩
  intro j hj
  rw [World.size_alloc] at hj
  exact (if_neg (by omega)).trans (hn j (by omega))

set_option maxRecDepth 100000 in
set_option maxHeartbeats 1000000 in
theorem awake_any (w : World) : Calls Try.prog 14 #[] w fun e w' => e = .returned (.bool true) ∧ Below w.heap.size w w' := by
  have hn0 : Nf (fun _ => 0) w := fun _ _ => rfl
  go_enter Try.func14, Try.ntmps14
  go_wp2_with fail
  refine (newI_st (fun _ => 0) 1 2 w (by omega) (by omega) hn0).mono ?_
  rintro e w1 ⟨rfl, o1, n1, f1, s1⟩
  generalize hpv : w.heap.size = N at *
  have HN : Hid (w.heap.size = N) := hpv
  clear hpv hn0
  go_wp2_with fail
  refine (pushI_st 5 s1 n1).mono ?_
  rintro e w2 ⟨rfl, o2, n2, f2, s2⟩
  rw [show pushE (some (2, [])) = 0 from rfl]
  replace f2 := f1.trans f2
  clear n1 f1 s1
  go_wp2_with fail
  refine (pushI_st 6 s2 n2).mono ?_
  rintro e w3 ⟨rfl, o3, n3, f3, s3⟩
  rw [show pushE (pushS 5 (some (2, []))) = 0 from rfl]
  replace f3 := f2.trans f3
  clear n2 f2 s2
  go_wp2_with fail
  refine (pushI_st 7 s3 n3).mono ?_
  rintro e w4 ⟨rfl, o4, n4, f4, s4⟩
  rw [show pushE (pushS 6 (pushS 5 (some (2, [])))) = 50 from rfl]
  replace f4 := f3.trans f4
  replace s4 : SI o4 1 w4 (.pointer (some ⟨N, 0, none⟩)) (some (2, [5, 6])) := s4
  clear n3 f3 s3
  go_wp2_with fail
  refine (popFI_st s4 n4).mono ?_
  rintro e w5 ⟨rfl, o5, n5, f5, s5⟩
  rw [show popFV (some (2, [5, 6])) = 5 from rfl, show popE (some (2, [5, 6])) = 0 from rfl]
  replace f5 := f4.trans f5
  replace s5 : SI o5 1 w5 (.pointer (some ⟨N, 0, none⟩)) (some (2, [6])) := s5
  clear n4 f4 s4
  go_wp2_with fail
  refine (pushI_st 8 s5 n5).mono ?_
  rintro e w6 ⟨rfl, o6, n6, f6, s6⟩
  rw [show pushE (some (2, [6])) = 0 from rfl]
  replace f6 := f5.trans f6
  replace s6 : SI o6 1 w6 (.pointer (some ⟨N, 0, none⟩)) (some (2, [6, 8])) := s6
  clear n5 f5 s5
  go_wp2_with fail
  refine (atI_st 1 s6).mono ?_
  rintro e w7 ⟨rfl, hb7⟩
  rw [show atV 1 (some (2, [6, 8])) = 8 from rfl, show atE 1 (some (2, [6, 8])) = 0 from rfl]
  have s7 := s6.below hb7
  replace f6 := f6.then hb7
  clear s6 hb7
  go_wp2_with fail
  refine (lenI_st s7).mono ?_
  rintro e w8 ⟨rfl, rfl⟩
  rw [show lenV (some (2, [6, 8])) = 2 from rfl]
  go_wp2_with fail
  refine (roomI_st s7).mono ?_
  rintro e w9 ⟨rfl, rfl⟩
  rw [show roomV (some (2, [6, 8])) = 2 from rfl]
  go_wp2_with fail
  go_ret
  exact ⟨rfl, f6.below (Nat.le_refl _) (fun _ _ => rfl) (by omega)⟩
end Go.Proofs.Ytjibpdncginkdaa
