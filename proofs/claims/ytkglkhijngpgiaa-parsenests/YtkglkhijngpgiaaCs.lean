import Derived.Test.YtkglkhijngpgiaaCr
set_option linter.unusedVariables false
set_option linter.unusedSimpArgs false
namespace Go.Proofs.Ytkglkhijngpgiaa
open Go.RowKit

/-! Put, Close, Depth, New. -/
theorem note_any {g : Nat} {D : Nat → Prop} {W : World} {n : Int} {K : List It} {E : List Ev} {vs vt : Value} (h : Ps g D W n K E vs vt) (t : Tv) (h7 : (t.k == 7 || t.k == 8) = true) (hE : E.length ≤ 1000000000) :
    Calls Try.prog 17 #[pt g, t.v] W fun e w' => e = .returned (.int .i64 0) ∧ Gone g D vs vt W w' n K (E ++ [⟨4, 0, t⟩]) := by
  have hb : Below W.heap.size W (W.alloc (.cells #[.int .u8 t.k, .string t.t, .int .i64 t.a, .int .i64 t.l, .int .i64 t.c, .int .i64 t.f] 35)) := below_new _ _
  have HT : Hid (Calls Try.prog 24 #[pt g, .agg #[.int .u8 4, .int .u8 0, .int .u8 t.k, .string t.t, .int .i64 t.a, .int .i64 t.l, .int .i64 t.c, .int .i64 t.f]] (W.alloc (.cells #[.int .u8 t.k, .string t.t, .int .i64 t.a, .int .i64 t.l, .int .i64 t.c, .int .i64 t.f] 35)) fun e w' => e = .returned (.tuple #[]) ∧ Gone g D vs vt W w' n K (E ++ [⟨4, 0, t⟩])) := tell_gone (h.quiet hb) ⟨4, 0, t⟩ hE
  clear h hb hE
  dsimp only [Tv.v]
  by_cases h1 : (t.k == 7) = true
  · clear h7
    go_enter Try.func17, Try.ntmps17
    go_wp2_with fail
    refine wp_scope_jumps 0 (fun _ _ => False) (fun _ _ => 0) rfl ?_ (fun _ _ h => h.elim)
    go_wp2_with (go_at_call 24; refine HT.out.mono ?_; rintro e w3 ⟨rfl, hG3⟩; have HG3 : Hid (Gone g D vs vt W w3 n K (E ++ [⟨4, 0, t⟩])) := hG3; clear hG3)
    simp only [Exit.jump]
    go_ret
    exact ⟨rfl, HG3.out⟩
  · have h2 : (t.k == 7) = false := by simpa using h1
    have h3 : (t.k == 8) = true := by rw [h2] at h7; simpa using h7
    clear h7 h1
    go_enter Try.func17, Try.ntmps17
    go_wp2_with fail
    refine wp_scope_jumps 0 (fun _ _ => False) (fun _ _ => 0) rfl ?_ (fun _ _ h => h.elim)
    go_wp2_with (go_at_call 24; refine HT.out.mono ?_; rintro e w3 ⟨rfl, hG3⟩; have HG3 : Hid (Gone g D vs vt W w3 n K (E ++ [⟨4, 0, t⟩])) := hG3; clear hG3)
    simp only [Exit.jump]
    go_ret
    exact ⟨rfl, HG3.out⟩

theorem refusal_any {W : World} {g : Nat} {c : Bool} {e n : Int} {vs vt : Value} (h : PB W g c e n vs vt) : Calls Try.prog 15 #[pt g] W fun r w' => r = .returned (.int .i64 (if c then 4 else e)) ∧ w' = W := by
  obtain ⟨c0, c1, c2, c3, c4⟩ := h.cells
  clear h
  cases c
  · go_enter Try.func15, Try.ntmps15
    go_wp2_with fail
    go_ret
    exact ⟨rfl, rfl⟩
  · go_enter Try.func15, Try.ntmps15
    go_wp2_with fail
    go_ret
    exact ⟨rfl, rfl⟩
theorem refusal_nil (W : World) : Calls Try.prog 15 #[.pointer none] W fun r w' => r = .returned (.int .i64 3) ∧ w' = W := by
  go_enter Try.func15, Try.ntmps15
  go_wp2_with fail
  go_ret
  exact ⟨rfl, rfl⟩
theorem depth_any {W : World} {g : Nat} {c : Bool} {e n : Int} {vs vt : Value} (h : PB W g c e n vs vt) : Calls Try.prog 13 #[pt g] W fun r w' => r = .returned (.int .i64 n) ∧ w' = W := by
  obtain ⟨c0, c1, c2, c3, c4⟩ := h.cells
  clear h
  go_enter Try.func13, Try.ntmps13
  go_wp2_with fail
  go_ret
  exact ⟨rfl, rfl⟩
theorem depth_nil (W : World) : Calls Try.prog 13 #[.pointer none] W fun r w' => r = .returned (.int .i64 0) ∧ w' = W := by
  go_enter Try.func13, Try.ntmps13
  go_wp2_with fail
  go_ret
  exact ⟨rfl, rfl⟩
abbrev nilS : Value := .slice none 0 0
theorem new_any (W : World) : Calls Try.prog 8 #[] W fun r w' => r = .returned (pt W.heap.size) ∧ w' = W.alloc (.cells #[.bool false, .int .i64 0, .int .i64 0, nilS, nilS] 49) := by
  go_enter Try.func8, Try.ntmps8
  go_wp2_with fail
  go_ret
  exact ⟨rfl, rfl⟩
theorem shut_any {W : World} {g : Nat} {c : Bool} {e n : Int} {vs vt : Value} (h : PB W g c e n vs vt) : Calls Try.prog 18 #[pt g] W fun r w' => r = .returned (.tuple #[]) ∧ PB w' g true 0 0 nilS nilS ∧ Kp (fun k => k = g) W w' := by
  obtain ⟨c0, c1, c2, c3, c4⟩ := h.cells
  have f0 := h.frozen 0
  have f1 := h.frozen 1
  have f2 := h.frozen 2
  have f3 := h.frozen 3
  have f4 := h.frozen 4
  have HP : Hid (PB W g c e n vs vt) := h
  have HX : Hid (PB (((((W.setCell ⟨g, 0, none⟩ (.bool true)).setCell ⟨g, 1, none⟩ (.int .i64 0)).setCell ⟨g, 2, none⟩ (.int .i64 0)).setCell ⟨g, 3, none⟩ nilS).setCell ⟨g, 4, none⟩ nilS) g true 0 0 nilS nilS ∧ Kp (fun k => k = g) W (((((W.setCell ⟨g, 0, none⟩ (.bool true)).setCell ⟨g, 1, none⟩ (.int .i64 0)).setCell ⟨g, 2, none⟩ (.int .i64 0)).setCell ⟨g, 3, none⟩ nilS).setCell ⟨g, 4, none⟩ nilS)) :=
    ⟨blk_set (blk_set (blk_set (blk_set (blk_set h 0 _) 1 _) 2 _) 3 _) 4 _, (((((Kp.set W g 0 _).trans (Kp.set _ g 1 _)).trans (Kp.set _ g 2 _)).trans (Kp.set _ g 3 _)).trans (Kp.set _ g 4 _))⟩
  clear h
  go_enter Try.func18, Try.ntmps18
  go_wp2_with fail
  go_end0
  exact ⟨rfl, HX.out⟩
theorem shut_nil (W : World) : Calls Try.prog 18 #[.pointer none] W fun r w' => r = .returned (.tuple #[]) ∧ w' = W := by
  go_enter Try.func18, Try.ntmps18
  go_wp2_with fail
  go_end0
  exact ⟨rfl, rfl⟩

end Go.Proofs.Ytkglkhijngpgiaa
