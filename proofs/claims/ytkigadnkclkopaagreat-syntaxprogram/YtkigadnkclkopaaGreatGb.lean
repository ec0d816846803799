import Derived.Test.YtkigadnkclkopaaGreatGa
import Derived.BigQuiet
set_option linter.unusedVariables false
set_option linter.unusedSimpArgs false
namespace Go.Proofs.YtkigadnkclkopaaGreat
open Go.RowKit

/-! The reader's small methods. -/
/-- A token is stored. -/
def sets6 (w : World) (b : Nat) (t : Tv) : World := ((((((w.setCell ⟨b, 0, none⟩ (.int .u8 t.k)).setCell ⟨b, 1, none⟩ (.string t.t)).setCell ⟨b, 2, none⟩ (.int .i64 t.a)).setCell ⟨b, 3, none⟩ (.int .i64 t.l)).setCell ⟨b, 4, none⟩ (.int .i64 t.c)).setCell ⟨b, 5, none⟩ (.int .i64 t.f))
abbrev TokB (t : Tv) : Obj := .cells #[.int .u8 t.k, .string t.t, .int .i64 t.a, .int .i64 t.l, .int .i64 t.c, .int .i64 t.f] 28
theorem sets6_at {w : World} {b : Nat} {t0 : Tv} (t : Tv) (h : w.heap[b]? = some (TokB t0)) : (sets6 w b t).heap[b]? = some (TokB t) := blk_set (blk_set (blk_set (blk_set (blk_set (blk_set h 0 _) 1 _) 2 _) 3 _) 4 _) 5 _
theorem sets6_below {B : Nat} {w0 w : World} {b : Nat} (t : Tv) (h : Below B w0 w) (hb : B ≤ b) : Below B w0 (sets6 w b t) := (((((h.setCell hb _).setCell hb _).setCell hb _).setCell hb _).setCell hb _).setCell hb _
theorem dn_at {W : World} {b : Nat} {o : Obj} (h : W.heap[b]? = some o) (m : Nat) : (W.drewN m).heap[b]? = some o := blk_below h (below_dr (Below.refl _ _) m)
theorem tk_cells {W : World} {b : Nat} {t : Tv} (h : W.heap[b]? = some (TokB t)) : W.cell? ⟨b, 0, none⟩ = some (.int .u8 t.k) ∧ W.cell? ⟨b, 1, none⟩ = some (.string t.t) ∧ W.cell? ⟨b, 2, none⟩ = some (.int .i64 t.a) ∧ W.cell? ⟨b, 3, none⟩ = some (.int .i64 t.l) ∧ W.cell? ⟨b, 4, none⟩ = some (.int .i64 t.c) ∧ W.cell? ⟨b, 5, none⟩ = some (.int .i64 t.f) :=
  ⟨blk_cell h rfl, blk_cell h rfl, blk_cell h rfl, blk_cell h rfl, blk_cell h rfl, blk_cell h rfl⟩
/-- The token that comes next. -/
def nx (X : Sx) (i : Nat) : Tv := X.l[i]?.getD tv0
set_option maxHeartbeats 1000000 in
theorem snext_any {X : Sx} {i n : Nat} {E : List Ev} {W : World} (h : SV X i n E W) (hi : i ≤ X.l.length) :
    Calls Tryz.prog 49 #[pg X.g] W fun e w' => e = .returned (nx X i).v ∧ Below W.heap.size W w' := by
  obtain ⟨ve, hs, hE, hv⟩ := h.ex
  obtain ⟨c0, c1, c2, c3⟩ := hs.cells
  have hgl := hs.lt
  have hl := h.hl
  by_cases hlt : i < X.l.length
  · obtain ⟨t, ht⟩ : ∃ t, X.l[i]? = some t := ⟨_, List.getElem?_eq_getElem hlt⟩
    obtain ⟨b, off, e0, x0, x1, x2, x3, x4, x5, xl⟩ := h.tok ht
    have hn : nx X i = t := by simp [nx, ht]
    rw [hn]
    rw [e0] at c0
    have q1 : ((i : Int) == (X.l.length : Int)) = false := by simp; omega
    have q2 : (0 : Int) ≤ i := by omega
    have q3 : (i : Int) < X.l.length := by omega
    have HX : Hid (∀ m, Below W.heap.size W (sets6 ((W.alloc (TokB tv0)).drewN m) W.heap.size t)) := fun m => sets6_below t (below_dr ((Below.refl _ _).alloc (Nat.le_refl _) _) m) (Nat.le_refl _)
    clear h hs hE hn ht e0
    dsimp only [Tv.v]
    go_enter Tryz.func49, Tryz.ntmps49
    go_wp2_with fail
    go_quiet (fail)
    go_wp2_with fail
    go_region
    all_goals (
      go_wp2_with fail
      refine bodyPost_ret (v := .agg #[.int .u8 t.k, .string t.t, .int .i64 t.a, .int .i64 t.l, .int .i64 t.c, .int .i64 t.f]) (by simp [results, Tryz.f49, go_sem]) rfl ?_
      exact ⟨rfl, HX.out _⟩)
  · obtain rfl : i = X.l.length := by omega
    have hn : nx X X.l.length = tv0 := by simp [nx]
    rw [hn]
    have q1 : ((X.l.length : Int) == (X.l.length : Int)) = true := by simp
    have HX : Hid (∀ m, Below W.heap.size W (sets6 ((W.alloc (TokB tv0)).drewN m) W.heap.size tv0)) := fun m => sets6_below tv0 (below_dr ((Below.refl _ _).alloc (Nat.le_refl _) _) m) (Nat.le_refl _)
    clear h hs hE hn
    dsimp only [Tv.v, tv0] at HX ⊢
    go_enter Tryz.func49, Tryz.ntmps49
    go_wp2_with fail
    go_quiet (fail)
    go_wp2_with fail
    refine bodyPost_ret (v := .agg #[.int .u8 0, .string ⟨#[]⟩, .int .i64 0, .int .i64 0, .int .i64 0, .int .i64 0]) (by simp [results, Tryz.f49, go_sem]) rfl ?_
    exact ⟨rfl, HX.out _⟩
/-- A token's text, if it is of a kind. -/
def kt (k : Int) (t : Tv) : ByteArray := if t.k == k then t.t else ⟨#[]⟩
set_option maxHeartbeats 1000000 in
theorem stext_any {X : Sx} {i n : Nat} {E : List Ev} {W : World} (h : SV X i n E W) (hi : i ≤ X.l.length) (k : Int) :
    Calls Tryz.prog 95 #[pg X.g, .int .u8 k] W fun e w' => e = .returned (.string (kt k (nx X i))) ∧ Below W.heap.size W w' := by
  have H : Hid (∀ V, Below W.heap.size W V → Calls Tryz.prog 49 #[pg X.g] V fun e w' => e = .returned (nx X i).v ∧ Below V.heap.size V w') := fun V hb => snext_any (h.below hb) hi
  clear h
  generalize nx X i = t at *
  have HB : Hid (∀ w1, Below W.heap.size W w1 → Below W.heap.size W (w1.alloc (TokB t))) := fun w1 hb => hb.alloc hb.size _
  by_cases hk : (t.k == k) = true
  · have hk2 : kt k t = t.t := by simp [kt, hk]
    rw [hk2]
    dsimp only [Tv.v] at H
    go_enter Tryz.func95, Tryz.ntmps95
    go_wp2_with (go_at_call 49; refine (H.out _ (Below.refl _ _)).mono ?_; rintro e w1 ⟨rfl, hb1⟩)
    go_ret
    exact ⟨rfl, HB.out _ hb1⟩
  · have hk' : (t.k == k) = false := by simpa using hk
    have hk2 : kt k t = ⟨#[]⟩ := by simp [kt, hk']
    rw [hk2]
    clear hk
    dsimp only [Tv.v] at H
    go_enter Tryz.func95, Tryz.ntmps95
    go_wp2_with (go_at_call 49; refine (H.out _ (Below.refl _ _)).mono ?_; rintro e w1 ⟨rfl, hb1⟩)
    go_ret
    exact ⟨rfl, HB.out _ hb1⟩
theorem skey_any {X : Sx} {i n : Nat} {E : List Ev} {W : World} (h : SV X i n E W) (hi : i ≤ X.l.length) :
    Calls Tryz.prog 70 #[pg X.g] W fun e w' => e = .returned (.string (kt 2 (nx X i))) ∧ Below W.heap.size W w' := by
  have H : Hid (Calls Tryz.prog 95 #[pg X.g, .int .u8 2] W fun e w' => e = .returned (.string (kt 2 (nx X i))) ∧ Below W.heap.size W w') := stext_any h hi 2
  clear h
  go_enter Tryz.func70, Tryz.ntmps70
  go_wp2_with (go_at_call 95; refine H.out.mono ?_; rintro e w1 ⟨rfl, hb1⟩)
  go_ret
  exact ⟨rfl, hb1⟩
theorem ssign_any {X : Sx} {i n : Nat} {E : List Ev} {W : World} (h : SV X i n E W) (hi : i ≤ X.l.length) :
    Calls Tryz.prog 71 #[pg X.g] W fun e w' => e = .returned (.string (kt 6 (nx X i))) ∧ Below W.heap.size W w' := by
  have H : Hid (Calls Tryz.prog 95 #[pg X.g, .int .u8 6] W fun e w' => e = .returned (.string (kt 6 (nx X i))) ∧ Below W.heap.size W w') := stext_any h hi 6
  clear h
  go_enter Tryz.func71, Tryz.ntmps71
  go_wp2_with (go_at_call 95; refine H.out.mono ?_; rintro e w1 ⟨rfl, hb1⟩)
  go_ret
  exact ⟨rfl, hb1⟩
/-- What a row gives up with. -/
abbrev stop (c : Int) (i : Nat) : List PanicEntry := [{ v := .iface 52 (.agg #[.int .i64 c, .int .i64 (i : Int)]), recovered := false }]
set_option maxHeartbeats 1000000 in
theorem refuse_any {X : Sx} {i n : Nat} {E : List Ev} {W : World} (h : SV X i n E W) :
    Calls Tryz.prog 38 #[pg X.g] W fun e w' => e = .panicked (stop (if i = X.l.length then 121 else 120) i) ∧ Below W.heap.size W w' := by
  obtain ⟨ve, hs, hE, hv⟩ := h.ex
  obtain ⟨c0, c1, c2, c3⟩ := hs.cells
  have hgl := hs.lt
  have hl := h.hl
  have HB : Hid (∀ m, Below W.heap.size W (W.drewN m)) := fun m => below_dr (Below.refl _ _) m
  by_cases hi : i = X.l.length
  · rw [if_pos hi]
    have q1 : ((i : Int) == (X.l.length : Int)) = true := by simp [hi]
    clear h hs hE hi
    go_enter Tryz.func38, Tryz.ntmps38
    go_wp2_with fail
    go_quiet (fail)
    go_wp2_with fail
    exact ⟨rfl, rfl, HB.out _⟩
  · rw [if_neg hi]
    have q1 : ((i : Int) == (X.l.length : Int)) = false := by simp; omega
    clear h hs hE hi
    go_enter Tryz.func38, Tryz.ntmps38
    go_wp2_with fail
    go_quiet (fail)
    go_wp2_with fail
    exact ⟨rfl, rfl, HB.out _⟩

end Go.Proofs.YtkigadnkclkopaaGreat
