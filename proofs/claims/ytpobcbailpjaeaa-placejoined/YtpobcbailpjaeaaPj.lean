import Derived.Test.YtpobcbailpjaeaaPi
import Derived.Test.YtpobcbailpjaeaaWd
set_option linter.unusedVariables false
set_option linter.unusedSimpArgs false
namespace Go.Proofs.Ytpobcbailpjaeaa
open Go.RowKit Go.Shelf

theorem keep3 {w W w1 : World} {x : Nat} {a1 a2 a3 : Value}
    (h : W.cell? ⟨x, 0, none⟩ = some a1 ∧ W.cell? ⟨x, 1, none⟩ = some a2 ∧ W.cell? ⟨x, 2, none⟩ = some a3 ∧ Below w.heap.size w W)
    (hb : Below W.heap.size W w1) :
    w1.cell? ⟨x, 0, none⟩ = some a1 ∧ w1.cell? ⟨x, 1, none⟩ = some a2 ∧ w1.cell? ⟨x, 2, none⟩ = some a3 ∧ Below w.heap.size w w1 := by
  obtain ⟨h1, h2, h3, h4⟩ := h
  exact ⟨cell_up h1 hb, cell_up h2 hb, cell_up h3 hb, h4.trans (hb.mono h4.size)⟩

theorem wrap_range (x : Int) : -9223372036854775808 ≤ wrap64 x ∧ wrap64 x ≤ 9223372036854775807 := by unfold wrap64; omega

set_option maxRecDepth 100000 in
set_option maxHeartbeats 2000000 in
theorem joined_core (pa pl pc : Int) (a b : ByteArray) (n : Nat) (w : World) (ha : a.size ≤ 268435455) (hb : b.size ≤ 268435455) (hn : n ≤ a.size)
    (k0 : ∀ w, Calls Try.prog 14 #[.string a] w fun x w' => x = .returned (.int .i64 n) ∧ Below w.heap.size w w')
    (hl : -9223372036854775808 ≤ pl ∧ pl ≤ 9223372036854775807)
    (e1 : (aAt (aAt pa (a.extract 0 n)) (a.extract n a.size ++ b) == aAt pa (a ++ b)) = true)
    (e2 : (aLine (aLine pl (a.extract 0 n)) (a.extract n a.size ++ b) == aLine pl (a ++ b)) = true)
    (e3 : (aCol (aCol pc (a.extract 0 n)) (a.extract n a.size ++ b) == aCol pc (a ++ b)) = true)
    (e4 : (aAt pa ⟨#[]⟩ == pa) = true) (e5 : (aLine pl ⟨#[]⟩ == pl) = true) (e6 : (aCol pc ⟨#[]⟩ == pc) = true) :
    Calls Try.prog 4 #[.agg #[.int .i64 pa, .int .i64 pl, .int .i64 pc], .string a, .string b] w fun x w' => x = .returned (.bool true) ∧ Below w.heap.size w w' := by
  have K0 : Hid _ := k0
  clear k0
  have z1 : (a.extract 0 n).size = n := by rw [size_ext _ _ _ hn]; omega
  have z2 : (a.extract n a.size).size = a.size - n := size_ext _ _ _ (Nat.le_refl _)
  have s1 : (a.extract 0 n).size ≤ 2147483647 := by omega
  have s2 : (a.extract n a.size ++ b).size ≤ 2147483647 := by rw [size_app]; omega
  have s3 : (a ++ b).size ≤ 2147483647 := by rw [size_app]; omega
  have s4 : (⟨#[]⟩ : ByteArray).size ≤ 2147483647 := by decide
  have l2 : -9223372036854775808 ≤ aLine pl (a.extract 0 n) ∧ aLine pl (a.extract 0 n) ≤ 9223372036854775807 := wrap_range _
  have h1 : ¬ ((268435455 : Int) < (a.size : Int)) := by omega
  have h2 : ¬ ((268435455 : Int) < (b.size : Int)) := by omega
  have h3 : ¬ ((n : Int) < 0) := by omega
  have h4 : ¬ ((a.size : Int) < (n : Int)) := by omega
  have h5 : ¬ (9223372036854775807 < a.size - n + b.size) := by omega
  have h6 : ¬ (9223372036854775807 < a.size + b.size) := by omega
  have b0 := Box3.new w pa pl pc
  have h0 : Below w.heap.size w (w.alloc (.cells #[.int .i64 pa, .int .i64 pl, .int .i64 pc] 23)) := (Below.refl _ _).alloc (Nat.le_refl _) _
  clear z1 z2
  go_enter Try.func4, Try.ntmps4
  go_wp2_with fail
  refine (K0.out _).mono ?_
  rintro x w1 ⟨rfl, hb1⟩
  have b1 := b0.below hb1
  have h1' := h0.trans (hb1.mono h0.size)
  have HS : Hid (w1.cell? ⟨w.heap.size, 0, none⟩ = some (.int .i64 pa) ∧ w1.cell? ⟨w.heap.size, 1, none⟩ = some (.int .i64 pl) ∧ w1.cell? ⟨w.heap.size, 2, none⟩ = some (.int .i64 pc) ∧ Below w.heap.size w w1.drew) := ⟨b1.cell0, b1.cell1, b1.cell2, h1'.drew⟩
  clear b0 hb1 h0 b1 h1'
  go_wp2_with fail
  go_region_held3 (fun w' => w'.cell? ⟨w.heap.size, 0, none⟩ = some (.int .i64 pa) ∧ w'.cell? ⟨w.heap.size, 1, none⟩ = some (.int .i64 pl) ∧ w'.cell? ⟨w.heap.size, 2, none⟩ = some (.int .i64 pc) ∧ Below w.heap.size w w')
    (first | (exact keep3 (by assumption) (by assumption)) | (exact HS.out) | go_keep)
    (first | (go_at_call 11; refine (adv_lit _ _ _ _ _ (by assumption) (by assumption)).mono ?_; rintro e w5 ⟨rfl, hb5⟩) | (go_at_call 13; refine (awake_any _).mono ?_; rintro e w5 ⟨rfl, hb5⟩))
  all_goals
    rename_i hheld
    have hfin := hheld.2.2.2
    go_wp2_with fail
    go_ret
    exact ⟨rfl, hfin⟩

set_option maxHeartbeats 1000000 in
theorem joined_big (pa pl pc : Int) (a b : ByteArray) (w : World) (ha : a.size ≤ maxLen) (hb : b.size ≤ maxLen) (hbig : 268435455 < a.size ∨ 268435455 < b.size) :
    Calls Try.prog 4 #[.agg #[.int .i64 pa, .int .i64 pl, .int .i64 pc], .string a, .string b] w fun x w' => x = .returned (.bool true) ∧ Below w.heap.size w w' := by
  unfold maxLen at ha hb
  by_cases h : 268435455 < a.size
  · have h1 : ((268435455 : Int) < (a.size : Int)) := by omega
    go_enter Try.func4, Try.ntmps4
    go_wp2_with fail
    go_ret
    exact ⟨rfl, (Below.refl _ _).alloc (Nat.le_refl _) _⟩
  · have h1 : ¬ ((268435455 : Int) < (a.size : Int)) := by omega
    have h2 : ((268435455 : Int) < (b.size : Int)) := by omega
    go_enter Try.func4, Try.ntmps4
    go_wp2_with fail
    go_ret
    exact ⟨rfl, (Below.refl _ _).alloc (Nat.le_refl _) _⟩

theorem empty_ext : (⟨#[]⟩ : ByteArray).extract 0 0 = ⟨#[]⟩ := by decide

theorem joined_any (pa pl pc : Int) (a b : ByteArray) (w : World) (ha : a.size ≤ maxLen) (hb : b.size ≤ maxLen) (ga : -9223372036854775808 ≤ pa ∧ pa ≤ 9223372036854775807) (gl : -9223372036854775808 ≤ pl ∧ pl ≤ 9223372036854775807) (gc : -9223372036854775808 ≤ pc ∧ pc ≤ 9223372036854775807) :
    Calls Try.prog 4 #[.agg #[.int .i64 pa, .int .i64 pl, .int .i64 pc], .string a, .string b] w fun x w' => x = .returned (.bool true) ∧ Below w.heap.size w w' := by
  by_cases h : 268435455 < a.size ∨ 268435455 < b.size
  · exact joined_big pa pl pc a b w ha hb h
  · have hw := (wh_bd a).1
    have e1 := ext_app_head a b (wh a) hw
    have e2 := ext_app_tail a b (wh a) hw
    have hbd := bd_wh a b
    refine joined_core pa pl pc a b (wh a) w (by omega) (by omega) hw (fun w => whole_any a w (by omega)) gl ?_ ?_ ?_ ?_ ?_ ?_
    · rw [e1, e2, at_join _ _ (bd_le hbd)]; simp
    · rw [e1, e2, line_join _ _ (bd_le hbd)]; simp
    · rw [e1, e2, col_join _ _ hbd]; simp
    · have : aAt pa ⟨#[]⟩ = pa := by
        show wrap64 (pa + ((0 : Nat) : Int)) = pa
        rw [wrap_ok _ (by simp; exact ga)]; simp
      rw [this]; simp
    · have : aLine pl ⟨#[]⟩ = pl := by
        show wrap64 (pl + ((0 : Nat) : Int)) = pl
        rw [wrap_ok _ (by simp; exact gl)]; simp
      rw [this]; simp
    · have : aCol pc ⟨#[]⟩ = pc := by
        show wrap64 (pc + (((P ((⟨#[]⟩ : ByteArray).extract 0 0)).length : Nat) : Int)) = pc
        rw [empty_ext]
        show wrap64 (pc + ((0 : Nat) : Int)) = pc
        rw [wrap_ok _ (by simp; exact gc)]; simp
      rw [this]; simp

end Go.Proofs.Ytpobcbailpjaeaa
