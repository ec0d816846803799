import Derived.RangeFuncBox
import Derived.Test.YtojjfbnpjhjidaaGreatDoorM10
set_option linter.unusedVariables false
set_option linter.unusedSimpArgs false
namespace Go.Proofs.YtojjfbnpjhjidaaGreatDoor.Lx
open Go.ChangeShapes Go.WideShapes Go.ChangeAt Go.RowKit
def enV (r : Nat × Nat) : Value := .agg #[.int .i64 r.1, .int .i64 r.2]
theorem enV_eq {r : Nat × Nat} {p e : Nat} (h : r = (p, e)) : Ending.returned (.agg #[.int .i64 (p : Int), .int .i64 (e : Int)]) = .returned (enV r) := by rw [h]; rfl
def Box2 (W : World) (B : Nat) (a e : Int) : Prop := W.heap[B]? = some (.cells #[.int .i64 a, .int .i64 e] 92 (0, 0))
theorem Box2.lt {W : World} {B : Nat} {a e : Int} (h : Box2 W B a e) : B < W.heap.size := (Array.getElem?_eq_some_iff.1 h).1
theorem Box2.cell0 {W : World} {B : Nat} {a e : Int} (h : Box2 W B a e) : W.cell? ⟨B, 0, none⟩ = some (.int .i64 a) := by simp [World.cell?, show W.heap[B]? = _ from h]
theorem Box2.cell1 {W : World} {B : Nat} {a e : Int} (h : Box2 W B a e) : W.cell? ⟨B, 1, none⟩ = some (.int .i64 e) := by simp [World.cell?, show W.heap[B]? = _ from h]
theorem Box2.frozen {W : World} {B : Nat} {a e : Int} (h : Box2 W B a e) (k : Nat) : W.frozen? ⟨B, k, none⟩ = false := by simp [World.frozen?, show W.heap[B]? = _ from h]
theorem Box2.new (W : World) (a e : Int) : Box2 (W.alloc (.cells #[.int .i64 a, .int .i64 e] 92)) W.heap.size a e := World.alloc_heap_new W _
theorem Box2.below {W W' : World} {B : Nat} {a e : Int} (h : Box2 W B a e) (hb : Below W.heap.size W W') : Box2 W' B a e := (hb.block B h.lt).trans h
theorem Box2.drew {W : World} {B : Nat} {a e : Int} (h : Box2 W B a e) : Box2 W.drew B a e := h
theorem Box2.set0 {W : World} {B : Nat} {a e : Int} (h : Box2 W B a e) (v : Int) : Box2 (W.setCell ⟨B, 0, none⟩ (.int .i64 v)) B v e := by
  obtain ⟨hlt, hk⟩ := Array.getElem?_eq_some_iff.1 h
  show (W.heap.modify B _)[B]? = _
  rw [Array.getElem?_eq_getElem (by rw [Array.size_modify]; exact hlt), Array.getElem_modify_self, hk]
  rfl
theorem Box2.set1 {W : World} {B : Nat} {a e : Int} (h : Box2 W B a e) (v : Int) : Box2 (W.setCell ⟨B, 1, none⟩ (.int .i64 v)) B a v := by
  obtain ⟨hlt, hk⟩ := Array.getElem?_eq_some_iff.1 h
  show (W.heap.modify B _)[B]? = _
  rw [Array.getElem?_eq_getElem (by rw [Array.size_modify]; exact hlt), Array.getElem_modify_self, hk]
  rfl
theorem rblank_any (c : Nat) (w : World) (hc : c < 256) :
    Calls Tryz.prog 34 #[.int .u8 c] w fun e w' => e = .returned (.bool (tkBl c)) ∧ w' = w := by
  have h1 : ((c : Int) == 32) = (c == 32) := by rw [Bool.eq_iff_iff]; simp; omega
  have h2 : ((c : Int) == 9) = (c == 9) := by rw [Bool.eq_iff_iff]; simp; omega
  have h3 : ((c : Int) == 13) = (c == 13) := by rw [Bool.eq_iff_iff]; simp; omega
  have HB : Hid (tkBl c = (((c == 32) || (c == 9)) || (c == 13))) := rfl
  go_enter Tryz.func34, Tryz.ntmps34
  generalize (c == 32) = x at *
  generalize (c == 9) = y at *
  generalize (c == 13) = z at *
  cases x <;> cases y <;> cases z <;>
  · go_wp2_with fail
    go_ret
    exact ⟨kret_b HB.out.symm, rfl⟩
theorem rdigit_any (c : Nat) (w : World) (hc : c < 256) :
    Calls Tryz.prog 49 #[.int .u8 c] w fun e w' => e = .returned (.bool (tkDg c)) ∧ w' = w := by
  have h1 : decide ((c : Int) ≥ 48) = decide (48 ≤ c) := by rw [Bool.eq_iff_iff]; simp; omega
  have h2 : decide ((c : Int) ≤ 57) = decide (c ≤ 57) := by rw [Bool.eq_iff_iff]; simp; omega
  have HB : Hid (tkDg c = (decide (48 ≤ c) && decide (c ≤ 57))) := rfl
  go_enter Tryz.func49, Tryz.ntmps49
  generalize decide (48 ≤ c) = x at *
  generalize decide (c ≤ 57) = y at *
  cases x <;> cases y <;>
  · go_wp2_with fail
    go_ret
    exact ⟨kret_b HB.out.symm, rfl⟩
theorem gCom_cases (s : ByteArray) (f : Nat) (b : Bool) (a m : Nat) (ha : a < s.size) :
    (b = false ∧ by8 s a = 10 ∧ gCom s f b a m = .out a 0) ∨
    ((b = false → by8 s a ≠ 10) ∧ 65535 < a + 1 - f ∧ gCom s f b a m = .out f 103) ∨
    ((b = false → by8 s a ≠ 10) ∧ a + 1 - f ≤ 65535 ∧ b = true ∧ by8 s a = 125 ∧ gCom s f b a m = .out (a + 1) 0) ∨
    ((b = false → by8 s a ≠ 10) ∧ a + 1 - f ≤ 65535 ∧ (b = true → by8 s a ≠ 125) ∧ gCom s f b a m = .on 1) := by
  unfold gCom
  rw [if_neg (by omega)]
  by_cases h1 : b = false ∧ by8 s a = 10
  · rw [if_pos h1]; exact .inl ⟨h1.1, h1.2, rfl⟩
  · rw [if_neg h1]
    have h1' : b = false → by8 s a ≠ 10 := fun h h2 => h1 ⟨h, h2⟩
    by_cases h2 : 65535 < a + 1 - f
    · rw [if_pos h2]; exact .inr (.inl ⟨h1', h2, rfl⟩)
    · rw [if_neg h2]
      by_cases h3 : b = true ∧ by8 s a = 125
      · rw [if_pos h3]; exact .inr (.inr (.inl ⟨h1', by omega, h3.1, h3.2, rfl⟩))
      · rw [if_neg h3]; exact .inr (.inr (.inr ⟨h1', by omega, fun h h4 => h3 ⟨h, h4⟩, rfl⟩))
theorem rcomment_any (s : ByteArray) (f : Nat) (b : Bool) (w : World) (hs : s.size ≤ 2147483647) (hf : f ≤ s.size) :
    Calls Tryz.prog 51 #[.string s, .int .i64 f, .bool b] w fun e w' => e = .returned (enV (run (gCom s f b) s.size f 0)) ∧ Below w.heap.size w w' := by
  obtain ⟨R, hR⟩ : ∃ R, R = run (gCom s f b) s.size f 0 := ⟨_, rfl⟩
  rw [← hR]
  have HR : Hid (R = run (gCom s f b) s.size f 0) := hR
  clear hR
  go_enter Tryz.func51, Tryz.ntmps51
  go_wp2_with fail
  have k0 := Box2.new w 0 0
  have hB : Below w.heap.size w (w.alloc (.cells #[.int .i64 0, .int .i64 0] 92)) := (Below.refl _ w).alloc (Nat.le_refl _) _
  generalize w.alloc (.cells #[.int .i64 0, .int .i64 0] 92) = w1 at *
  go_loopw [7] (fun i wr => wr = w1 ∧ ∃ a m : Nat, i = .int .i64 a ∧ f ≤ a ∧ a ≤ s.size ∧ Hid (R = run (gCom s f b) s.size a m)) (fun i _ => s.size - (intOf i).toNat)
  case atStart => exact ⟨rfl, f, 0, rfl, Nat.le_refl _, hf, HR⟩
  case round =>
    obtain ⟨rfl, a, m, rfl, hfa, ha, HI⟩ := hrel
    clear HR
    have c0 := k0.cell0
    have c1 := k0.cell1
    have z0 := k0.frozen 0
    have z1 := k0.frozen 1
    by_cases h1 : a < s.size
    · have hb := by8_get s a h1
      rcases gCom_cases s f b a m h1 with ⟨rfl, h2, h3⟩ | ⟨h2, h3, h4⟩ | ⟨h2, h3, rfl, h4, h5⟩ | ⟨h2, h3, h4, h5⟩
      · have e1 : (((s[a]'h1).toNat : Int) == 10) = true := by rw [hb, h2]; rfl
        have HE : Hid (R = (a, 0)) := by show R = _; rw [HI.out]; exact run_out ha h3
        clear HI hb h2 h3
        go_wp2_with fail
        have k2 := (k0.set0 (a : Int)).set1 0
        have m0 := k2.cell0
        have m1 := k2.cell1
        refine bodyPost_ret (v := .agg #[.int .i64 (a : Int), .int .i64 0]) (by simp [results, Tryz.f51, go_sem, m0, m1]) rfl ?_
        exact ⟨enV_eq HE.out, (hB.setCell (p := ⟨w.heap.size, 0, none⟩) (Nat.le_refl _) _).setCell (p := ⟨w.heap.size, 1, none⟩) (Nat.le_refl _) _⟩
      · have HE : Hid (R = (f, 103)) := by show R = _; rw [HI.out]; exact run_out ha h4
        have e2 : decide ((a : Int) + 1 - (f : Int) > 65535) = true := by simp; omega
        cases b
        · have e1 : (((s[a]'h1).toNat : Int) == 10) = false := by rw [hb]; have := h2 rfl; simp; omega
          clear HI hb h2 h3 h4
          go_wp2_with fail
          have k2 := (k0.set0 (f : Int)).set1 103
          have m0 := k2.cell0
          have m1 := k2.cell1
          refine bodyPost_ret (v := .agg #[.int .i64 (f : Int), .int .i64 103]) (by simp [results, Tryz.f51, go_sem, m0, m1]) rfl ?_
          exact ⟨enV_eq HE.out, (hB.setCell (p := ⟨w.heap.size, 0, none⟩) (Nat.le_refl _) _).setCell (p := ⟨w.heap.size, 1, none⟩) (Nat.le_refl _) _⟩
        · clear HI hb h2 h3 h4
          go_wp2_with fail
          have k2 := (k0.set0 (f : Int)).set1 103
          have m0 := k2.cell0
          have m1 := k2.cell1
          refine bodyPost_ret (v := .agg #[.int .i64 (f : Int), .int .i64 103]) (by simp [results, Tryz.f51, go_sem, m0, m1]) rfl ?_
          exact ⟨enV_eq HE.out, (hB.setCell (p := ⟨w.heap.size, 0, none⟩) (Nat.le_refl _) _).setCell (p := ⟨w.heap.size, 1, none⟩) (Nat.le_refl _) _⟩
      · have HE : Hid (R = (a + 1, 0)) := by show R = _; rw [HI.out]; exact run_out ha h5
        have e2 : decide ((a : Int) + 1 - (f : Int) > 65535) = false := by simp; omega
        have e1 : (((s[a]'h1).toNat : Int) == 125) = true := by rw [hb, h4]; rfl
        clear HI hb h2 h3 h4 h5
        go_wp2_with fail
        have k2 := (k0.set0 ((a : Int) + 1)).set1 0
        have m0 := k2.cell0
        have m1 := k2.cell1
        refine bodyPost_ret (v := .agg #[.int .i64 ((a : Int) + 1), .int .i64 0]) (by simp [results, Tryz.f51, go_sem, m0, m1]) rfl ?_
        exact ⟨enV_eq HE.out, (hB.setCell (p := ⟨w.heap.size, 0, none⟩) (Nat.le_refl _) _).setCell (p := ⟨w.heap.size, 1, none⟩) (Nat.le_refl _) _⟩
      · have HE : Hid (R = run (gCom s f b) s.size (a + 1) (m + 1)) := by show R = _; rw [HI.out]; exact run_on (gCom_on s f b) ha h5
        have e2 : decide ((a : Int) + 1 - (f : Int) > 65535) = false := by simp; omega
        cases b
        · have e1 : (((s[a]'h1).toNat : Int) == 10) = false := by rw [hb]; have := h2 rfl; simp; omega
          clear HI hb h2 h3 h4 h5
          go_wp2_with fail
          exact ⟨⟨trivial, a + 1, m + 1, by go_num, by omega, h1, HE⟩, by simp [intOf]; omega⟩
        · have e1 : (((s[a]'h1).toNat : Int) == 125) = false := by rw [hb]; have := h4 rfl; simp; omega
          clear HI hb h2 h3 h4 h5
          go_wp2_with fail
          exact ⟨⟨trivial, a + 1, m + 1, by go_num, by omega, h1, HE⟩, by simp [intOf]; omega⟩
    · cases b
      · have HE : Hid (R = (a, 0)) := by show R = _; rw [HI.out]; exact run_out ha (by unfold gCom; rw [if_pos (by omega), if_neg (by decide)])
        clear HI
        go_wp2_with fail
        have k2 := (k0.set0 (a : Int)).set1 0
        have m0 := k2.cell0
        have m1 := k2.cell1
        refine bodyPost_ret (v := .agg #[.int .i64 (a : Int), .int .i64 0]) (by simp [results, Tryz.f51, go_sem, m0, m1]) rfl ?_
        exact ⟨enV_eq HE.out, (hB.setCell (p := ⟨w.heap.size, 0, none⟩) (Nat.le_refl _) _).setCell (p := ⟨w.heap.size, 1, none⟩) (Nat.le_refl _) _⟩
      · have HE : Hid (R = (f, 101)) := by show R = _; rw [HI.out]; exact run_out ha (by unfold gCom; rw [if_pos (by omega), if_pos rfl])
        clear HI
        go_wp2_with fail
        have k2 := (k0.set0 (f : Int)).set1 101
        have m0 := k2.cell0
        have m1 := k2.cell1
        refine bodyPost_ret (v := .agg #[.int .i64 (f : Int), .int .i64 101]) (by simp [results, Tryz.f51, go_sem, m0, m1]) rfl ?_
        exact ⟨enV_eq HE.out, (hB.setCell (p := ⟨w.heap.size, 0, none⟩) (Nat.le_refl _) _).setCell (p := ⟨w.heap.size, 1, none⟩) (Nat.le_refl _) _⟩
end Go.Proofs.YtojjfbnpjhjidaaGreatDoor.Lx
