import Derived.Test.YtlpmnkiieibipaaDoorDi
set_option linter.unusedVariables false
set_option linter.unusedSimpArgs false
namespace Go.Proofs.YtlpmnkiieibipaaDoor
open Go.RowKit

theorem heap_new (w : World) (o : Obj) : (w.alloc o).heap[w.heap.size]? = some o := heap_alloc_new w o

def hexB : ByteArray := ⟨#[48, 49, 50, 51, 52, 53, 54, 55, 56, 57, 97, 98, 99, 100, 101, 102]⟩
theorem hexB_at (x : Nat) (h : x < 16) : (⟨#[48, 49, 50, 51, 52, 53, 54, 55, 56, 57, 97, 98, 99, 100, 101, 102]⟩ : ByteArray)[x]'h = hx x := by
  have : ∀ m : Fin 16, (⟨#[48, 49, 50, 51, 52, 53, 54, 55, 56, 57, 97, 98, 99, 100, 101, 102]⟩ : ByteArray)[m.val]'m.isLt = hx m.val := by decide +kernel
  exact this ⟨x, h⟩
theorem and15 : ∀ c : UInt8, bits BinOp.and IntKind.u8 (c.toNat : Int) 15 = ((c.toNat % 16 : Nat) : Int) := all8 (by decide +kernel)

set_option maxHeartbeats 2000000 in
set_option maxRecDepth 100000 in
theorem esc_any (B : Nat) (v : Value) (l : List UInt8) (t : ByteArray) (w : World) (hB : B ≤ w.heap.size) (hG : GlB B w) (hr : Br B w v l) (hl : l.length + 4 * t.size ≤ 1073741824) :
    Calls Tryd.prog 28 #[v, .string t] w fun e w' => ∃ v', e = .returned v' ∧ Br B w' v' (l ++ esc (ls t)) ∧ Bk B w w' := by
  have HH : Hid (Br B w v l ∧ GlB B w ∧ B ≤ w.heap.size) := ⟨hr, hG, hB⟩
  clear hr hG hB
  go_enter Tryd.func28, Tryd.ntmps28
  go_wp2_with fail
  go_loopw [0, 9] (fun b j wr => ∃ k : Nat, k ≤ t.size ∧ j = .int .i64 k ∧ Hid (Br B wr b (l ++ esc ((ls t).take k)) ∧ Bk B w wr)) (fun _ j _ => t.size - (intOf j).toNat)
  case atStart => exact ⟨0, by omega, rfl, by simpa [esc] using HH.out.1, Bk.refl _ _⟩
  case round =>
    obtain ⟨k, hk, rfl, HI⟩ := hrel
    obtain ⟨hb, hw⟩ := HI.out
    by_cases hlt : k < t.size
    · have q1 : (k : Int) < t.size := by omega
      have hG := (HH.out.2.1.on hw.bel)
      have hBr : B ≤ wr.heap.size := Nat.le_trans HH.out.2.2 hw.bel.size
      obtain ⟨c, hc⟩ : ∃ c, t[k] = c := ⟨_, rfl⟩
      have Hs : Hid (esc ((ls t).take (k + 1)) = esc ((ls t).take k) ++ esc1 c) := by
        show _ = _
        have hkl : k < (ls t).length := by rw [ls_len]; exact hlt
        have : (ls t)[k] = c := hc
        rw [List.take_succ_eq_append_getElem hkl, esc_app, this]
        simp [esc]
      have hlen : (l ++ esc ((ls t).take k)).length + 4 ≤ 1073741824 := by
        have h1 := (esc_len ((ls t).take k)).2
        rw [List.length_take, ls_len] at h1
        rw [List.length_append]
        omega
      obtain ⟨m, hm⟩ : ∃ m, m = l ++ esc ((ls t).take k) := ⟨_, rfl⟩
      rw [← hm] at hb hlen
      have HF : Hid (∀ W, Below B w W → Calls Tryd.prog 40 #[.int .u8 (c.toNat : Int)] W fun e w' => e = .returned (.int .u8 (fm c : Nat)) ∧ w' = W) := fun W hW => form_any c W (HH.out.2.1.on hW).here
      obtain ⟨p, cap, rfl, hc1, hc2⟩ := hb.shape
      have HW : Hid (Bk B w wr ∧ B ≤ wr.heap.size ∧ Br B wr (.slice p m.length cap) m) := ⟨hw, hBr, hb⟩
      have HM : Hid (m ++ esc1 c = l ++ esc ((ls t).take (k + 1))) := by show _ = _; rw [hm, Hs.out, List.append_assoc]
      clear HI hb hw hG hBr hm Hs
      rcases fm_cases c with hf | hf | hf
      · rw [esc1_one hf] at HM
        rw [hf] at HF
        have HR : Hid (Br B (wr.alloc (.cells #[.int .u8 (c.toNat : Int)] 5)) (.slice p m.length cap) m) := HW.out.2.2.below ((Below.refl _ _).alloc (Nat.le_refl _) _)
        have hB1 : B ≤ (wr.alloc (.cells #[.int .u8 (c.toNat : Int)] 5)).heap.size := by rw [World.size_alloc]; have := HW.out.2.1; omega
        go_wp2_with (first | (go_at_call 40; (try rw [hc]); refine (HF.out _ HW.out.1.bel).mono ?_; rintro e w1 ⟨rfl, hq⟩; have hq' := hq.symm; subst hq') | (at_builtin; refine app_bytes rfl _ _ rfl B (.slice p m.length cap) m [c] rfl HR.out wr.heap.size _ _ rfl rfl (heap_new _ _) (by simp only [List.length_cons, List.length_nil]; omega) hB1 ?_))
        intro v2 w2 hr2 hb2
        obtain ⟨p2, cap2, rfl, _, _⟩ := hr2.shape
        have HZ : Hid (Br B w2 (.slice p2 (m ++ [c]).length cap2) (l ++ esc ((ls t).take (k + 1))) ∧ Bk B w w2) := ⟨by rw [← HM.out]; exact hr2, (HW.out.1.alloc HH.out.2.2 _).trans hb2⟩
        clear hr2 hb2 HR HM HF hB1
        generalize (m ++ [c]).length = nn at *
        go_wp2_with fail
        exact ⟨⟨k + 1, hlt, by go_num, HZ⟩, by simp [intOf]; omega⟩
      · rw [esc1_two hf] at HM
        rw [hf] at HF
        have hc9 : c = 92 := fm_two hf
        subst hc9
        have HR : Hid (Br B (wr.alloc (.cells #[.int .u8 92, .int .u8 92] 5)) (.slice p m.length cap) m) := HW.out.2.2.below ((Below.refl _ _).alloc (Nat.le_refl _) _)
        have hB1 : B ≤ (wr.alloc (.cells #[.int .u8 92, .int .u8 92] 5)).heap.size := by rw [World.size_alloc]; have := HW.out.2.1; omega
        go_wp2_with (first | (go_at_call 40; (try rw [hc]); refine (HF.out _ HW.out.1.bel).mono ?_; rintro e w1 ⟨rfl, hq⟩; have hq' := hq.symm; subst hq') | (at_builtin; refine app_bytes rfl _ _ rfl B (.slice p m.length cap) m [92, 92] rfl HR.out wr.heap.size _ _ rfl rfl (heap_new _ _) (by simp only [List.length_cons, List.length_nil]; omega) hB1 ?_))
        intro v2 w2 hr2 hb2
        obtain ⟨p2, cap2, rfl, _, _⟩ := hr2.shape
        have HZ : Hid (Br B w2 (.slice p2 (m ++ [92, 92]).length cap2) (l ++ esc ((ls t).take (k + 1))) ∧ Bk B w w2) := ⟨by rw [← HM.out]; exact hr2, (HW.out.1.alloc HH.out.2.2 _).trans hb2⟩
        clear hr2 hb2 HR HM HF hB1
        generalize (m ++ [92, 92]).length = nn at *
        go_wp2_with fail
        exact ⟨⟨k + 1, hlt, by go_num, HZ⟩, by simp [intOf]; omega⟩
      · rw [esc1_four hf] at HM
        rw [hf] at HF
        have hcl := c.toNat_lt
        have h16 : bits BinOp.and IntKind.u8 (c.toNat : Int) 15 = ((c.toNat % 16 : Nat) : Int) := and15 c
        have hd16 : (c.toNat : Int) / 16 = ((c.toNat / 16 : Nat) : Int) := by omega
        obtain ⟨x, hx1⟩ : ∃ x, c.toNat / 16 = x := ⟨_, rfl⟩
        obtain ⟨y, hy1⟩ : ∃ y, c.toNat % 16 = y := ⟨_, rfl⟩
        have hx2 : x < 16 := by omega
        have hy2 : y < 16 := by omega
        rw [hx1] at hd16 HM
        rw [hy1] at h16 HM
        clear hx1 hy1
        have i1 : 0 ≤ (x : Int) ∧ (x : Int) < 16 := by omega
        have i2 : 0 ≤ (y : Int) ∧ (y : Int) < 16 := by omega
        go_wp2_with (first | (go_at_call 40; (try rw [hc]); refine (HF.out _ HW.out.1.bel).mono ?_; rintro e w1 ⟨rfl, hq⟩; have hq' := hq.symm; subst hq'))
        go_region_law (refine step_bytes rfl _ _ rfl B (.slice p m.length cap) m [92, 120, hx x, hx y] rfl (HW.out.2.2.below ((Below.refl _ _).drew.alloc (Nat.le_refl _) _)) wr.heap.size _ _ rfl rfl (by simp) (by rw [← hexB_at x hx2, ← hexB_at y hy2]; exact heap_alloc_new _ _) (by simp only [List.length_cons, List.length_nil]; omega) (by show B ≤ (World.alloc wr _).heap.size; rw [World.size_alloc]; exact Nat.le_succ_of_le HW.out.2.1) ?_; intro g2 cap2 w2 hr2 hb2; have HZ : Hid (Br B w2 (.slice (some ⟨g2, 0, none⟩) (m.length + 4) cap2) (l ++ esc ((ls t).take (k + 1))) ∧ Bk B w w2) := ⟨by rw [← HM.out]; exact hr2, (HW.out.1.alloc HH.out.2.2 _).drew.trans hb2⟩; clear hr2 hb2)
        all_goals
          go_wp2_with fail
          exact ⟨⟨k + 1, hlt, by go_num, HZ⟩, by simp [intOf]; omega⟩
    · obtain rfl : k = t.size := by omega
      have q1 : ¬ ((t.size : Int) < t.size) := by omega
      rw [List.take_of_length_le (by rw [ls_len]; omega)] at hb
      obtain ⟨p, cap, rfl, hc1, hc2⟩ := hb.shape
      generalize (l ++ esc (ls t)).length = nn at *
      have HZ : Hid (Br B wr (.slice p nn cap) (l ++ esc (ls t)) ∧ Bk B w wr) := ⟨hb, hw⟩
      clear HI hb hw
      go_wp2_with fail
      go_ret
      exact ⟨_, rfl, HZ.out⟩
end Go.Proofs.YtlpmnkiieibipaaDoor
