import Derived.Test.YtlpmnkiieibipaaDoorDm
import Derived.Test.YtlpmnkiieibipaaDoorDq
set_option linter.unusedVariables false
set_option linter.unusedSimpArgs false
namespace Go.Proofs.YtlpmnkiieibipaaDoor
open Go.RowKit
open Go.Lib (itoa decDigits)

/-! The document's Ten. -/
def tenI (D : List UInt8) (m : Nat) (a : List UInt8) : Prop := (m = 0 ∧ a ≠ [] → a = D) ∧ (¬ (m = 0 ∧ a ≠ []) → decDigits m ++ a = D)
theorem tenI_start (m : Nat) : tenI (decDigits m) m [] := ⟨fun h => absurd rfl h.2, fun _ => by simp⟩
theorem tenI_step {D : List UInt8} {m : Nat} {a : List UInt8} (h : tenI D m a) (hc : a = [] ∨ 0 < m) : tenI D (m / 10) (UInt8.ofNat (48 + m % 10) :: a) := by
  have h1 : decDigits m ++ a = D := h.2 (by rintro ⟨e1, e2⟩; rcases hc with h | h; exact e2 h; omega)
  refine ⟨fun hq => ?_, fun hq => ?_⟩
  · have hm : m < 10 := by omega
    rw [← h1, Lib.decDigits_one hm, Nat.mod_eq_of_lt hm]
    rfl
  · have hm : ¬ m < 10 := fun h => hq ⟨by omega, by simp⟩
    rw [← h1]
    conv => rhs; rw [decDigits, dif_neg hm]
    simp
theorem tenI_end {D : List UInt8} {a : List UInt8} (h : tenI D 0 a) (ha : a ≠ []) : a = D := h.1 ⟨rfl, ha⟩
theorem ls_all' (s : ByteArray) : (⟨(ls s).toArray⟩ : ByteArray) = s := ls_inj (ls_mk _)
theorem fm_is1 {c : UInt8} (h : fm c = 1) : 32 ≤ c.toNat ∧ c.toNat ≤ 126 ∧ c ≠ 92 :=
  all8 (P := fun c => fm c = 1 → 32 ≤ c.toNat ∧ c.toNat ≤ 126 ∧ c ≠ 92) (by decide +kernel) c h
theorem fm_is4 {c : UInt8} (h : fm c = 4) : c.toNat < 32 ∨ 126 < c.toNat :=
  all8 (P := fun c => fm c = 4 → c.toNat < 32 ∨ 126 < c.toNat) (by decide +kernel) c h
theorem conv_one (w : World) (c : UInt8) : (convert 40 9 (.slice (some ⟨w.heap.size, 0, none⟩) 1 1)).run Tryd.prog (w.alloc (.cells #[.int .u8 (c.toNat : Int)] 5)) = .ok (.string ⟨#[c]⟩) (w.alloc (.cells #[.int .u8 (c.toNat : Int)] 5)) :=
  conv_bytes _ 0 _ [c] ⟨by simp [bc], .inr ⟨w.heap.size, 1, #[.int .u8 (c.toNat : Int)], rfl, Nat.zero_le _, heap_new _ _, Nat.le_refl _, by decide, by simp [bc], rfl⟩⟩

set_option maxHeartbeats 2000000 in
set_option maxRecDepth 100000 in
theorem ten_any (n : Int) (hn : rtN n = true) (w : World) : Calls Tryd.prog 31 #[.int .i64 n] w fun e w' => e = .returned (.string ⟨(itoa n).toArray⟩) ∧ Below w.heap.size w w' := by
  obtain ⟨h0, h1⟩ := rtN_of hn
  obtain ⟨N, rfl⟩ : ∃ N : Nat, n = N := ⟨n.toNat, by omega⟩
  have HD : Hid (itoa (N : Int) = decDigits N) := by show _ = _; unfold itoa; rw [if_neg (by omega)]; rfl
  rw [HD.out]
  have HS : Hid (tenI (decDigits N) N []) := tenI_start N
  generalize decDigits N = D at *
  clear HD hn h0
  go_enter Tryd.func31, Tryd.ntmps31
  go_wp2_with fail
  go_loopw [0, 3] (fun x s wr => ∃ (m : Nat) (a : ByteArray), m ≤ 1000 ∧ m + a.size ≤ 1001 ∧ x = .int .i64 m ∧ s = .string a ∧ Hid (tenI D m (ls a) ∧ Below w.heap.size w wr)) (fun x s _ => (intOf x).toNat + (if strSz s = 0 then 1 else 0))
  case atStart => exact ⟨N, ⟨#[]⟩, by omega, by have : (⟨#[]⟩ : ByteArray).size = 0 := rfl; omega, rfl, rfl, HS.out, Below.refl _ _⟩
  case round =>
    obtain ⟨m, a, hm, hsz, rfl, rfl, HI⟩ := hrel
    obtain ⟨hi, hw⟩ := HI.out
    have HB : Hid (Below w.heap.size w wr) := hw
    by_cases hc : a.size = 0 ∨ 0 < m
    · have HN : Hid (tenI D (m / 10) (UInt8.ofNat (48 + m % 10) :: ls a)) := tenI_step hi (by rcases hc with h | h; exact .inl (List.eq_nil_of_length_eq_zero (by rw [ls_len]; exact h)); exact .inr h)
      have hdv : (m : Int) / 10 = ((m / 10 : Nat) : Int) := by omega
      have hmd : (m : Int) % 10 = ((m % 10 : Nat) : Int) := by omega
      obtain ⟨y, hy⟩ : ∃ y, m % 10 = y := ⟨_, rfl⟩
      have hyl : y < 10 := by omega
      obtain ⟨c, hcc⟩ : ∃ c, UInt8.ofNat (48 + y) = c := ⟨_, rfl⟩
      have hct : (c.toNat : Int) = 48 + (y : Int) := by
        have : ∀ q : Fin 10, ((UInt8.ofNat (48 + q.val)).toNat : Int) = 48 + (q.val : Int) := by decide
        rw [← hcc]; exact this ⟨y, hyl⟩
      rw [hy] at HN hmd
      rw [hcc] at HN
      have hcv := conv_one wr c
      rw [hct] at hcv
      have HS2 : Hid (ls ((⟨#[c]⟩ : ByteArray) ++ a) = c :: ls a) := by show _ = _; simp [ls]
      have HSz : Hid (((⟨#[c]⟩ : ByteArray) ++ a).size = a.size + 1) := by show _ = _; rw [← ls_len, HS2.out, List.length_cons, ls_len]
      have hwr : IntKind.u8.wrap (48 + (y : Int)) = 48 + (y : Int) := by
        have : ∀ q : Fin 10, IntKind.u8.wrap (48 + (q.val : Int)) = 48 + (q.val : Int) := by decide
        exact this ⟨y, hyl⟩
      clear HI hi hw hcc hy hct
      obtain ⟨m', hm'⟩ : ∃ m', m / 10 = m' := ⟨_, rfl⟩
      rw [hm'] at HN hdv
      have hle : m' ≤ 1000 := by omega
      have hle2 : m' + (a.size + 1) ≤ 1001 := by omega
      have hlong : ¬ 9223372036854775807 < 1 + a.size := by omega
      have HLt : Hid (m' + 0 < m + (if a.size = 0 then 1 else 0)) := by
        show _ < _
        rcases hc with hc | hc
        · rw [if_pos hc]; omega
        · split <;> omega
      by_cases ha : a.size = 0
      · obtain rfl : a = ⟨#[]⟩ := ls_inj (List.eq_nil_of_length_eq_zero (by rw [ls_len]; exact ha))
        clear hm' hc ha
        go_wp2_with fail
        refine ⟨⟨m', _, hle, by rw [HSz.out]; exact hle2, rfl, rfl, by rw [HS2.out]; exact HN.out, HB.out.alloc HB.out.size _⟩, ?_⟩
        show m' + (if ((⟨#[c]⟩ : ByteArray) ++ ⟨#[]⟩).size = 0 then 1 else 0) < _
        rw [HSz.out]
        exact HLt.out
      · have hne := tl_ne (show 0 < a.size by omega)
        have hne2 : a.toList.isEmpty = false := by cases h : a.toList with | nil => exact absurd h hne | cons a b => rfl
        have hmp : (0 : Int) < m := by omega
        clear hm' hc
        go_wp2_with fail
        refine ⟨⟨m', _, hle, by rw [HSz.out]; exact hle2, rfl, rfl, by rw [HS2.out]; exact HN.out, HB.out.alloc HB.out.size _⟩, ?_⟩
        show m' + (if ((⟨#[c]⟩ : ByteArray) ++ a).size = 0 then 1 else 0) < _
        rw [HSz.out]
        exact HLt.out
    · have ha : 0 < a.size := by omega
      obtain rfl : m = 0 := by omega
      have HE : Hid (ls a = D) := tenI_end hi (fun h => by rw [← ls_len, h] at ha; exact absurd ha (by simp))
      have hne := tl_ne ha
      have hne2 : a.toList.isEmpty = false := by cases h : a.toList with | nil => exact absurd h hne | cons a b => rfl
      clear HI hi hw hc
      go_wp2_with fail
      go_ret
      refine ⟨?_, HB.out⟩
      rw [← HE.out, ls_all']
      rfl

set_option maxHeartbeats 2000000 in
set_option maxRecDepth 100000 in
theorem resc_any (t : ByteArray) (w : World) (hl : 4 * t.size ≤ 1073741824) :
    Calls Tryd.prog 30 #[.string t] w fun e w' => e = .returned (.string ⟨(esc (ls t)).toArray⟩) ∧ Below w.heap.size w w' := by
  go_enter Tryd.func30, Tryd.ntmps30
  go_wp2_with fail
  go_loopw [3, 4] (fun b j wr => ∃ k : Nat, k ≤ t.size ∧ j = .int .i64 k ∧ Hid (Br w.heap.size wr b (esc ((ls t).take k)) ∧ Bk w.heap.size w wr)) (fun _ j _ => t.size - (intOf j).toNat)
  case atStart => exact ⟨0, by omega, rfl, by simpa [esc] using br_nil _ _, Bk.refl _ _⟩
  case round =>
    obtain ⟨k, hk, rfl, HI⟩ := hrel
    obtain ⟨hb, hw⟩ := HI.out
    by_cases hlt : k < t.size
    · have q1 : (k : Int) < t.size := by omega
      have q0 : (0 : Int) ≤ k := by omega
      have hBr : w.heap.size ≤ wr.heap.size := hw.bel.size
      obtain ⟨c, hc⟩ : ∃ c, t[k] = c := ⟨_, rfl⟩
      have Hs : Hid (esc ((ls t).take (k + 1)) = esc ((ls t).take k) ++ esc1 c) := by
        show _ = _
        have hkl : k < (ls t).length := by rw [ls_len]; exact hlt
        have : (ls t)[k] = c := hc
        rw [List.take_succ_eq_append_getElem hkl, esc_app, this]
        simp [esc]
      have hlen : (esc ((ls t).take k)).length + 4 ≤ 1073741824 := by
        have h1 := (esc_len ((ls t).take k)).2
        rw [List.length_take, ls_len] at h1
        omega
      obtain ⟨m, hm⟩ : ∃ m, m = esc ((ls t).take k) := ⟨_, rfl⟩
      rw [← hm] at hb hlen
      obtain ⟨p, cap, rfl, hc1, hc2⟩ := hb.shape
      have HW : Hid (Bk w.heap.size w wr ∧ w.heap.size ≤ wr.heap.size ∧ Br w.heap.size wr (.slice p m.length cap) m) := ⟨hw, hBr, hb⟩
      have HM : Hid (m ++ esc1 c = esc ((ls t).take (k + 1))) := by show _ = _; rw [hm, Hs.out]
      clear HI hb hw hBr hm Hs
      have hcl := c.toNat_lt
      rcases fm_cases c with hf | hf | hf
      · rw [esc1_one hf] at HM
        obtain ⟨r1, r2, r3⟩ := fm_is1 hf
        have r4 : ((c.toNat : Int) == 92) = false := u8_ne c 92 r3
        have i1 : (32 : Int) ≤ c.toNat := by omega
        have i2 : (c.toNat : Int) ≤ 126 := by omega
        have HR : Hid (Br w.heap.size (wr.alloc (.cells #[.int .u8 (c.toNat : Int)] 5)) (.slice p m.length cap) m) := HW.out.2.2.below ((Below.refl _ _).alloc (Nat.le_refl _) _)
        have hB1 : w.heap.size ≤ (wr.alloc (.cells #[.int .u8 (c.toNat : Int)] 5)).heap.size := by rw [World.size_alloc]; have := HW.out.2.1; omega
        go_wp2_with (at_builtin; refine app_bytes rfl _ _ rfl w.heap.size (.slice p m.length cap) m [c] rfl HR.out wr.heap.size _ _ rfl rfl (heap_new _ _) (by simp only [List.length_cons, List.length_nil]; omega) hB1 ?_)
        intro v2 w2 hr2 hb2
        obtain ⟨p2, cap2, rfl, _, _⟩ := hr2.shape
        have HZ : Hid (Br w.heap.size w2 (.slice p2 (m ++ [c]).length cap2) (esc ((ls t).take (k + 1))) ∧ Bk w.heap.size w w2) := ⟨by rw [← HM.out]; exact hr2, (HW.out.1.alloc (Nat.le_refl _) _).trans hb2⟩
        clear hr2 hb2 HR HM hB1
        generalize (m ++ [c]).length = nn at *
        go_wp2_with fail
        exact ⟨⟨k + 1, hlt, by go_num, HZ⟩, by simp [intOf]; omega⟩
      · rw [esc1_two hf] at HM
        have hc9 : c = 92 := fm_two hf
        subst hc9
        have HR : Hid (Br w.heap.size (wr.alloc (.cells #[.int .u8 92, .int .u8 92] 5)) (.slice p m.length cap) m) := HW.out.2.2.below ((Below.refl _ _).alloc (Nat.le_refl _) _)
        have hB1 : w.heap.size ≤ (wr.alloc (.cells #[.int .u8 92, .int .u8 92] 5)).heap.size := by rw [World.size_alloc]; have := HW.out.2.1; omega
        go_wp2_with (at_builtin; refine app_bytes rfl _ _ rfl w.heap.size (.slice p m.length cap) m [92, 92] rfl HR.out wr.heap.size _ _ rfl rfl (heap_new _ _) (by simp only [List.length_cons, List.length_nil]; omega) hB1 ?_)
        intro v2 w2 hr2 hb2
        obtain ⟨p2, cap2, rfl, _, _⟩ := hr2.shape
        have HZ : Hid (Br w.heap.size w2 (.slice p2 (m ++ [92, 92]).length cap2) (esc ((ls t).take (k + 1))) ∧ Bk w.heap.size w w2) := ⟨by rw [← HM.out]; exact hr2, (HW.out.1.alloc (Nat.le_refl _) _).trans hb2⟩
        clear hr2 hb2 HR HM hB1
        generalize (m ++ [92, 92]).length = nn at *
        go_wp2_with fail
        exact ⟨⟨k + 1, hlt, by go_num, HZ⟩, by simp [intOf]; omega⟩
      · rw [esc1_four hf] at HM
        have r4 : ((c.toNat : Int) == 92) = false := u8_ne c 92 (by rintro rfl; exact absurd hf (by decide))
        have hd16 : (c.toNat : Int) / 16 = ((c.toNat / 16 : Nat) : Int) := by omega
        have hm16 : (c.toNat : Int).tmod 16 = ((c.toNat % 16 : Nat) : Int) := rfl
        have hor := fm_is4 hf
        obtain ⟨x, hx1⟩ : ∃ x, c.toNat / 16 = x := ⟨_, rfl⟩
        obtain ⟨y, hy1⟩ : ∃ y, c.toNat % 16 = y := ⟨_, rfl⟩
        have hx2 : x < 16 := by omega
        have hy2 : y < 16 := by omega
        rw [hx1] at hd16 HM
        rw [hy1] at hm16 HM
        clear hx1 hy1
        have i1 : 0 ≤ (x : Int) ∧ (x : Int) < 16 := by omega
        have i2 : 0 ≤ (y : Int) ∧ (y : Int) < 16 := by omega
        have wx : IntKind.u8.wrap (x : Int) = x := by have : ∀ m : Fin 16, IntKind.u8.wrap (m.val : Int) = m.val := by decide +kernel
                                                      exact this ⟨x, hx2⟩
        have wy : IntKind.u8.wrap (y : Int) = y := by have : ∀ m : Fin 16, IntKind.u8.wrap (m.val : Int) = m.val := by decide +kernel
                                                      exact this ⟨y, hy2⟩
        rcases hor with hor | hor
        · have j1 : ¬ (32 : Int) ≤ c.toNat := by omega
          go_wp2_with fail
          go_region_law (refine step_bytes rfl _ _ rfl w.heap.size (.slice p m.length cap) m [92, 120, hx x, hx y] rfl (HW.out.2.2.below ((Below.refl _ _).drew.alloc (Nat.le_refl _) _)) wr.heap.size _ _ rfl rfl (by simp) (by rw [← hexB_at x hx2, ← hexB_at y hy2]; exact heap_alloc_new _ _) (by simp only [List.length_cons, List.length_nil]; omega) (by show w.heap.size ≤ (World.alloc wr _).heap.size; rw [World.size_alloc]; exact Nat.le_succ_of_le HW.out.2.1) ?_; intro g2 cap2 w2 hr2 hb2; have HZ : Hid (Br w.heap.size w2 (.slice (some ⟨g2, 0, none⟩) (m.length + 4) cap2) (esc ((ls t).take (k + 1))) ∧ Bk w.heap.size w w2) := ⟨by rw [← HM.out]; exact hr2, (HW.out.1.alloc (Nat.le_refl _) _).drew.trans hb2⟩; clear hr2 hb2)
          all_goals
            go_wp2_with fail
            exact ⟨⟨k + 1, hlt, by go_num, HZ⟩, by simp [intOf]; omega⟩
        · have j1 : (32 : Int) ≤ c.toNat := by omega
          have j2 : ¬ (c.toNat : Int) ≤ 126 := by omega
          go_wp2_with fail
          go_region_law (refine step_bytes rfl _ _ rfl w.heap.size (.slice p m.length cap) m [92, 120, hx x, hx y] rfl (HW.out.2.2.below ((Below.refl _ _).drew.alloc (Nat.le_refl _) _)) wr.heap.size _ _ rfl rfl (by simp) (by rw [← hexB_at x hx2, ← hexB_at y hy2]; exact heap_alloc_new _ _) (by simp only [List.length_cons, List.length_nil]; omega) (by show w.heap.size ≤ (World.alloc wr _).heap.size; rw [World.size_alloc]; exact Nat.le_succ_of_le HW.out.2.1) ?_; intro g2 cap2 w2 hr2 hb2; have HZ : Hid (Br w.heap.size w2 (.slice (some ⟨g2, 0, none⟩) (m.length + 4) cap2) (esc ((ls t).take (k + 1))) ∧ Bk w.heap.size w w2) := ⟨by rw [← HM.out]; exact hr2, (HW.out.1.alloc (Nat.le_refl _) _).drew.trans hb2⟩; clear hr2 hb2)
          all_goals
            go_wp2_with fail
            exact ⟨⟨k + 1, hlt, by go_num, HZ⟩, by simp [intOf]; omega⟩
    · obtain rfl : k = t.size := by omega
      have q1 : ¬ ((t.size : Int) < t.size) := by omega
      rw [List.take_of_length_le (by rw [ls_len]; omega)] at hb
      obtain ⟨p, cp, rfl, hc1, hc2⟩ := hb.shape
      have hcv := conv_bytes wr _ _ _ hb
      have HZ : Hid (Below w.heap.size w wr) := hw.bel
      clear HI hb hw
      generalize (esc (ls t)).length = nn at *
      go_wp2_with fail
      go_ret
      exact ⟨rfl, HZ.out⟩
end Go.Proofs.YtlpmnkiieibipaaDoor
