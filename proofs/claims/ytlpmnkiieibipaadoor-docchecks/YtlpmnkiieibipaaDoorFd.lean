import Derived.Test.YtlpmnkiieibipaaDoorFb
import Derived.Test.YtlpmnkiieibipaaDoorFc
set_option linter.unusedVariables false
set_option linter.unusedSimpArgs false
namespace Go.Proofs.YtlpmnkiieibipaaDoor
open Go.RowKit
open Go.Lib (itoa decDigits)

theorem ls_cat (a b : ByteArray) : ls (a ++ b) = ls a ++ ls b := by simp [ls]
theorem cat_mk (a : ByteArray) (l x : List UInt8) (h : x = ls a ++ l) : a ++ (⟨l.toArray⟩ : ByteArray) = ⟨x.toArray⟩ := by
  subst h; apply ls_inj; simp [ls]

/-! The document's Line. -/
theorem ln_text (t : ByteArray) (ht : rtT t = true) (w : World) : Calls Tryd.prog 21 #[.agg #[.int .u8 1, .string t, .int .i64 0, .int .i64 0, .bool false]] w fun e w' => e = .returned (.string ⟨(lin ⟨1, t, 0, 0, false⟩).toArray⟩) ∧ Below w.heap.size w w' := by
  have HE : Hid (∀ W, Calls Tryd.prog 30 #[.string t] W fun e w' => e = .returned (.string ⟨(esc (ls t)).toArray⟩) ∧ Below W.heap.size W w') := fun W => resc_any t W (by have := (rtT_len ht).2; omega)
  have HX : Hid ((⟨#[116, 101, 120, 116, 32]⟩ : ByteArray) ++ ⟨(esc (ls t)).toArray⟩ = ⟨(lin ⟨1, t, 0, 0, false⟩).toArray⟩) := cat_mk _ _ _ (by simp [lin, ls])
  have hxl : (⟨(esc (ls t)).toArray⟩ : ByteArray).size ≤ 1000000 := by
    rw [← ls_len, ls_mk]; have h1 := (esc_len (ls t)).2; have h2 := (rtT_len ht).2; rw [ls_len] at h1; omega
  generalize (⟨(esc (ls t)).toArray⟩ : ByteArray) = x at *
  generalize (⟨(lin ⟨1, t, 0, 0, false⟩).toArray⟩ : ByteArray) = y at *
  go_enter Tryd.func21, Tryd.ntmps21
  go_wp2_with (go_at_call 30; refine (HE.out _).mono ?_; rintro e w1 ⟨rfl, hb1⟩)
  go_ret
  exact ⟨by rw [← HX.out]; rfl, ((Below.refl _ _).alloc (Nat.le_refl _) _).trans (hb1.mono (by simp))⟩
theorem ln_brk (n : Int) (hn : rtN n = true) (w : World) : Calls Tryd.prog 21 #[.agg #[.int .u8 3, .string ⟨#[]⟩, .int .i64 n, .int .i64 0, .bool false]] w fun e w' => e = .returned (.string ⟨(lin ⟨3, bE, n, 0, false⟩).toArray⟩) ∧ Below w.heap.size w w' := by
  have HE : Hid (∀ W, Calls Tryd.prog 31 #[.int .i64 n] W fun e w' => e = .returned (.string ⟨(itoa n).toArray⟩) ∧ Below W.heap.size W w') := fun W => ten_any n hn W
  have HX : Hid ((⟨#[98, 114, 101, 97, 107, 32]⟩ : ByteArray) ++ ⟨(itoa n).toArray⟩ = ⟨(lin ⟨3, bE, n, 0, false⟩).toArray⟩) := cat_mk _ _ _ (by simp [lin, ls])
  have hxl : (⟨(itoa n).toArray⟩ : ByteArray).size ≤ 1000000 := by
    rw [← ls_len, ls_mk]; obtain ⟨h1, h2⟩ := rtN_of hn; have := (itoa_len h1 h2).2; omega
  generalize (⟨(itoa n).toArray⟩ : ByteArray) = x at *
  generalize (⟨(lin ⟨3, bE, n, 0, false⟩).toArray⟩ : ByteArray) = y at *
  go_enter Tryd.func21, Tryd.ntmps21
  go_wp2_with (go_at_call 31; refine (HE.out _).mono ?_; rintro e w1 ⟨rfl, hb1⟩)
  go_ret
  exact ⟨by rw [← HX.out]; rfl, ((Below.refl _ _).alloc (Nat.le_refl _) _).trans (hb1.mono (by simp))⟩
theorem ln_beg (n : Int) (ev : Bool) (hn : rtN n = true) (w : World) : Calls Tryd.prog 21 #[.agg #[.int .u8 6, .string ⟨#[]⟩, .int .i64 0, .int .i64 n, .bool ev]] w fun e w' => e = .returned (.string ⟨(lin ⟨6, bE, 0, n, ev⟩).toArray⟩) ∧ Below w.heap.size w w' := by
  have HE : Hid (∀ W, Calls Tryd.prog 31 #[.int .i64 n] W fun e w' => e = .returned (.string ⟨(itoa n).toArray⟩) ∧ Below W.heap.size W w') := fun W => ten_any n hn W
  cases ev
  · have HX : Hid ((⟨#[98, 101, 103, 105, 110, 32]⟩ : ByteArray) ++ ⟨(itoa n).toArray⟩ = ⟨(lin ⟨6, bE, 0, n, false⟩).toArray⟩) := cat_mk _ _ _ (by simp [lin, ls, evn])
    have hxl : (⟨(itoa n).toArray⟩ : ByteArray).size ≤ 1000000 := by
      rw [← ls_len, ls_mk]; obtain ⟨h1, h2⟩ := rtN_of hn; have := (itoa_len h1 h2).2; omega
    generalize (⟨(itoa n).toArray⟩ : ByteArray) = x at *
    generalize (⟨(lin ⟨6, bE, 0, n, false⟩).toArray⟩ : ByteArray) = y at *
    go_enter Tryd.func21, Tryd.ntmps21
    go_wp2_with (go_at_call 31; refine (HE.out _).mono ?_; rintro e w1 ⟨rfl, hb1⟩)
    go_ret
    exact ⟨by rw [← HX.out]; rfl, ((Below.refl _ _).alloc (Nat.le_refl _) _).trans (hb1.mono (by simp))⟩
  · have HX : Hid (((⟨#[98, 101, 103, 105, 110, 32]⟩ : ByteArray) ++ ⟨(itoa n).toArray⟩) ++ (⟨#[32, 101, 118, 101, 110]⟩ : ByteArray) = ⟨(lin ⟨6, bE, 0, n, true⟩).toArray⟩) := by
      apply ls_inj; simp [lin, ls, evn, even5]
    have hxl : (⟨(itoa n).toArray⟩ : ByteArray).size ≤ 1000000 := by
      rw [← ls_len, ls_mk]; obtain ⟨h1, h2⟩ := rtN_of hn; have := (itoa_len h1 h2).2; omega
    generalize (⟨(itoa n).toArray⟩ : ByteArray) = x at *
    generalize (⟨(lin ⟨6, bE, 0, n, true⟩).toArray⟩ : ByteArray) = y at *
    go_enter Tryd.func21, Tryd.ntmps21
    go_wp2_with (go_at_call 31; refine (HE.out _).mono ?_; rintro e w1 ⟨rfl, hb1⟩)
    go_ret
    exact ⟨by rw [← HX.out]; rfl, ((Below.refl _ _).alloc (Nat.le_refl _) _).trans (hb1.mono (by simp))⟩
theorem ln_zero (k : Int) (hk : k = 2 ∨ k = 4 ∨ k = 5 ∨ k = 7) (w : World) : Calls Tryd.prog 21 #[.agg #[.int .u8 k, .string ⟨#[]⟩, .int .i64 0, .int .i64 0, .bool false]] w fun e w' => e = .returned (.string ⟨(lin ⟨k, bE, 0, 0, false⟩).toArray⟩) ∧ Below w.heap.size w w' := by
  rcases hk with rfl | rfl | rfl | rfl
  all_goals
    go_enter Tryd.func21, Tryd.ntmps21
    go_wp2_with fail
    go_ret
    exact ⟨rfl, (Below.refl _ _).alloc (Nat.le_refl _) _⟩
theorem rline_any (d : Dc) (hd : rt d = true) (w : World) : Calls Tryd.prog 21 #[d.v] w fun e w' => e = .returned (.string ⟨(lin d).toArray⟩) ∧ Below w.heap.size w w' := by
  cases rt_of hd with
  | text t hq => exact ln_text t hq w
  | brk n hq => exact ln_brk n hq w
  | beg n e hq => exact ln_beg n e hq w
  | blank => exact ln_zero 2 (by simp) w
  | hard => exact ln_zero 4 (by simp) w
  | empty => exact ln_zero 5 (by simp) w
  | «end» => exact ln_zero 7 (by simp) w

set_option maxHeartbeats 2000000 in
set_option maxRecDepth 100000 in
theorem rprint_any (ao : Option Addr) (l : List Dc) (cap : Nat) (w : World) (hL : Lay w ao l) (hn : l.length ≤ 9223372036854775807) :
    Calls Tryd.prog 13 #[.slice ao l.length cap] w fun e w' => e = .returned (.tuple #[.string ⟨(prn l).1.toArray⟩, .int .i64 (prn l).2]) ∧ Below w.heap.size w w' := by
  have HC : Hid (Calls Tryd.prog 11 #[.slice ao l.length cap] w fun e w' => e = .returned (.tuple #[.int .i64 (chk l).1, .int .i64 (chk l).2]) ∧ Below w.heap.size w w') := rcheck_any ao l cap w hL hn
  by_cases h0 : (chk l).1 = 0
  · obtain ⟨a1, a2, a3, a4⟩ := chk_ok h0
    rw [a4] at HC
    have HP : Hid (prn l = if 4194304 < (lns l).length then ([], 2) else (lns l, 0)) := by show _ = _; unfold prn; rw [if_neg (by rw [h0]; decide)]
    have HA : Hid (∀ d ∈ l, rt d = true) := a3
    have HL : Hid (Lay w ao l) := hL
    clear h0 a2 a3 a4 hL
    go_enter Tryd.func13, Tryd.ntmps13
    go_wp2_with (go_at_call 11; refine HC.out.mono ?_; rintro e w1 ⟨rfl, hb1⟩)
    have HB1 : Hid (Below w.heap.size w w1) := hb1
    clear hb1
    go_loopw [6, 7] (fun b j wr => ∃ k : Nat, k ≤ l.length ∧ j = .int .i64 k ∧ (lns (l.take k)).length ≤ 4194304 ∧ Hid (Br w.heap.size wr b (lns (l.take k)) ∧ Below w.heap.size w wr)) (fun _ j _ => l.length - (intOf j).toNat)
    case atStart => exact ⟨0, by omega, rfl, by simp [lns], br_nil _ _, HB1.out⟩
    case round =>
      obtain ⟨k, hk, rfl, hle, HI⟩ := hrel
      by_cases hlt : k < l.length
      · have q1 : (k : Int) < l.length := by omega
        have q3 : (0 : Int) ≤ k := by omega
        obtain ⟨d, hd⟩ : ∃ d, l[k]? = some d := ⟨_, List.getElem?_eq_getElem hlt⟩
        obtain ⟨ht, b, off, rfl, c0, c1, c2, c3, c4⟩ := (HL.out.below HI.out.2) k d hd
        have hrd := HA.out d (List.mem_of_getElem? hd)
        have HS : Hid (lns (l.take (k + 1)) = lns (l.take k) ++ (lin d ++ [10])) := lns_succ hd
        have hT := lns_take l (k + 1)
        obtain ⟨hr, hw⟩ := HI.out
        obtain ⟨m, hm⟩ : ∃ m, m = lns (l.take k) := ⟨_, rfl⟩
        rw [← hm] at hr hle HS
        have hll := lin_len hrd
        obtain ⟨p, cp, rfl, hc1, hc2⟩ := hr.shape
        have HR : Hid (Br w.heap.size wr (.slice p m.length cp) m ∧ Below w.heap.size w wr) := ⟨hr, hw⟩
        have HLn : Hid (∀ W, Calls Tryd.prog 21 #[d.v] W fun e w' => e = .returned (.string ⟨(lin d).toArray⟩) ∧ Below W.heap.size W w') := fun W => rline_any d hrd W
        obtain ⟨x, hx⟩ : ∃ x, lin d = x := ⟨_, rfl⟩
        rw [hx] at HLn HS hll
        clear HI hr hw hd hrd hm hx
        obtain ⟨dk, dt, db, di, de⟩ := d
        simp only [Dc.v] at HLn
        simp only at c0 c1 c2 c3 c4 ht
        go_wp2_with (first | (go_at_call 21; refine (HLn.out _).mono ?_; rintro e w3 ⟨rfl, hb3⟩; have HR3 : Hid (Br w.heap.size w3 (.slice p m.length cp) m ∧ Below w.heap.size w w3) := ⟨HR.out.1.below hb3, HR.out.2.trans (hb3.mono HR.out.2.size)⟩; clear hb3) | (at_builtin; refine app_str rfl _ _ rfl w.heap.size (.slice p m.length cp) m ⟨x.toArray⟩ rfl HR3.out.1 rfl (by rw [← ls_len, ls_mk]; omega) HR3.out.2.size ?_))
        intro v4 w4 hr4 hb4
        rw [ls_mk] at hr4
        obtain ⟨p4, cp4, rfl, _, _⟩ := hr4.shape
        have HR4 : Hid (Br w.heap.size w4 (.slice p4 (m ++ x).length cp4) (m ++ x) ∧ Below w.heap.size w w4) := ⟨hr4, HR3.out.2.trans hb4.bel⟩
        have h4l : (m ++ x).length ≤ 100000000 := by rw [List.length_append]; omega
        have HS4 : Hid (lns (l.take (k + 1)) = (m ++ x) ++ [10]) := by show _ = _; rw [HS.out]; simp
        clear hr4 hb4 HR3 HS
        generalize m ++ x = m4 at *
        go_wp2_with (at_builtin; refine app_bytes rfl _ _ rfl w.heap.size (.slice p4 m4.length cp4) m4 [10] rfl (HR4.out.1.below ((Below.refl _ _).alloc (Nat.le_refl _) _)) w4.heap.size _ _ rfl rfl (heap_new _ _) (by simp only [List.length_cons, List.length_nil]; omega) (by rw [World.size_alloc]; exact Nat.le_succ_of_le HR4.out.2.size) ?_)
        intro v5 w5 hr5 hb5
        obtain ⟨p5, cp5, rfl, _, _⟩ := hr5.shape
        have HR5 : Hid (Br w.heap.size w5 (.slice p5 (m4 ++ [10]).length cp5) (lns (l.take (k + 1))) ∧ Below w.heap.size w w5) := ⟨by rw [HS4.out]; exact hr5, (HR4.out.2.alloc HR4.out.2.size _).trans hb5.bel⟩
        have HN : Hid ((lns (l.take (k + 1))).length = (m4 ++ [10]).length) := by show _ = _; rw [HS4.out]
        have h5l : (m4 ++ [10]).length ≤ 1000000000 := by rw [List.length_append]; simp only [List.length_cons, List.length_nil]; omega
        clear hr5 hb5 HS4
        generalize (m4 ++ [10]).length = nn at *
        by_cases hbig : 4194304 < nn
        · have q2 : (4194304 : Int) < nn := by omega
          have HQ : Hid (prn l = ([], 2)) := by show _ = _; rw [HP.out, if_pos (by have := HN.out; omega)]
          clear hT
          go_wp2_with fail
          go_ret2
          rw [HQ.out]
          exact ⟨rfl, HR5.out.2⟩
        · have q2 : ¬ (4194304 : Int) < nn := by omega
          clear hT
          go_wp2_with fail
          exact ⟨⟨k + 1, hlt, by go_num, by rw [HN.out]; omega, HR5.out⟩, by simp [intOf]; omega⟩
      · obtain rfl : k = l.length := by omega
        have q1 : ¬ ((l.length : Int) < l.length) := by omega
        obtain ⟨hr, hw⟩ := HI.out
        rw [List.take_length] at hr hle
        have HQ : Hid (prn l = (lns l, 0)) := by show _ = _; rw [HP.out, if_neg (by omega)]
        obtain ⟨p, cp, rfl, hc1, hc2⟩ := hr.shape
        have hcv := conv_bytes wr _ _ _ hr
        have HW : Hid (Below w.heap.size w wr) := hw
        clear HI hr hw
        generalize (lns l).length = nn at *
        go_wp2_with fail
        go_ret2
        rw [HQ.out]
        exact ⟨rfl, HW.out⟩
  · have HP : Hid (prn l = ([], (chk l).1)) := by show _ = _; unfold prn; rw [if_pos h0]
    generalize (chk l).1 = e1 at *
    generalize (chk l).2 = e2 at *
    clear hL
    go_enter Tryd.func13, Tryd.ntmps13
    go_wp2_with (go_at_call 11; refine HC.out.mono ?_; rintro e w1 ⟨rfl, hb1⟩)
    go_ret2
    rw [HP.out]
    exact ⟨rfl, hb1⟩
end Go.Proofs.YtlpmnkiieibipaaDoor
