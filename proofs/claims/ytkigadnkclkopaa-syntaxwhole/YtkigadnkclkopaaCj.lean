import Derived.Test.YtkigadnkclkopaaCi
set_option linter.unusedVariables false
set_option linter.unusedSimpArgs false
namespace Go.Proofs.Ytkigadnkclkopaa
open Go.RowKit

/-! The code's Same. -/
def eqF : List Nd → List Nd → Bool
  | [], [] => true
  | x :: r, y :: m => same x y && eqF r m
  | _, _ => false
theorem sameL_eqF : ∀ (c m : List Nd), sameL c m = eqF (pl c) m
  | [], m => by cases m <;> simp [sameL, pl, eqF]
  | x :: r, m => by
    simp only [sameL]
    cases hx : isN x with
    | true =>
      simp only [if_true]
      rw [sameL_eqF r m]
      have : pl (x :: r) = pl r := by unfold pl; rw [List.filter_cons_of_neg (by simp [hx])]
      rw [this]
    | false =>
      simp only [Bool.false_eq_true, if_false]
      have : pl (x :: r) = x :: pl r := by unfold pl; rw [List.filter_cons_of_pos (by simp [hx])]
      rw [this]
      cases m with
      | nil => simp [eqF]
      | cons y m' => simp only [eqF]; rw [sameL_eqF r m']
theorem same_mk (k : Int) (d : Tv) (c : List Nd) (n : Nd) : same (.mk k d c) n = if k = n.k then (if k = 0 then (d.k == n.d.k && decide (d.t = n.d.t)) else eqF (pl c) (pl n.c)) else false := by
  rw [same]
  rw [sameL_eqF]
  rfl
theorem eqF_len : ∀ {a b : List Nd}, a.length ≠ b.length → eqF a b = false
  | [], [], h => absurd rfl h
  | [], y :: m, _ => rfl
  | x :: r, [], _ => rfl
  | x :: r, y :: m, h => by
    simp only [eqF]
    rw [eqF_len (a := r) (b := m) (by simpa using h), Bool.and_false]
theorem eqF_step {a b : List Nd} {j : Nat} {x y : Nd} (hx : a[j]? = some x) (hy : b[j]? = some y) : eqF (a.drop j) (b.drop j) = (same x y && eqF (a.drop (j + 1)) (b.drop (j + 1))) := by
  obtain ⟨a1, a2⟩ := List.getElem?_eq_some_iff.1 hx
  obtain ⟨b1, b2⟩ := List.getElem?_eq_some_iff.1 hy
  rw [List.drop_eq_getElem_cons a1, List.drop_eq_getElem_cons b1, a2, b2]
  rfl
abbrev sameF (p : Nat) : Value := .func (.func 21) #[] #[.pointer (some ⟨p, 0, none⟩)]
def SmC (a b : Nd) : Prop := ∀ va vb W p, Nv W va a → Nv W vb b → W.heap[p]? = some (.cells #[sameF p] 40 (0, 0)) → Calls Try.prog 21 #[va, vb, .pointer (some ⟨p, 0, none⟩)] W fun r w' => r = .returned (.bool (same a b)) ∧ Below W.heap.size W w'
set_option maxRecDepth 100000 in
set_option maxHeartbeats 1000000 in
theorem equal_any (a b : List Nd) (ao bo : Option Addr) (ca cb p : Nat) (W : World) (ha : Sn W ao a) (hb : Sn W bo b) (h1 : a.length ≤ ca) (h2 : ca ≤ maxLen) (h3 : b.length ≤ cb) (h4 : cb ≤ maxLen) (hp : W.heap[p]? = some (.cells #[sameF p] 40 (0, 0))) (IH : ∀ x y, x ∈ a → y ∈ b → SmC x y) :
    Calls Try.prog 22 #[.slice ao a.length ca, .slice bo b.length cb, sameF p] W fun r w' => r = .returned (.bool (eqF a b)) ∧ Below W.heap.size W w' := by
  have HA : Hid (Sn W ao a) := ha
  have HB : Hid (Sn W bo b) := hb
  have HP := show Hid _ from hp
  have HIH := show Hid _ from IH
  have hal : (a.length : Int) ≤ 9223372036854775807 := by have : maxLen = 9223372036854775807 := rfl; omega
  clear ha hb hp IH
  by_cases hl : a.length = b.length
  · have hl1 : ((a.length : Int) == (b.length : Int)) = true := by simp [hl]
    have hl2 : ((a.length : Int) != (b.length : Int)) = false := by simp [hl]
    obtain ⟨R, hR⟩ : ∃ R, eqF a b = R := ⟨_, rfl⟩
    rw [hR]
    have HR : Hid (eqF (a.drop 0) (b.drop 0) = R) := by unfold Hid; simpa using hR
    have HL : Hid (a.length = b.length) := hl
    have hlI : (a.length : Int) = (b.length : Int) := by omega
    clear hR hl
    go_enter Try.func22, Try.ntmps22
    go_wp2_with fail
    go_loopw [17] (fun iv wr => ∃ j : Nat, j ≤ a.length ∧ iv = .int .i64 j ∧ Hid (eqF (a.drop j) (b.drop j) = R ∧ Below W.heap.size W wr)) (fun iv _ => a.length - (intOf iv).toNat)
    case atStart => exact ⟨0, Nat.zero_le _, rfl, HR.out, Below.refl _ _⟩
    case round =>
      obtain ⟨j, hj, rfl, HJ⟩ := hrel
      by_cases hlt : j < a.length
      · have z1 : (j : Int) < a.length := by omega
        have z1b : (j : Int) < b.length := by omega
        have z2 : (0 : Int) ≤ j := by omega
        obtain ⟨x, hx⟩ : ∃ x, a[j]? = some x := ⟨_, List.getElem?_eq_getElem hlt⟩
        obtain ⟨y, hy⟩ : ∃ y, b[j]? = some y := ⟨_, List.getElem?_eq_getElem (by have := HL.out; omega)⟩
        obtain ⟨b1, o1, rfl, hbl, ao2, cap2, ⟨v0, v1, v2, v3, v4, v5, v6, v7⟩, hv⟩ := Nv.kid HA.out HJ.out.2 hx
        obtain ⟨b2, o2, rfl, hbl2, ao3, cap3, ⟨u0, u1, u2, u3, u4, u5, u6, u7⟩, hu⟩ := Nv.kid HB.out HJ.out.2 hy
        have hst := eqF_step hx hy
        rw [HJ.out.1] at hst
        have HST := show Hid _ from hst
        have HC : Hid (∀ V, Below wr.heap.size wr V → Calls Try.prog 21 #[ndv x.k x.d (.slice ao2 x.c.length cap2), ndv y.k y.d (.slice ao3 y.c.length cap3), .pointer (some ⟨p, 0, none⟩)] V fun r w' => r = .returned (.bool (same x y)) ∧ Below V.heap.size V w') := fun V hb => HIH.out x y (List.mem_of_getElem? hx) (List.mem_of_getElem? hy) _ _ V p (hv.below hb) (hu.below hb) (blk_below (blk_below HP.out HJ.out.2) hb)
        have b4 := below_new wr (NdB x.k x.d (.slice ao2 x.c.length cap2))
        have b5 := below_new (wr.alloc (NdB x.k x.d (.slice ao2 x.c.length cap2))) (NdB y.k y.d (.slice ao3 y.c.length cap3))
        have H5 : Hid (Below wr.heap.size wr ((wr.alloc (NdB x.k x.d (.slice ao2 x.c.length cap2))).alloc (NdB y.k y.d (.slice ao3 y.c.length cap3)))) := b4.trans (b5.mono b4.size)
        clear hv hu hst hx hy b4 b5
        go_wp2_with fail
        refine (HC.out _ H5.out).mono ?_
        rintro r w6 ⟨rfl, hb6⟩
        have H6 : Hid (Below W.heap.size W w6) := HJ.out.2.trans ((H5.out.trans (hb6.mono H5.out.size)).mono HJ.out.2.size)
        clear hb6
        cases hs : same x y with
        | true =>
          rw [hs] at HST
          go_wp2_with fail
          exact ⟨⟨j + 1, hlt, by go_num, by have := HST.out; simpa using this.symm, H6.out⟩, by simp [intOf]; omega⟩
        | false =>
          rw [hs] at HST
          go_wp2_with fail
          go_ret
          exact ⟨by rw [HST.out]; rfl, H6.out⟩
      · obtain rfl : j = a.length := by omega
        have z1 : ¬ ((a.length : Int) < a.length) := by omega
        have HE : Hid (R = true ∧ Below W.heap.size W wr) := ⟨by rw [← HJ.out.1]; rw [List.drop_length, HL.out, List.drop_length]; rfl, HJ.out.2⟩
        go_wp2_with fail
        go_ret
        exact ⟨by rw [HE.out.1]; rfl, HE.out.2⟩
  · have hlI : ¬ (a.length : Int) = (b.length : Int) := by omega
    have hl1 : ((a.length : Int) == (b.length : Int)) = false := by simpa using hlI
    have hl2 : ((a.length : Int) != (b.length : Int)) = true := by simpa using hlI
    rw [eqF_len hl]
    go_enter Try.func22, Try.ntmps22
    go_wp2_with fail
    go_ret
    exact ⟨rfl, Below.refl _ _⟩

end Go.Proofs.Ytkigadnkclkopaa
