import Derived.Test.YtlpmnkiieibipaaDoorDb
set_option linter.unusedVariables false
set_option linter.unusedSimpArgs false
namespace Go.Proofs.YtlpmnkiieibipaaDoor
open Go.Lib (itoa decDigits atoiAll)

/-! The code's way to read a line. -/
/-- The word that a line begins with, what is behind it, and whether there is more. -/
def wd1 (s : List UInt8) : List UInt8 := s.takeWhile (· != 32)
def wd2 (s : List UInt8) : List UInt8 := (s.dropWhile (· != 32)).tail
theorem wd_split (s : List UInt8) (h : (32 : UInt8) ∈ s) : s = wd1 s ++ 32 :: wd2 s := by
  unfold wd1 wd2
  induction s with
  | nil => simp at h
  | cons c r ih =>
    by_cases hc : c = 32
    · subst hc; simp
    · have hr : (32 : UInt8) ∈ r := by simpa [Ne.symm hc] using h
      simp only [List.takeWhile_cons, List.dropWhile_cons]
      simp [hc]
      exact ih hr
theorem wd_no (s : List UInt8) (h : (32 : UInt8) ∉ s) : wd1 s = s ∧ wd2 s = [] := by
  unfold wd1 wd2
  induction s with
  | nil => exact ⟨rfl, rfl⟩
  | cons c r ih =>
    simp at h
    simp only [List.takeWhile_cons, List.dropWhile_cons]
    simp [Ne.symm h.1]
    exact ih h.2
def kd (w : List UInt8) : Nat := if w = [116, 101, 120, 116] then 1 else if w = [98, 108, 97, 110, 107] then 2 else if w = [98, 114, 101, 97, 107] then 3 else if w = [104, 97, 114, 100] then 4 else if w = [101, 109, 112, 116, 121] then 5 else if w = [98, 101, 103, 105, 110] then 6 else if w = [101, 110, 100] then 7 else 0
def nmb (s : List UInt8) : Option Int := match atoiAll s with | .ok v => if itoa v = s then some v else none | _ => none
theorem nmb_of {s : List UInt8} {n : Int} (h : nmb s = some n) : itoa n = s := by
  unfold nmb at h
  split at h
  · split at h
    · cases h; assumption
    · cases h
  · cases h
theorem nmb_is {n : Int} (h : rtN n = true) : nmb (itoa n) = some n := by
  obtain ⟨h1, h2⟩ := rtN_of h
  unfold nmb
  rw [atoi_itoa h1 h2]
  simp
/-- The piece that is read, ahead of the look whether it is right; whether it is one. -/
def rl0 (s : List UInt8) : Dc × Bool :=
  if kd (wd1 s) = 1 then (match une (wd2 s) with | some t => (⟨1, ⟨t.toArray⟩, 0, 0, false⟩, true) | none => (⟨1, bE, 0, 0, false⟩, false))
  else if kd (wd1 s) = 6 then (match nmb (Lib.trimSuffix (wd2 s) even5) with | some n => (⟨6, bE, 0, n, Lib.hasSuffix (wd2 s) even5⟩, true) | none => (⟨6, bE, 0, 0, false⟩, false))
  else if kd (wd1 s) = 3 then (match nmb (wd2 s) with | some n => (⟨3, bE, n, 0, false⟩, true) | none => (⟨3, bE, 0, 0, false⟩, false))
  else (⟨kd (wd1 s), bE, 0, 0, false⟩, !decide ((32 : UInt8) ∈ s))
def rl (s : List UInt8) : Option Dc := if (rl0 s).2 = true ∧ rt (rl0 s).1 = true then some (rl0 s).1 else none

theorem suf_of (s p : List UInt8) : s = Lib.trimSuffix s p ++ (if Lib.hasSuffix s p then p else []) := by
  unfold Lib.trimSuffix
  split
  · rename_i h
    have : p <:+ s := by simpa [Lib.hasSuffix] using h
    obtain ⟨a, rfl⟩ := this
    simp
  · simp
theorem suf_app (a p : List UInt8) : Lib.hasSuffix (a ++ p) p = true ∧ Lib.trimSuffix (a ++ p) p = a := by
  have h : Lib.hasSuffix (a ++ p) p = true := by simp [Lib.hasSuffix]
  refine ⟨h, ?_⟩
  unfold Lib.trimSuffix
  rw [if_pos h]; simp
theorem suf_dig {n : Int} (h : rtN n = true) : Lib.hasSuffix (itoa n) even5 = false := by
  cases hs : Lib.hasSuffix (itoa n) even5 with
  | false => rfl
  | true =>
    have : even5 <:+ itoa n := by simpa [Lib.hasSuffix] using hs
    obtain ⟨a, ha⟩ := this
    obtain ⟨h1, h2⟩ := rtN_of h
    have := itoa_dig h1 h2 32 (by rw [← ha]; simp [even5])
    exact absurd this (by decide)
theorem kd_word {w : List UInt8} (h : kd w ≠ 0) : w = wds.getD (kd w) [] := by
  by_cases h1 : w = [116, 101, 120, 116]
  · subst h1; rfl
  by_cases h2 : w = [98, 108, 97, 110, 107]
  · subst h2; rfl
  by_cases h3 : w = [98, 114, 101, 97, 107]
  · subst h3; rfl
  by_cases h4 : w = [104, 97, 114, 100]
  · subst h4; rfl
  by_cases h5 : w = [101, 109, 112, 116, 121]
  · subst h5; rfl
  by_cases h6 : w = [98, 101, 103, 105, 110]
  · subst h6; rfl
  by_cases h7 : w = [101, 110, 100]
  · subst h7; rfl
  exact absurd (by simp [kd, h1, h2, h3, h4, h5, h6, h7]) h
theorem kd_lt (w : List UInt8) : kd w < 8 := by unfold kd; repeat' split
                                                all_goals omega

theorem rl_of {s : List UInt8} {d : Dc} (h : rl s = some d) : rt d = true ∧ lin d = s := by
  unfold rl at h
  split at h
  · rename_i hc
    cases h
    refine ⟨hc.2, ?_⟩
    obtain ⟨hg, hr⟩ := hc
    have hw : kd (wd1 s) ≠ 0 → wd1 s = wds.getD (kd (wd1 s)) [] := kd_word
    unfold rl0 at hg hr ⊢
    by_cases k1 : kd (wd1 s) = 1
    · rw [if_pos k1] at hg hr ⊢
      rw [k1] at hw
      have hw := hw (by omega)
      cases hu : une (wd2 s) with
      | none => rw [hu] at hg; cases hg
      | some t =>
        rw [hu] at hr
        simp only at hr ⊢
        have he := une_back _ _ t (Nat.le_refl _) hu
        by_cases hb : (32 : UInt8) ∈ s
        · have e := wd_split s hb
          rw [hw, ← he] at e
          simp only [lin, if_pos, ls_mk]
          rw [e]; rfl
        · rw [(wd_no s hb).2] at he
          have ht : t = [] := by
            have := (esc_len t).1
            rw [he] at this
            exact List.eq_nil_of_length_eq_zero (by simpa using this)
          subst ht
          exact absurd hr (by decide)
    · rw [if_neg k1] at hg hr ⊢
      by_cases k6 : kd (wd1 s) = 6
      · rw [if_pos k6] at hg hr ⊢
        rw [k6] at hw
        have hw := hw (by omega)
        cases hu : nmb (Lib.trimSuffix (wd2 s) even5) with
        | none => rw [hu] at hg; cases hg
        | some n =>
          simp only
          have he := nmb_of hu
          have hsf := suf_of (wd2 s) even5
          by_cases hb : (32 : UInt8) ∈ s
          · have e := wd_split s hb
            rw [hw, hsf, ← he] at e
            generalize Lib.hasSuffix (wd2 s) even5 = ev at e ⊢
            rw [e]; rfl
          · rw [(wd_no s hb).2] at he
            exact absurd he (by rw [show Lib.trimSuffix [] even5 = [] from rfl]; exact itoa_ne n)
      · rw [if_neg k6] at hg hr ⊢
        by_cases k3 : kd (wd1 s) = 3
        · rw [if_pos k3] at hg hr ⊢
          rw [k3] at hw
          have hw := hw (by omega)
          cases hu : nmb (wd2 s) with
          | none => rw [hu] at hg; cases hg
          | some n =>
            simp only
            have he := nmb_of hu
            by_cases hb : (32 : UInt8) ∈ s
            · have e := wd_split s hb
              rw [hw, ← he] at e
              rw [e]; rfl
            · rw [(wd_no s hb).2] at he
              exact absurd he (itoa_ne n)
        · rw [if_neg k3] at hg hr ⊢
          simp only at hg hr ⊢
          have hb : (32 : UInt8) ∉ s := by simpa using hg
          have e := (wd_no s hb).1
          have hlt := kd_lt (wd1 s)
          generalize kd (wd1 s) = k at *
          rw [e] at hw
          have : k = 0 ∨ k = 2 ∨ k = 4 ∨ k = 5 ∨ k = 7 := by omega
          rcases this with rfl | rfl | rfl | rfl | rfl
          · exact absurd hr (by decide)
          · exact (hw (by decide)).symm
          · exact (hw (by decide)).symm
          · exact (hw (by decide)).symm
          · exact (hw (by decide)).symm
  · cases h
theorem rl_is {d : Dc} (h : rt d = true) : rl (lin d) = some d := by
  have key : rl0 (lin d) = (d, true) := by
    cases rt_of h with
    | text t hq =>
      have e : lin ⟨1, t, 0, 0, false⟩ = [116, 101, 120, 116] ++ 32 :: esc (ls t) := rfl
      rw [e]
      have h1 : wd1 ([116, 101, 120, 116] ++ 32 :: esc (ls t)) = [116, 101, 120, 116] := by simp [wd1]
      have h2 : wd2 ([116, 101, 120, 116] ++ 32 :: esc (ls t)) = esc (ls t) := by simp [wd2]
      unfold rl0
      rw [h1, h2, une_esc]
      have : (⟨(ls t).toArray⟩ : ByteArray) = t := ls_inj (ls_mk _)
      simp [kd, this]
    | brk n hq =>
      have e : lin ⟨3, bE, n, 0, false⟩ = [98, 114, 101, 97, 107] ++ 32 :: itoa n := rfl
      rw [e]
      have h1 : wd1 ([98, 114, 101, 97, 107] ++ 32 :: itoa n) = [98, 114, 101, 97, 107] := by simp [wd1]
      have h2 : wd2 ([98, 114, 101, 97, 107] ++ 32 :: itoa n) = itoa n := by simp [wd2]
      unfold rl0
      rw [h1, h2, nmb_is hq]
      simp [kd]
    | beg n e hq =>
      have e1 : lin ⟨6, bE, 0, n, e⟩ = [98, 101, 103, 105, 110] ++ 32 :: (itoa n ++ evn e) := rfl
      rw [e1]
      have h1 : wd1 ([98, 101, 103, 105, 110] ++ 32 :: (itoa n ++ evn e)) = [98, 101, 103, 105, 110] := by simp [wd1]
      have h2 : wd2 ([98, 101, 103, 105, 110] ++ 32 :: (itoa n ++ evn e)) = itoa n ++ evn e := by simp [wd2]
      have h3 : Lib.hasSuffix (itoa n ++ evn e) even5 = e ∧ Lib.trimSuffix (itoa n ++ evn e) even5 = itoa n := by
        cases e
        · have := suf_dig hq
          simp only [evn, Bool.false_eq_true, if_false, List.append_nil]
          exact ⟨this, by unfold Lib.trimSuffix; rw [this]; rfl⟩
        · exact suf_app (itoa n) even5
      unfold rl0
      rw [h1, h2, h3.1, h3.2, nmb_is hq]
      simp [kd]
    | blank => decide
    | hard => decide
    | empty => decide
    | «end» => decide
  unfold rl
  rw [key]
  simp [h]
theorem rl_rd (s : List UInt8) : rl s = rd s := rd_eq (fun d h => rl_of h) (fun d h1 h2 => by rw [← h2]; exact rl_is h1)

/-! The document's way. -/
def cands (s : List UInt8) : List Dc :=
  [⟨2, bE, 0, 0, false⟩, ⟨4, bE, 0, 0, false⟩, ⟨5, bE, 0, 0, false⟩, ⟨7, bE, 0, 0, false⟩]
    ++ ((if 5 < s.length then [⟨1, ⟨(pln (s.drop 5)).toArray⟩, 0, 0, false⟩] else [])
    ++ (if 6 < s.length then [⟨3, bE, (nm4 4 0 (s.drop 6) : Nat), 0, false⟩, ⟨6, bE, 0, (nm4 4 0 (s.drop 6) : Nat), false⟩, ⟨6, bE, 0, (nm4 4 0 (s.drop 6) : Nat), true⟩] else []))
def fit (s : List UInt8) (d : Dc) : Bool := rt d && decide (lin d = s)
theorem cands_all {d : Dc} (h : rt d = true) : d ∈ cands (lin d) := by
  cases rt_of h with
  | text t hq =>
    have h1 := (rtT_len hq).1
    have h2 := (esc_len (ls t)).1
    rw [ls_len] at h2
    have hl : 5 < (lin ⟨1, t, 0, 0, false⟩).length := by simp [lin]; omega
    have e : (lin ⟨1, t, 0, 0, false⟩).drop 5 = esc (ls t) := by simp [lin]
    unfold cands
    rw [if_pos hl, e, pln_esc]
    have : (⟨(ls t).toArray⟩ : ByteArray) = t := ls_inj (ls_mk _)
    simp [this]
  | brk n hq =>
    obtain ⟨h1, h2⟩ := rtN_of hq
    have h3 := (itoa_len h1 h2).1
    have hl : 6 < (lin ⟨3, bE, n, 0, false⟩).length := by simp [lin]; omega
    have e : (lin ⟨3, bE, n, 0, false⟩).drop 6 = itoa n ++ evn false := by simp [lin, evn]
    unfold cands
    rw [if_pos hl, e, nm4_itoa h1 h2]
    have : ((n.toNat : Nat) : Int) = n := Int.toNat_of_nonneg h1
    simp [this]
  | beg n e hq =>
    obtain ⟨h1, h2⟩ := rtN_of hq
    have h3 := (itoa_len h1 h2).1
    have hl : 6 < (lin ⟨6, bE, 0, n, e⟩).length := by simp [lin]; omega
    have e1 : (lin ⟨6, bE, 0, n, e⟩).drop 6 = itoa n ++ evn e := by simp [lin]
    unfold cands
    rw [if_pos hl, e1, nm4_itoa h1 h2]
    have : ((n.toNat : Nat) : Int) = n := Int.toNat_of_nonneg h1
    rw [this]
    cases e <;> simp
  | blank => simp [cands]
  | hard => simp [cands]
  | empty => simp [cands]
  | «end» => simp [cands]
theorem find_rd (s : List UInt8) : (cands s).find? (fit s) = rd s := by
  apply rd_eq
  · intro d h
    have := List.find?_some h
    simpa [fit] using this
  · intro d h1 h2
    cases hf : (cands s).find? (fit s) with
    | none =>
      have := List.find?_eq_none.1 hf d (by rw [← h2]; exact cands_all h1)
      simp [fit, h1, h2] at this
    | some d' =>
      have := List.find?_some hf
      simp [fit] at this
      rw [lin_inj this.1 h1 (by rw [this.2, h2])]
end Go.Proofs.YtlpmnkiieibipaaDoor
