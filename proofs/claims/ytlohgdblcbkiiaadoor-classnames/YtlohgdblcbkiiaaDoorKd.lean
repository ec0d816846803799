import Derived.Test.YtlohgdblcbkiiaaDoorKc
set_option linter.unusedVariables false
set_option linter.unusedSimpArgs false
namespace Go.Proofs.YtlohgdblcbkiiaaDoor
open Go.RowKit

/-! ### Names -/
def nmL : List Nat → Bool
  | [] => false
  | p :: r => lt' p && r.all fun q => pr' q
def nm (s : ByteArray) : Bool := nmL (pts s) && !ky s

theorem pr_of_lt {p : Int} (h : lt' p = true) : pr' p = true := by unfold pr'; rw [h]; rfl

theorem nmL_iff (l : List Nat) : nmL l = true ↔ l ≠ [] ∧ ∀ j, j < l.length → pr' (l.getD j 0) = true ∧ (j = 0 → lt' (l.getD j 0) = true) := by
  cases l with
  | nil => simp [nmL]
  | cons p r =>
    constructor
    · intro h
      have h1 : lt' p = true ∧ (r.all fun q => pr' q) = true := by simpa [nmL] using h
      refine ⟨by simp, fun j hj => ?_⟩
      cases j with
      | zero => exact ⟨pr_of_lt h1.1, fun _ => h1.1⟩
      | succ j =>
        refine ⟨?_, fun h => by omega⟩
        have hj' : j < r.length := by simpa using hj
        have := List.all_eq_true.1 h1.2 (r[j]'hj') (List.getElem_mem _)
        simpa [List.getD, List.getElem?_eq_getElem hj'] using this
    · rintro ⟨_, h⟩
      have h0 := (h 0 (by simp)).2 rfl
      have h1 : (r.all fun q => pr' q) = true := by
        rw [List.all_eq_true]
        intro x hx
        obtain ⟨j, hj, e⟩ := List.mem_iff_getElem.1 hx
        have := (h (j + 1) (by simpa using hj)).1
        simpa [List.getD, List.getElem?_eq_getElem hj, e] using this
      have h0' : lt' p = true := h0
      simp only [nmL, h0', h1, Bool.and_self]

theorem pts_getD (s : ByteArray) (k : Nat) (h : k < (P s).length) : (pts s).getD k 0 = dp s (st s k) := by
  unfold pts
  rw [List.getD, List.getElem?_map, P_at s k h]; rfl

theorem nm_hit (s : ByteArray) (h0 : 0 < s.size) (hk : ky s = false) (h : ∀ j, j < (P s).length → pr' (dp s (st s j)) = true ∧ (j = 0 → lt' (dp s (st s j)) = true)) : nm s = true := by
  unfold nm
  rw [hk, (nmL_iff _).2]
  · rfl
  · refine ⟨?_, fun j hj => ?_⟩
    · intro e
      have h1 := (st_lt s 0).1 h0
      have := pts_len s
      rw [e] at this
      simp at this; omega
    · rw [pts_len] at hj
      rw [pts_getD s j hj]; exact h j hj
theorem nm_miss (s : ByteArray) (j : Nat) (hj : j < (P s).length) (h : pr' (dp s (st s j)) = false ∨ (j = 0 ∧ lt' (dp s (st s j)) = false)) : nm s = false := by
  unfold nm
  have : nmL (pts s) = false := by
    rw [Bool.eq_false_iff]
    intro h2
    have h3 := ((nmL_iff _).1 h2).2 j (by rw [pts_len]; exact hj)
    rw [pts_getD s j hj] at h3
    rcases h with h | ⟨h, h4⟩
    · rw [h] at h3; exact absurd h3.1 (by simp)
    · rw [h4] at h3; exact absurd (h3.2 h) (by simp)
  rw [this]; rfl
theorem nm_zero (s : ByteArray) (h : s.size = 0) : nm s = false := by
  unfold nm
  have : pts s = [] := by
    apply List.eq_nil_of_length_eq_zero
    rw [pts_len]
    have := P_len s; omega
  rw [this]; rfl
theorem nm_key (s : ByteArray) (h : ky s = true) : nm s = false := by unfold nm; rw [h]; simp

theorem st_pos (s : ByteArray) (k : Nat) (h0 : 0 < k) (h : k ≤ (P s).length) : 0 < st s k := by
  obtain ⟨j, rfl⟩ : ∃ j, k = j + 1 := ⟨k - 1, by omega⟩
  rw [st_succ s j (by omega)]
  have := dw_facts s (st s j) ((st_lt s j).2 (by omega))
  omega

set_option maxHeartbeats 1000000 in
theorem isName_any (s : ByteArray) (w : World) (hT : Kab w) (hs : s.size ≤ 2147483647) :
    Calls Tryd.prog 13 #[.string s] w fun e w' => e = .returned (.bool (nm s)) ∧ Below w.heap.size w w' := by
  have hP := P_len s
  by_cases hz : s.size = 0
  · have hse : s = ⟨#[]⟩ := by
      refine by8_ext _ _ (by rw [hz]; rfl) fun i hi => by omega
    have HN : Hid (nm s = false) := nm_zero s hz
    have e1 : s.toList.isEmpty = true := by rw [hse, tl_data]; rfl
    clear hse hP
    go_enter Tryd.func13, Tryd.ntmps13
    go_wp2_with fail
    go_ret
    exact ⟨kret_b HN.out.symm, Below.refl _ _⟩
  · have hse : s ≠ ⟨#[]⟩ := fun h => hz (by rw [h]; rfl)
    have e1 : s.toList.isEmpty = false := by
      have h := tl_false hse
      rw [tl_data] at h ⊢
      cases hd : s.data.toList with
      | nil => rw [hd, tl_data] at h; exact absurd h (by simp)
      | cons => rfl
    clear hse
    go_enter Tryd.func13, Tryd.ntmps13
    go_wp2_with fail
    refine (isKey_any s w hT.2.1).mono ?_
    rintro e w1 ⟨rfl, rfl⟩
    cases hk : ky s
    · have HK : Hid (ky s = false) := hk
      clear hk
      go_wp2_with fail
      go_loopw [3] (fun _ w' => ∃ k : Nat, k ≤ (P s).length ∧ w' = w1.iter s (st s k) ∧ ∀ j, j < k → pr' (dp s (st s j)) = true ∧ (j = 0 → lt' (dp s (st s j)) = true)) (fun _ w' => s.size - w'.iterPos w1.heap.size)
      case atStart => exact ⟨0, by omega, rfl, fun j hj => by omega⟩
      case round =>
        obtain ⟨k, hk, rfl, hall⟩ := hrel
        by_cases hlt : k < (P s).length
        · have hp := (st_lt s k).2 hlt
          have hw := dw_facts s (st s k) hp
          have hdp := dp_le s (st s k)
          have HT : Hid (∀ pos, CTab (w1.iter s pos)) := fun pos => hT.1.below (below_iter w1 s pos)
          have HS : Hid (st s (k + 1) = st s k + dw s (st s k)) := st_succ s k hlt
          have hnx : ∀ ty, (Instr.next (.pointer (some ⟨w1.heap.size, 0, none⟩)) true ty).run Tryd.prog (w1.iter s (st s k)) = .ok (.tuple #[.bool true, .int .i64 (st s k), .int .i32 (dp s (st s k))]) (w1.iter s (st s k + dw s (st s k))) := fun ty => run_next_any w1 s (st s k) ty hp
          have HZ : Hid ((((st s k : Nat) : Int) == 0) = decide (k = 0)) := by
            show (((st s k : Nat) : Int) == 0) = decide (k = 0)
            by_cases h0 : k = 0
            · subst h0; rfl
            · have := st_pos s k (by omega) hk
              rw [decide_eq_false h0]; simp; omega
          have HN : Hid (pr' (dp s (st s k)) = false ∨ (k = 0 ∧ lt' (dp s (st s k)) = false) → nm s = false) := nm_miss s k hlt
          have HG : Hid (pr' (dp s (st s k)) = true ∧ (k = 0 → lt' (dp s (st s k)) = true) → ∀ j, j < k + 1 → pr' (dp s (st s j)) = true ∧ (j = 0 → lt' (dp s (st s j)) = true)) := fun h j hj => by
            by_cases e : j = k
            · subst e; exact h
            · exact hall j (by omega)
          clear hT hall
          generalize st s k = i at *
          generalize dw s i = d at *
          generalize hx : dp s i = x at *
          clear hx
          go_wp2_with fail
          refine (part_any x _ (HT.out _)).mono ?_
          rintro e w' ⟨rfl, rfl⟩
          cases hpx : pr' (x : Int)
          · have HP : Hid (nm s = false) := HN.out (.inl hpx)
            clear hpx HN HG HZ
            go_wp2_with fail
            go_ret
            exact ⟨kret_b HP.out.symm, below_iter _ _ _⟩
          · have HP : Hid (pr' (x : Int) = true) := hpx
            clear hpx
            by_cases h0 : k = 0
            · have hz0 : (((i : Nat) : Int) == 0) = true := by rw [HZ.out]; exact decide_eq_true h0
              go_wp2_with fail
              refine (letter_any x _ (HT.out _)).mono ?_
              rintro e w' ⟨rfl, rfl⟩
              cases hlx : lt' (x : Int)
              · have HL : Hid (nm s = false) := HN.out (.inr ⟨h0, hlx⟩)
                clear hlx HN HG HZ
                go_wp2_with fail
                go_ret
                exact ⟨kret_b HL.out.symm, below_iter _ _ _⟩
              · have HL : Hid (lt' (x : Int) = true) := hlx
                clear hlx HN
                go_wp2_with fail
                exact ⟨⟨k + 1, hlt, by rw [HS.out], HG.out ⟨HP.out, fun _ => HL.out⟩⟩, by simp; omega⟩
            · have hz0 : (((i : Nat) : Int) == 0) = false := by rw [HZ.out]; exact decide_eq_false h0
              have H0 : Hid (k ≠ 0) := h0
              go_wp2_with fail
              exact ⟨⟨k + 1, hlt, by rw [HS.out], HG.out ⟨HP.out, fun h => absurd h H0.out⟩⟩, by simp; omega⟩
        · have hp : ¬ st s k < s.size := by rw [st_lt]; exact hlt
          have hnx : ∀ ty, (Instr.next (.pointer (some ⟨w1.heap.size, 0, none⟩)) true ty).run Tryd.prog (w1.iter s (st s k)) = _ := fun ty => run_next_end w1 s (st s k) ty hp
          have HC : Hid (nm s = true) := nm_hit s (by omega) HK.out (fun j hj => hall j (by omega))
          clear hT hall
          go_wp2_with fail
          go_ret
          exact ⟨kret_b HC.out.symm, below_iter _ _ _⟩
    · have HN : Hid (nm s = false) := nm_key s hk
      clear hk
      go_wp2_with fail
      go_ret
      exact ⟨kret_b HN.out.symm, Below.refl _ _⟩

set_option maxHeartbeats 1000000 in
theorem awake_any (w : World) (hT : Kab w) :
    Calls Tryd.prog 14 #[] w fun e w' => e = .returned (.bool true) ∧ Below w.heap.size w w' := by
  have a1 : lt' 97 = true := by decide +kernel
  have a2 : lt' 95 = false := by decide +kernel
  have a3 : pr' 769 = true := by decide +kernel
  have a4 : nm ⟨#[97, 49, 95]⟩ = true := by decide +kernel
  have a5 : nm ⟨#[101, 110, 100]⟩ = false := by decide +kernel
  have a6 : ky ⟨#[101, 110, 100]⟩ = true := by decide +kernel
  have a7 : sg ⟨#[97, 58, 61, 98]⟩ 1 = ⟨#[58, 61]⟩ := by decide +kernel
  have a8 : sg ⟨#[97]⟩ 0 = ⟨#[]⟩ := by decide +kernel
  go_enter Tryd.func14, Tryd.ntmps14
  go_wp2_with fail
  refine (letter_any 97 w hT.1).mono ?_
  rintro e w1 ⟨rfl, rfl⟩
  rw [a1]
  go_wp2_with fail
  refine (letter_any 95 _ hT.1).mono ?_
  rintro e w1 ⟨rfl, rfl⟩
  rw [a2]
  go_wp2_with fail
  refine (part_any 769 _ hT.1).mono ?_
  rintro e w1 ⟨rfl, rfl⟩
  rw [a3]
  go_wp2_with fail
  refine (isName_any ⟨#[97, 49, 95]⟩ _ hT (by decide)).mono ?_
  rintro e w2 ⟨rfl, hb⟩
  rw [a4]
  go_wp2_with fail
  refine (isName_any ⟨#[101, 110, 100]⟩ _ (hT.below hb) (by decide)).mono ?_
  rintro e w3 ⟨rfl, hb3⟩
  rw [a5]
  have hb := hb.trans (hb3.mono hb.size)
  clear hb3
  go_wp2_with fail
  refine (isKey_any ⟨#[101, 110, 100]⟩ _ (hT.below hb).2.1).mono ?_
  rintro e w4 ⟨rfl, rfl⟩
  rw [a6]
  go_wp2_with fail
  refine (sign_in ⟨#[97, 58, 61, 98]⟩ 1 _ (hT.below hb).2.2 (by decide)).mono ?_
  rintro e w5 ⟨rfl, hb5⟩
  rw [a7]
  have hb := hb.trans (hb5.mono hb.size)
  clear hb5
  go_wp2_with fail
  refine (sign_in ⟨#[97]⟩ 0 _ (hT.below hb).2.2 (by decide)).mono ?_
  rintro e w6 ⟨rfl, hb6⟩
  rw [a8]
  have hb := hb.trans (hb6.mono hb.size)
  clear hb6
  go_wp2_with fail
  go_ret
  exact ⟨rfl, hb⟩
end Go.Proofs.YtlohgdblcbkiiaaDoor
