import Derived.Test.YtkigadnkclkopaaVb
set_option linter.unusedVariables false
set_option linter.unusedSimpArgs false
namespace Go.Proofs.Ytkigadnkclkopaa
open Go.RowKit

/-! How much is to come within a node: at most so many states at once (no memory). -/
def Fl.ht : Fl → Nat
  | .mt .typed => 5
  | .mt .list => 3
  | _ => 1
def rh : List Fl → Nat
  | [] => 0
  | x :: r => max (x.ht + r.length) (rh r)
def Pk.ht : Pk → Nat
  | .row r => rh r
  | .fn _ => 1
  | .ex m => (Fl.mt m).ht
def It.ht : It → Nat
  | .fl x => x.ht
  | .lv _ => 0
  | .once p => max 1 p.ht
  | .again p => 1 + max 1 p.ht
  | .all r => max 1 (rh r)
/-- How many stand ahead of the node's end. -/
def cnt : List It → Nat
  | [] => 0
  | .lv _ :: _ => 0
  | _ :: K => 1 + cnt K
def fb : List It → Prop
  | [] => True
  | .lv _ :: K => fb K
  | i :: K => i.ht + cnt K ≤ 15 ∧ fb K
theorem Fl.ht_pos (x : Fl) : 1 ≤ x.ht := by
  cases x with
  | mt m => cases m <;> decide
  | _ => exact Nat.le_refl _
theorem It.ht_pos (i : It) (h : ∀ n, i ≠ .lv n) : 1 ≤ i.ht := by
  cases i with
  | fl x => exact x.ht_pos
  | lv n => exact absurd rfl (h n)
  | once p => simp only [It.ht]; omega
  | again p => simp only [It.ht]; omega
  | all r => simp only [It.ht]; omega
theorem cnt_cons {i : It} (h : ∀ n, i ≠ .lv n) (K : List It) : cnt (i :: K) = 1 + cnt K := by
  cases i with
  | lv n => exact absurd rfl (h n)
  | _ => rfl
theorem fb_cons {i : It} (h : ∀ n, i ≠ .lv n) (K : List It) : fb (i :: K) ↔ i.ht + cnt K ≤ 15 ∧ fb K := by
  cases i with
  | lv n => exact absurd rfl (h n)
  | _ => exact Iff.rfl
theorem fb_cnt : ∀ {K : List It}, fb K → cnt K ≤ 15
  | [], _ => Nat.zero_le _
  | i :: K, h => by
    by_cases hl : ∃ n, i = .lv n
    · obtain ⟨n, rfl⟩ := hl; exact Nat.zero_le _
    · have hn : ∀ n, i ≠ .lv n := fun n e => hl ⟨n, e⟩
      have h1 := ((fb_cons hn K).1 h).1
      have := i.ht_pos hn
      rw [cnt_cons hn]
      omega
theorem fb_len : ∀ {K : List It}, fb K → K.length ≤ 16 * (lvs K).length + cnt K
  | [], _ => Nat.zero_le _
  | i :: K, h => by
    by_cases hl : ∃ n, i = .lv n
    · obtain ⟨n, rfl⟩ := hl
      have h' : fb K := h
      have := fb_len h'
      have := fb_cnt h'
      simp [lvs, cnt]
      omega
    · have hn : ∀ n, i ≠ .lv n := fun n e => hl ⟨n, e⟩
      have := fb_len ((fb_cons hn K).1 h).2
      have e : lvs (i :: K) = lvs K := by
        cases i with
        | lv n => exact absurd rfl (hn n)
        | _ => rfl
      rw [cnt_cons hn, e]
      simp
      omega
theorem fb_row (r : List Fl) (K : List It) (h : rh r + cnt K ≤ 15) (hK : fb K) : fb (r.map It.fl ++ K) ∧ cnt (r.map It.fl ++ K) = r.length + cnt K := by
  induction r with
  | nil => exact ⟨hK, by simp⟩
  | cons x r ih =>
    simp only [rh] at h
    obtain ⟨h1, h2⟩ := ih (by omega)
    refine ⟨(fb_cons (fun n e => by cases e) _).2 ⟨?_, h1⟩, ?_⟩
    · show x.ht + cnt (r.map It.fl ++ K) ≤ 15
      rw [h2]; omega
    · show cnt (.fl x :: (r.map It.fl ++ K)) = _
      rw [cnt_cons (fun n e => by cases e), h2, List.length_cons]; omega
theorem pick_ht {t : Tv} {p : Pk} {i : It} (h : Pk.pick t p = some i) : i.ht ≤ max 1 p.ht ∧ ∀ n, i ≠ .lv n := by
  cases p with
  | fn d =>
    simp only [Pk.pick, Option.map_eq_some_iff] at h
    obtain ⟨m, hm, rfl⟩ := h
    have := dk_pick hm
    refine ⟨?_, fun n e => by cases e⟩
    rcases this with rfl | rfl | rfl | rfl | rfl | rfl | rfl <;> exact Nat.le_refl 1
  | row r =>
    simp only [Pk.pick] at h
    split at h
    · cases h; exact ⟨Nat.le_refl _, fun n e => by cases e⟩
    · cases h
  | ex m =>
    simp only [Pk.pick] at h
    split at h
    · cases h
    · cases h; exact ⟨by show (Fl.mt m).ht ≤ max 1 (Fl.mt m).ht; omega, fun n e => by cases e⟩
def Gw.fb (m : M) : Gw → Prop
  | .ref => True
  | .ex r => ∀ K, (Fl.mt m).ht + cnt K ≤ 15 → Go.Proofs.Ytkigadnkclkopaa.fb K → Go.Proofs.Ytkigadnkclkopaa.fb (r ++ K)
  | .op nd r => ∀ K, Go.Proofs.Ytkigadnkclkopaa.fb K → Go.Proofs.Ytkigadnkclkopaa.fb (r ++ .lv nd :: K)
theorem row_fb (t : Tv) (m : M) : (M.row t m).fb m := by
  cases m <;> simp only [M.row, wordedR] <;> (repeat' split) <;> simp [Gw.fb, fb, cnt, It.ht, Fl.ht, Pk.ht, rh]
  all_goals (intro K h1 h2; simp only [h2, and_true]; omega)
theorem step_fb {t : Tv} {i : It} {d : Int} {o : List Ev} {r K : List It} (h : It.step t i = .go d o r) (hf : fb (i :: K)) : fb (r ++ K) := by
  cases i with
  | fl x =>
    obtain ⟨h1, h2⟩ := (fb_cons (fun n e => by cases e) K).1 hf
    have hm : ∃ m, x = .mt m := by
      cases x with
      | mt m => exact ⟨m, rfl⟩
      | _ => simp only [It.step, Fl.step] at h; split at h <;> cases h
    obtain ⟨m, rfl⟩ := hm
    have hr := row_fb t m
    simp only [It.step, Fl.step] at h
    cases hrow : M.row t m with
    | ref => rw [hrow] at h; cases h
    | ex r' => rw [hrow] at h hr; cases h; exact hr K h1 h2
    | op nd r' => rw [hrow] at h hr; cases h; rw [List.append_assoc]; exact hr K h2
  | lv n => cases h; exact hf
  | once p =>
    obtain ⟨h1, h2⟩ := (fb_cons (fun n e => by cases e) K).1 hf
    simp only [It.step] at h
    cases hp : Pk.pick t p with
    | none => rw [hp] at h; cases h; exact h2
    | some j =>
      rw [hp] at h
      cases h
      obtain ⟨a, b⟩ := pick_ht hp
      exact (fb_cons b K).2 ⟨by simp only [It.ht] at h1; omega, h2⟩
  | again p =>
    have hn : ∀ n, It.again p ≠ .lv n := fun n e => by cases e
    obtain ⟨h1, h2⟩ := (fb_cons hn K).1 hf
    simp only [It.step] at h
    cases hp : Pk.pick t p with
    | none => rw [hp] at h; cases h; exact h2
    | some j =>
      rw [hp] at h
      cases h
      obtain ⟨a, b⟩ := pick_ht hp
      refine (fb_cons b _).2 ⟨?_, hf⟩
      show j.ht + cnt (.again p :: K) ≤ 15
      rw [cnt_cons hn]
      simp only [It.ht] at h1
      omega
  | all r' =>
    obtain ⟨h1, h2⟩ := (fb_cons (fun n e => by cases e) K).1 hf
    cases h
    exact (fb_row r' K (by simp only [It.ht] at h1; omega) h2).1

/-! Events nest. -/
/-- The nodes that are open behind events (the innermost first). -/
def play : List Int → List Ev → Option (List Int)
  | s, [] => some s
  | s, e :: r => if e.k = 1 then play (e.n :: s) r else if e.k = 3 then (match s with | n :: s' => if n = e.n then play s' r else none | [] => none) else play s r
theorem play_app : ∀ (a b : List Ev) (s s' : List Int), play s a = some s' → play s (a ++ b) = play s' b
  | [], b, s, s', h => by cases h; rfl
  | e :: r, b, s, s', h => by
    simp only [play, List.cons_append] at h ⊢
    split
    · rename_i h1; rw [if_pos h1] at h; exact play_app r b _ _ h
    · rename_i h1
      rw [if_neg h1] at h
      split
      · rename_i h2
        rw [if_pos h2] at h
        cases s with
        | nil => cases h
        | cons n s =>
          simp only at h ⊢
          split
          · rename_i h3; rw [if_pos h3] at h; exact play_app r b _ _ h
          · rename_i h3; rw [if_neg h3] at h; cases h
      · rename_i h2; rw [if_neg h2] at h; exact play_app r b _ _ h
theorem step_play {t : Tv} {i : It} {d : Int} {o : List Ev} {r K : List It} (h : It.step t i = .go d o r) (hi : i.wf) : play (lvs (i :: K)) o = some (lvs (r ++ K)) := by
  have hk := step_ok (K := K) h hi
  cases i with
  | fl x =>
    have hm : ∃ m, x = .mt m := by
      cases x with
      | mt m => exact ⟨m, rfl⟩
      | _ => simp only [It.step, Fl.step] at h; split at h <;> cases h
    obtain ⟨m, rfl⟩ := hm
    have hr := row_ok t m
    simp only [It.step, Fl.step] at h
    cases hrow : M.row t m with
    | ref => rw [hrow] at h; cases h
    | ex r' => rw [hrow] at h hr; cases h; rw [lvs_app, hr.2.2]; rfl
    | op nd r' => rw [hrow] at h hr; cases h; rw [lvs_app, lvs_app, hr.2.2.1]; rfl
  | lv n => cases h; simp [play, lvs]
  | once p =>
    simp only [It.step] at h
    cases hp : Pk.pick t p with
    | none => rw [hp] at h; cases h; rfl
    | some j => rw [hp] at h; cases h; show some (lvs K) = some (lvs ([j] ++ K)); rw [lvs_app, (pick_wf hi hp).2]; rfl
  | again p =>
    simp only [It.step] at h
    cases hp : Pk.pick t p with
    | none => rw [hp] at h; cases h; rfl
    | some j => rw [hp] at h; cases h; show some (lvs K) = some (lvs ([j] ++ ([.again p] ++ K))); rw [lvs_app, (pick_wf hi hp).2]; rfl
  | all r' => cases h; rw [lvs_app, lvs_fl]; rfl

/-! Put, again and again. -/
/-- What holds between two calls. -/
structure Ok (K : List It) (n : Int) : Prop where
  wf : wfs K
  fb : fb K
  lv : ((lvs K).length : Int) = n
  le : n ≤ 1000
theorem Ok.lz {K : List It} {n : Int} (h : Ok K n) : Lz K n := by
  have h1 := h.lv
  have h2 := h.le
  have h3 := fb_len h.fb
  have h4 := fb_cnt h.fb
  exact ⟨h.wf, h.lv, by omega, by omega⟩
theorem ru_keep {t : Tv} {k : Nat} {K : List It} {n : Int} {E : List Ev} {R : Ro} (h : Ru t k K n E R) : ∀ {L : List It} {m : Int} {F : List Ev}, R = .yes L m F → wfs K → fb K → ((lvs K).length : Int) = n →
    wfs L ∧ fb L ∧ ((lvs L).length : Int) = m ∧ ∃ o, F = E ++ o ∧ play (lvs K) o = some (lvs L) ∧ (∀ e ∈ o, e.d = tv0 ∧ (e.k = 1 ∨ e.k = 3) ∧ (e.k = 1 → e.n ≠ 1)) ∧ o.length ≤ k := by
  induction h with
  | nil => intro L m F h; cases h
  | ref _ => intro L m F h; cases h
  | tk hs =>
    rename_i i K n E
    intro L m F h hw hf hn
    cases h
    have hl : ∀ a, i ≠ .lv a := fun a e => by subst e; cases hs
    have e : lvs (i :: K) = lvs K := by
      cases i with
      | lv a => exact absurd rfl (hl a)
      | _ => rfl
    rw [e] at hn
    exact ⟨fun j hj => hw j (List.mem_cons_of_mem _ hj), ((fb_cons hl K).1 hf).2, hn, [], by simp, by rw [e]; rfl, fun x hx => by simp at hx, Nat.zero_le _⟩
  | go hs _ ih =>
    rename_i k i K n d E o r R _
    intro L m F h hw hf hn
    have hi := hw i (List.mem_cons_self ..)
    obtain ⟨a1, a2, a3, a4⟩ := step_ok (K := K) hs hi
    obtain ⟨b1, b2, b3, o2, b4, b5, b6, b7⟩ := ih h (wfs_app a1 (fun j hj => hw j (List.mem_cons_of_mem _ hj))) (step_fb hs hf) (by omega)
    refine ⟨b1, b2, b3, o ++ o2, by rw [b4, List.append_assoc], (play_app o o2 _ _ (step_play hs hi)).trans b5, ?_, by simp; omega⟩
    intro x hx
    rcases List.mem_append.1 hx with hx | hx
    · cases i with
      | fl y =>
        have hm : ∃ m, y = .mt m := by
          cases y with
          | mt m => exact ⟨m, rfl⟩
          | _ => simp only [It.step, Fl.step] at hs; split at hs <;> cases hs
        obtain ⟨mm, rfl⟩ := hm
        have hr := row_ok t mm
        simp only [It.step, Fl.step] at hs
        cases hrow : M.row t mm with
        | ref => rw [hrow] at hs; cases hs
        | ex r' => rw [hrow] at hs; cases hs; simp at hx
        | op nd r' => rw [hrow] at hs hr; cases hs; simp at hx; subst hx; exact ⟨rfl, .inl rfl, fun _ => by have := hr.2.2.2.1; show nd ≠ 1; omega⟩
      | lv a => cases hs; simp at hx; subst hx; exact ⟨rfl, .inr rfl, fun e => by cases e⟩
      | once p => cases hs; simp at hx
      | again p => cases hs; simp at hx
      | all r' => cases hs; simp at hx
    · exact b6 x hx
theorem ok_beg {K : List It} {n : Int} (h : Ok K n) (h0 : n = 0 → K = []) : wfs (beg K n) ∧ fb (beg K n) ∧ ((lvs (beg K n)).length : Int) = begN n ∧ play (lvs K) (begE n) = some (lvs (beg K n)) ∧ (beg K n).length ≤ 20000 := by
  have hz := h.lz
  have h3 := fb_len h.fb
  have h4 := fb_cnt h.fb
  have h1 := h.lv
  have h2 := h.le
  by_cases hn : n = 0
  · obtain rfl := h0 hn
    subst hn
    refine ⟨?_, ?_, rfl, rfl, by simp [beg, progR]⟩
    · intro i hi
      simp [beg, progR] at hi
      rcases hi with rfl | rfl | rfl | rfl | rfl | rfl <;> trivial
    · simp [beg, progR, fb, It.ht, Fl.ht, cnt]
  · have hb : (n == 0) = false := by simpa using hn
    simp only [beg, begN, begE, hb, Bool.false_eq_true, if_false]
    exact ⟨h.wf, h.fb, h.lv, rfl, by omega⟩

end Go.Proofs.Ytkigadnkclkopaa
