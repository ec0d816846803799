import Derived.Test.YtkglkhijngpgiaaGreatCv
import Derived.Maps.AppendAt
import Derived.Laws.AppendOwnNone
set_option linter.unusedVariables false
set_option linter.unusedSimpArgs false
namespace Go.Proofs.YtkglkhijngpgiaaGreat
open Go.RowKit

/-! How much is to come within a node: at most so many states at once (no memory). -/
def Fl.ht : Fl → Nat
  | .mt .typed => 5
  | .mt .list => 3
  | _ => 1
def rh : List Fl → Nat
  | [] => 0
  | x :: r => max (x.ht + r.length) (rh r)
def Pk.ht : Pk → Nat
  | .row r => rh r
  | .fn _ => 1
  | .ex m => (Fl.mt m).ht
def It.ht : It → Nat
  | .fl x => x.ht
  | .lv _ => 0
  | .once p => max 1 p.ht
  | .again p => 1 + max 1 p.ht
  | .all r => max 1 (rh r)
/-- How many stand ahead of the node's end. -/
def cnt : List It → Nat
  | [] => 0
  | .lv _ :: _ => 0
  | _ :: K => 1 + cnt K
def fb : List It → Prop
  | [] => True
  | .lv _ :: K => fb K
  | i :: K => i.ht + cnt K ≤ 15 ∧ fb K
theorem Fl.ht_pos (x : Fl) : 1 ≤ x.ht := by
  cases x with
  | mt m => cases m <;> decide
  | _ => exact Nat.le_refl _
theorem It.ht_pos (i : It) (h : ∀ n, i ≠ .lv n) : 1 ≤ i.ht := by
  cases i with
  | fl x => exact x.ht_pos
  | lv n => exact absurd rfl (h n)
  | once p => simp only [It.ht]; omega
  | again p => simp only [It.ht]; omega
  | all r => simp only [It.ht]; omega
theorem cnt_cons {i : It} (h : ∀ n, i ≠ .lv n) (K : List It) : cnt (i :: K) = 1 + cnt K := by
  cases i with
  | lv n => exact absurd rfl (h n)
  | _ => rfl
theorem fb_cons {i : It} (h : ∀ n, i ≠ .lv n) (K : List It) : fb (i :: K) ↔ i.ht + cnt K ≤ 15 ∧ fb K := by
  cases i with
  | lv n => exact absurd rfl (h n)
  | _ => exact Iff.rfl
theorem fb_cnt : ∀ {K : List It}, fb K → cnt K ≤ 15
  | [], _ => Nat.zero_le _
  | i :: K, h => by
    by_cases hl : ∃ n, i = .lv n
    · obtain ⟨n, rfl⟩ := hl; exact Nat.zero_le _
    · have hn : ∀ n, i ≠ .lv n := fun n e => hl ⟨n, e⟩
      have h1 := ((fb_cons hn K).1 h).1
      have := i.ht_pos hn
      rw [cnt_cons hn]
      omega
theorem fb_len : ∀ {K : List It}, fb K → K.length ≤ 16 * (lvs K).length + cnt K
  | [], _ => Nat.zero_le _
  | i :: K, h => by
    by_cases hl : ∃ n, i = .lv n
    · obtain ⟨n, rfl⟩ := hl
      have h' : fb K := h
      have := fb_len h'
      have := fb_cnt h'
      simp [lvs, cnt]
      omega
    · have hn : ∀ n, i ≠ .lv n := fun n e => hl ⟨n, e⟩
      have := fb_len ((fb_cons hn K).1 h).2
      have e : lvs (i :: K) = lvs K := by
        cases i with
        | lv n => exact absurd rfl (hn n)
        | _ => rfl
      rw [cnt_cons hn, e]
      simp
      omega
theorem fb_row (r : List Fl) (K : List It) (h : rh r + cnt K ≤ 15) (hK : fb K) : fb (r.map It.fl ++ K) ∧ cnt (r.map It.fl ++ K) = r.length + cnt K := by
  induction r with
  | nil => exact ⟨hK, by simp⟩
  | cons x r ih =>
    simp only [rh] at h
    obtain ⟨h1, h2⟩ := ih (by omega)
    refine ⟨(fb_cons (fun n e => by cases e) _).2 ⟨?_, h1⟩, ?_⟩
    · show x.ht + cnt (r.map It.fl ++ K) ≤ 15
      rw [h2]; omega
    · show cnt (.fl x :: (r.map It.fl ++ K)) = _
      rw [cnt_cons (fun n e => by cases e), h2, List.length_cons]; omega
theorem pick_ht {t : Tv} {p : Pk} {i : It} (h : Pk.pick t p = some i) : i.ht ≤ max 1 p.ht ∧ ∀ n, i ≠ .lv n := by
  cases p with
  | fn d =>
    simp only [Pk.pick, Option.map_eq_some_iff] at h
    obtain ⟨m, hm, rfl⟩ := h
    have := dk_pick hm
    refine ⟨?_, fun n e => by cases e⟩
    rcases this with rfl | rfl | rfl | rfl | rfl | rfl | rfl <;> exact Nat.le_refl 1
  | row r =>
    simp only [Pk.pick] at h
    split at h
    · cases h; exact ⟨Nat.le_refl _, fun n e => by cases e⟩
    · cases h
  | ex m =>
    simp only [Pk.pick] at h
    split at h
    · cases h
    · cases h; exact ⟨by show (Fl.mt m).ht ≤ max 1 (Fl.mt m).ht; omega, fun n e => by cases e⟩
def Rw.fb (m : M) : Rw → Prop
  | .ref => True
  | .ex r => ∀ K, (Fl.mt m).ht + cnt K ≤ 15 → Go.Proofs.YtkglkhijngpgiaaGreat.fb K → Go.Proofs.YtkglkhijngpgiaaGreat.fb (r ++ K)
  | .op nd r => ∀ K, Go.Proofs.YtkglkhijngpgiaaGreat.fb K → Go.Proofs.YtkglkhijngpgiaaGreat.fb (r ++ .lv nd :: K)
theorem row_fb (t : Tv) (m : M) : (M.row t m).fb m := by
  cases m <;> simp only [M.row, wordedR] <;> (repeat' split) <;> simp [Rw.fb, fb, cnt, It.ht, Fl.ht, Pk.ht, rh]
  all_goals (intro K h1 h2; simp only [h2, and_true]; omega)
theorem step_fb {t : Tv} {i : It} {d : Int} {o : List Ev} {r K : List It} (h : It.step t i = .go d o r) (hf : fb (i :: K)) : fb (r ++ K) := by
  cases i with
  | fl x =>
    obtain ⟨h1, h2⟩ := (fb_cons (fun n e => by cases e) K).1 hf
    have hm : ∃ m, x = .mt m := by
      cases x with
      | mt m => exact ⟨m, rfl⟩
      | _ => simp only [It.step, Fl.step] at h; split at h <;> cases h
    obtain ⟨m, rfl⟩ := hm
    have hr := row_fb t m
    simp only [It.step, Fl.step] at h
    cases hrow : M.row t m with
    | ref => rw [hrow] at h; cases h
    | ex r' => rw [hrow] at h hr; cases h; exact hr K h1 h2
    | op nd r' => rw [hrow] at h hr; cases h; rw [List.append_assoc]; exact hr K h2
  | lv n => cases h; exact hf
  | once p =>
    obtain ⟨h1, h2⟩ := (fb_cons (fun n e => by cases e) K).1 hf
    simp only [It.step] at h
    cases hp : Pk.pick t p with
    | none => rw [hp] at h; cases h; exact h2
    | some j =>
      rw [hp] at h
      cases h
      obtain ⟨a, b⟩ := pick_ht hp
      exact (fb_cons b K).2 ⟨by simp only [It.ht] at h1; omega, h2⟩
  | again p =>
    have hn : ∀ n, It.again p ≠ .lv n := fun n e => by cases e
    obtain ⟨h1, h2⟩ := (fb_cons hn K).1 hf
    simp only [It.step] at h
    cases hp : Pk.pick t p with
    | none => rw [hp] at h; cases h; exact h2
    | some j =>
      rw [hp] at h
      cases h
      obtain ⟨a, b⟩ := pick_ht hp
      refine (fb_cons b _).2 ⟨?_, hf⟩
      show j.ht + cnt (.again p :: K) ≤ 15
      rw [cnt_cons hn]
      simp only [It.ht] at h1
      omega
  | all r' =>
    obtain ⟨h1, h2⟩ := (fb_cons (fun n e => by cases e) K).1 hf
    cases h
    exact (fb_row r' K (by simp only [It.ht] at h1; omega) h2).1

/-! Events nest. -/
/-- The nodes that are open behind events (the innermost first). -/
def play : List Int → List Ev → Option (List Int)
  | s, [] => some s
  | s, e :: r => if e.k = 1 then play (e.n :: s) r else if e.k = 3 then (match s with | n :: s' => if n = e.n then play s' r else none | [] => none) else play s r
theorem play_app : ∀ (a b : List Ev) (s s' : List Int), play s a = some s' → play s (a ++ b) = play s' b
  | [], b, s, s', h => by cases h; rfl
  | e :: r, b, s, s', h => by
    simp only [play, List.cons_append] at h ⊢
    split
    · rename_i h1; rw [if_pos h1] at h; exact play_app r b _ _ h
    · rename_i h1
      rw [if_neg h1] at h
      split
      · rename_i h2
        rw [if_pos h2] at h
        cases s with
        | nil => cases h
        | cons n s =>
          simp only at h ⊢
          split
          · rename_i h3; rw [if_pos h3] at h; exact play_app r b _ _ h
          · rename_i h3; rw [if_neg h3] at h; cases h
      · rename_i h2; rw [if_neg h2] at h; exact play_app r b _ _ h
theorem step_play {t : Tv} {i : It} {d : Int} {o : List Ev} {r K : List It} (h : It.step t i = .go d o r) (hi : i.wf) : play (lvs (i :: K)) o = some (lvs (r ++ K)) := by
  have hk := step_ok (K := K) h hi
  cases i with
  | fl x =>
    have hm : ∃ m, x = .mt m := by
      cases x with
      | mt m => exact ⟨m, rfl⟩
      | _ => simp only [It.step, Fl.step] at h; split at h <;> cases h
    obtain ⟨m, rfl⟩ := hm
    have hr := row_ok t m
    simp only [It.step, Fl.step] at h
    cases hrow : M.row t m with
    | ref => rw [hrow] at h; cases h
    | ex r' => rw [hrow] at h hr; cases h; rw [lvs_app, hr.2.2]; rfl
    | op nd r' => rw [hrow] at h hr; cases h; rw [lvs_app, lvs_app, hr.2.2.1]; rfl
  | lv n => cases h; simp [play, lvs]
  | once p =>
    simp only [It.step] at h
    cases hp : Pk.pick t p with
    | none => rw [hp] at h; cases h; rfl
    | some j => rw [hp] at h; cases h; show some (lvs K) = some (lvs ([j] ++ K)); rw [lvs_app, (pick_wf hi hp).2]; rfl
  | again p =>
    simp only [It.step] at h
    cases hp : Pk.pick t p with
    | none => rw [hp] at h; cases h; rfl
    | some j => rw [hp] at h; cases h; show some (lvs K) = some (lvs ([j] ++ ([.again p] ++ K))); rw [lvs_app, (pick_wf hi hp).2]; rfl
  | all r' => cases h; rw [lvs_app, lvs_fl]; rfl

/-! Put, again and again. -/
/-- What holds between two calls. -/
structure Ok (K : List It) (n : Int) : Prop where
  wf : wfs K
  fb : fb K
  lv : ((lvs K).length : Int) = n
  le : n ≤ 1000
theorem Ok.lz {K : List It} {n : Int} (h : Ok K n) : Lz K n := by
  have h1 := h.lv
  have h2 := h.le
  have h3 := fb_len h.fb
  have h4 := fb_cnt h.fb
  exact ⟨h.wf, h.lv, by omega, by omega⟩
theorem ru_keep {t : Tv} {k : Nat} {K : List It} {n : Int} {E : List Ev} {R : Ro} (h : Ru t k K n E R) : ∀ {L : List It} {m : Int} {F : List Ev}, R = .yes L m F → wfs K → fb K → ((lvs K).length : Int) = n →
    wfs L ∧ fb L ∧ ((lvs L).length : Int) = m ∧ ∃ o, F = E ++ o ∧ play (lvs K) o = some (lvs L) ∧ (∀ e ∈ o, e.d = tv0 ∧ (e.k = 1 ∨ e.k = 3) ∧ (e.k = 1 → e.n ≠ 1)) ∧ o.length ≤ k := by
  induction h with
  | nil => intro L m F h; cases h
  | ref _ => intro L m F h; cases h
  | tk hs =>
    rename_i i K n E
    intro L m F h hw hf hn
    cases h
    have hl : ∀ a, i ≠ .lv a := fun a e => by subst e; cases hs
    have e : lvs (i :: K) = lvs K := by
      cases i with
      | lv a => exact absurd rfl (hl a)
      | _ => rfl
    rw [e] at hn
    exact ⟨fun j hj => hw j (List.mem_cons_of_mem _ hj), ((fb_cons hl K).1 hf).2, hn, [], by simp, by rw [e]; rfl, fun x hx => by simp at hx, Nat.zero_le _⟩
  | go hs _ ih =>
    rename_i k i K n d E o r R _
    intro L m F h hw hf hn
    have hi := hw i (List.mem_cons_self ..)
    obtain ⟨a1, a2, a3, a4⟩ := step_ok (K := K) hs hi
    obtain ⟨b1, b2, b3, o2, b4, b5, b6, b7⟩ := ih h (wfs_app a1 (fun j hj => hw j (List.mem_cons_of_mem _ hj))) (step_fb hs hf) (by omega)
    refine ⟨b1, b2, b3, o ++ o2, by rw [b4, List.append_assoc], (play_app o o2 _ _ (step_play hs hi)).trans b5, ?_, by simp; omega⟩
    intro x hx
    rcases List.mem_append.1 hx with hx | hx
    · cases i with
      | fl y =>
        have hm : ∃ m, y = .mt m := by
          cases y with
          | mt m => exact ⟨m, rfl⟩
          | _ => simp only [It.step, Fl.step] at hs; split at hs <;> cases hs
        obtain ⟨mm, rfl⟩ := hm
        have hr := row_ok t mm
        simp only [It.step, Fl.step] at hs
        cases hrow : M.row t mm with
        | ref => rw [hrow] at hs; cases hs
        | ex r' => rw [hrow] at hs; cases hs; simp at hx
        | op nd r' => rw [hrow] at hs hr; cases hs; simp at hx; subst hx; exact ⟨rfl, .inl rfl, fun _ => by have := hr.2.2.2.1; show nd ≠ 1; omega⟩
      | lv a => cases hs; simp at hx; subst hx; exact ⟨rfl, .inr rfl, fun e => by cases e⟩
      | once p => cases hs; simp at hx
      | again p => cases hs; simp at hx
      | all r' => cases hs; simp at hx
    · exact b6 x hx
theorem ok_beg {K : List It} {n : Int} (h : Ok K n) (h0 : n = 0 → K = []) : wfs (beg K n) ∧ fb (beg K n) ∧ ((lvs (beg K n)).length : Int) = begN n ∧ play (lvs K) (begE n) = some (lvs (beg K n)) ∧ (beg K n).length ≤ 20000 := by
  have hz := h.lz
  have h3 := fb_len h.fb
  have h4 := fb_cnt h.fb
  have h1 := h.lv
  have h2 := h.le
  by_cases hn : n = 0
  · obtain rfl := h0 hn
    subst hn
    refine ⟨?_, ?_, rfl, rfl, by simp [beg, progR]⟩
    · intro i hi
      simp [beg, progR] at hi
      rcases hi with rfl | rfl | rfl | rfl | rfl | rfl <;> trivial
    · simp [beg, progR, fb, It.ht, Fl.ht, cnt]
  · have hb : (n == 0) = false := by simpa using hn
    simp only [beg, begN, begE, hb, Bool.false_eq_true, if_false]
    exact ⟨h.wf, h.fb, h.lv, rfl, by omega⟩

end Go.Proofs.YtkglkhijngpgiaaGreat

set_option linter.unusedVariables false
set_option linter.unusedSimpArgs false
namespace Go.Proofs.YtkglkhijngpgiaaGreat
open Go.RowKit

/-! All tokens, one behind the other (no memory). -/
/-- At the bottom stands Program's end. -/
def Bot (K : List It) : Prop := ∃ X, K = X ++ [.lv 1]
theorem ru_bot {t : Tv} {k : Nat} {K : List It} {n : Int} {E : List Ev} {R : Ro} (h : Ru t k K n E R) : ∀ {L : List It} {m : Int} {F : List Ev}, R = .yes L m F → Bot K → Bot L := by
  induction h with
  | nil => intro L m F h; cases h
  | ref _ => intro L m F h; cases h
  | tk hs =>
    rename_i i K n E
    intro L m F h hb
    cases h
    obtain ⟨X, hX⟩ := hb
    cases X with
    | nil => simp at hX; obtain ⟨rfl, rfl⟩ := hX; cases hs
    | cons j X => simp at hX; exact ⟨X, hX.2⟩
  | go hs hr ih =>
    rename_i k i K n d E o r R
    intro L m F h hb
    obtain ⟨X, hX⟩ := hb
    cases X with
    | nil =>
      simp at hX
      obtain ⟨rfl, rfl⟩ := hX
      cases hs
      cases hr
      cases h
    | cons j X =>
      simp at hX
      obtain ⟨rfl, rfl⟩ := hX
      exact ih h ⟨r ++ X, by simp⟩
theorem bot_lv {K : List It} (h : Bot K) : 1 ≤ (lvs K).length := by
  obtain ⟨X, rfl⟩ := h
  rw [lvs_app]
  simp [lvs]
def Good : St → Prop
  | .live K n => Ok K n ∧ ((n = 0 ∧ K = []) ∨ Bot K)
  | .stuck e n => e = 120 ∨ e = 122
  | .shut => True
theorem Good.ok {st : St} (h : Good st) : st.ok := by
  cases st with
  | live K n => exact h.1.lz
  | stuck e n =>
    show e ≠ 0
    rcases h with rfl | rfl <;> decide
  | shut => trivial
theorem good_new : Good (.live [] 0) := ⟨⟨wfs_nil, trivial, rfl, by decide⟩, .inl ⟨rfl, rfl⟩⟩
/-- The nodes that are open. -/
def St.path : St → List Int
  | .live K _ => lvs K
  | _ => []
theorem good_beg {K : List It} {n : Int} (h : Good (.live K n)) : wfs (beg K n) ∧ fb (beg K n) ∧ ((lvs (beg K n)).length : Int) = begN n ∧ play (lvs K) (begE n) = some (lvs (beg K n)) ∧ (beg K n).length ≤ 20000 ∧ Bot (beg K n) ∧ begN n ≤ 1000 ∧ (begE n).length ≤ 1 := by
  have hn0 : n = 0 → K = [] := by
    intro e
    rcases h.2 with h2 | h2
    · exact h2.2
    · have := bot_lv h2; have := h.1.lv; omega
  obtain ⟨b1, b2, b3, b4, b5⟩ := ok_beg h.1 hn0
  have hle := h.1.le
  refine ⟨b1, b2, b3, b4, b5, ?_, by unfold begN; split <;> omega, by unfold begE; split <;> simp⟩
  by_cases e : n = 0
  · obtain rfl := hn0 e
    subst e
    exact ⟨progR, by simp [beg]⟩
  · rcases h.2 with h2 | h2
    · exact absurd h2.1 e
    · have hb : (n == 0) = false := by simpa using e
      simp only [beg, hb, Bool.false_eq_true, if_false]
      exact h2
/-- What Put keeps. -/
theorem put_keep {st st' : St} {t : Tv} {ev : List Ev} {code : Int} (h : Good st) (hp : Putr t st ev code st') : Good st' ∧ ev.length ≤ 30000 ∧ (code = 0 → ∃ K n, st' = .live K n ∧ Bot K) ∧ (code = 0 → play st.path ev = some st'.path) := by
  cases hp with
  | shut => exact ⟨trivial, by simp, fun h => (by cases h), fun h => (by cases h)⟩
  | stuck => exact ⟨h, by simp, fun h0 => (by subst h0; rcases h with h | h <;> cases h), fun h0 => (by subst h0; rcases h with h | h <;> cases h)⟩
  | note hc =>
    obtain ⟨b1, b2, b3, b4, b5, hbot, hbn, hbe⟩ := good_beg h
    refine ⟨⟨⟨b1, b2, b3, hbn⟩, .inr hbot⟩, by simp; omega, fun _ => ⟨_, _, rfl, hbot⟩, fun _ => ?_⟩
    refine (play_app _ _ _ _ b4).trans ?_
    simp [play]
    rfl
  | no hc hR hk => exact ⟨.inl rfl, by simp, fun h => (by cases h), fun h => (by cases h)⟩
  | deep hc hR hk hm => exact ⟨.inr rfl, by simp, fun h => (by cases h), fun h => (by cases h)⟩
  | yes hc hR hk hm =>
    obtain ⟨b1, b2, b3, b4, b5, hbot, hbn, hbe⟩ := good_beg h
    obtain ⟨c1, c2, c3, o, c4, c5, c6, c7⟩ := ru_keep hR rfl b1 b2 b3
    have hL := ru_bot hR rfl hbot
    refine ⟨⟨⟨c1, c2, c3, by omega⟩, .inr hL⟩, by rw [c4]; simp; omega, fun _ => ⟨_, _, rfl, hL⟩, fun _ => ?_⟩
    rw [c4, List.append_assoc]
    refine (play_app _ _ _ _ b4).trans ((play_app _ _ _ _ c5).trans ?_)
    simp [play]
    rfl
/-- Put is never without an answer. -/
theorem put_ex {st : St} (h : Good st) (t : Tv) : ∃ ev code st', Putr t st ev code st' := by
  cases st with
  | shut => exact ⟨_, _, _, .shut⟩
  | stuck e n => exact ⟨_, _, _, .stuck⟩
  | live K n =>
    obtain ⟨b1, b2, b3, b4, b5, hbot, hbn, hbe⟩ := good_beg h
    by_cases hc : (t.k == 7 || t.k == 8) = true
    · exact ⟨_, _, _, .note hc⟩
    · have hc' : (t.k == 7 || t.k == 8) = false := by simpa using hc
      obtain ⟨k, R, hk, hR⟩ := ru_ex t (beg K n) b1 (begN n) (begE n)
      cases R with
      | no => exact ⟨_, _, _, .no hc' hR hk⟩
      | yes L m F =>
        by_cases hm : 1000 < m
        · exact ⟨_, _, _, .deep hc' hR hk hm⟩
        · exact ⟨_, _, _, .yes hc' hR hk (by omega)⟩
theorem close_ex (st : St) : ∃ ev code, Clor st ev code ∧ ev.length ≤ 1 := by
  cases st with
  | live K n =>
    by_cases h : K.length = 1
    · exact ⟨_, _, .all h, by simp⟩
    · exact ⟨_, _, .open h, by simp⟩
  | stuck e n => exact ⟨_, _, .stuck, by simp⟩
  | shut => exact ⟨_, _, .shut, by simp⟩
/-- All of them, then Close: what is told, the error, at which token. -/
inductive Alr : St → List Tv → List Ev → Int → Nat → Prop
  | nil {st : St} {ev : List Ev} {code : Int} : Clor st ev code → Alr st [] ev code 0
  | err {st st' : St} {t : Tv} {l : List Tv} {ev : List Ev} {code : Int} : Putr t st ev code st' → code ≠ 0 → Alr st (t :: l) [] code 0
  | on {st st' : St} {t : Tv} {l : List Tv} {ev E : List Ev} {code : Int} {k : Nat} : Putr t st ev 0 st' → Alr st' l E code k → Alr st (t :: l) (ev ++ E) code (k + 1)
theorem alr_ex : ∀ (l : List Tv) (st : St), Good st → ∃ E code k, Alr st l E code k
  | [], st, h => by
    obtain ⟨ev, code, h1, _⟩ := close_ex st
    exact ⟨_, _, _, .nil h1⟩
  | t :: l, st, h => by
    obtain ⟨ev, code, st', h1⟩ := put_ex h t
    have h2 := (put_keep h h1).1
    by_cases hc : code = 0
    · subst hc
      obtain ⟨E, c, k, h3⟩ := alr_ex l st' h2
      exact ⟨_, _, _, .on h1 h3⟩
    · exact ⟨_, _, _, .err h1 hc⟩

theorem Alr.inv {st : St} {t : Tv} {l : List Tv} {E : List Ev} {code : Int} {k : Nat} (h : Alr st (t :: l) E code k) : (∃ ev st', Putr t st ev code st' ∧ code ≠ 0 ∧ E = [] ∧ k = 0) ∨ (∃ ev st' E2 k2, Putr t st ev 0 st' ∧ Alr st' l E2 code k2 ∧ E = ev ++ E2 ∧ k = k2 + 1) := by
  cases h with
  | err h1 h2 => exact .inl ⟨_, _, h1, h2, rfl, rfl⟩
  | on h1 h2 => exact .inr ⟨_, _, _, _, h1, h2, rfl, rfl⟩
theorem Alr.end {st : St} {E : List Ev} {code : Int} {k : Nat} (h : Alr st [] E code k) : Clor st E code ∧ k = 0 := by
  cases h with
  | nil h1 => exact ⟨h1, rfl⟩
/-- A row behind a row. -/
theorem app_evs {W : World} {ops : Array Oper} {rest : List Oper} {o : Oper} {a : Act} {Q : Exit → Act → World → Prop} (hgd : o.guard = none) (s x : Operand)
    (ho : o.op = .call { callee := .builtin .append, args := #[s, x], argTypes := #[38, 38] }) (v vx : Value) (l ds : List Ev) (hs : a.eval s = v) (hr : Re W v l)
    (hx : a.eval x = vx) (hrx : Re W vx ds) (hl : l.length + ds.length ≤ 1000000000000)
    (h : ∀ v' w', Re w' v' (l ++ ds) → Kp (fun k => v.ownBlock = some k) W w' → Nb W v v' → wpList Tryz.prog ops Q rest (a.put o.dst v') w') : wpList Tryz.prog ops Q (o :: rest) a W := by
  have hc := fun g (hg : vx.ownBlock = some g) => World.ownsRow.cells hrx hg
  obtain ⟨i0, hi, hz0, hz1, hz2⟩ := info_parts Tryz.info59
  rcases hrx.2 with ⟨rfl, h0⟩ | ⟨g, cap, cur, rfl, _⟩
  · obtain rfl : ds = [] := List.eq_nil_of_length_eq_zero h0
    refine wpList_append_own_none (P := Tryz.prog) (w := W) hgd s x 38 ho 0 59 i0 8 Tryz.underlying38 hi v _ _ hs hr hx ?_
    exact h v W (by rw [List.append_nil]; exact hr) (Kp.refl _ _) (.inl rfl)
  · refine wpList_append_own_at (P := Tryz.prog) (w := W) hgd s x 38 ho 0 59 i0 _ 8 64 Tryz.underlying38 hi hz0 hz1 hz2 rfl (by decide) v _ _ hs hr ⟨g, 0, none⟩ ds.length cap (ecs ds) hx (ecs_len ds) (hc g rfl) (ecs_one _) (by unfold maxLen; omega) (by omega) (Nat.zero_le _) ?_
    intro v' w' h1 h2 _ h4
    refine h v' w' ?_ ((Kp.of_grown h2).sub (fun k e => e.symm)) ?_
    · unfold Re
      rw [List.length_append, ecs_app]
      exact h1
    · rcases h4 with h4 | h4
      · exact .inl h4
      · exact .inr ⟨_, h4, Nat.le_refl _⟩

end Go.Proofs.YtkglkhijngpgiaaGreat

set_option linter.unusedVariables false
set_option linter.unusedSimpArgs false
namespace Go.Proofs.YtkglkhijngpgiaaGreat
open Go.RowKit

/-! The law's 'all'. -/
theorem Kp.low {S : Nat → Prop} {B : Nat} {w W W' : World} (h : Below B w W) (hk : Kp S W W') (hS : ∀ k, S k → B ≤ k) (hB : B ≤ W.heap.size) : Below B w W' :=
  ⟨hk.os.trans h.os, hk.tape.trans h.tape, hk.output.trans h.output, Nat.le_trans h.size hk.size, fun k hlt => (hk.block k (by omega) (fun hs => by have := hS k hs; omega)).trans (h.block k hlt)⟩
/-- Between two rounds. -/
structure AI (w : World) (g : Nat) (v : Value) (E : List Ev) (st : St) (S : Nat → Prop) (W : World) : Prop where
  bel : Below w.heap.size w W
  pq : Pq S W g st
  gd : Good st
  sB : ∀ k, S k → w.heap.size ≤ k ∧ k < W.heap.size
  re : Re W v E
  vB : ∀ k, v.ownBlock = some k → w.heap.size ≤ k ∧ ¬ S k
theorem AI.below {w : World} {g : Nat} {v : Value} {E : List Ev} {st : St} {S : Nat → Prop} {W W' : World} (h : AI w g v E st S W) (hb : Below W.heap.size W W') : AI w g v E st S W' :=
  ⟨h.bel.trans (hb.mono h.bel.size), h.pq.below hb, h.gd, fun k hk => ⟨(h.sB k hk).1, Nat.lt_of_lt_of_le (h.sB k hk).2 hb.size⟩, h.re.below hb, h.vB⟩
/-- Behind a call. -/
structure AJ (w : World) (g : Nat) (v x : Value) (E ev : List Ev) (st : St) (W : World) : Prop where
  rv : Re W v E
  rx : Re W x ev
  fin : ∀ v' w', Re w' v' (E ++ ev) → Kp (fun k => v.ownBlock = some k) W w' → Nb W v v' → ∃ S, AI w g v' (E ++ ev) st S w'
  ex : ∃ S, AI w g v E st S W
theorem AI.call {w : World} {g : Nat} {v : Value} {E : List Ev} {st : St} {S : Nat → Prop} {W W' : World} (h : AI w g v E st S W) {x : Value} {ev : List Ev} {st' : St} (hp : Pa S g W W' x ev st') (hg : Good st') : AJ w g v x E ev st' W' := by
  obtain ⟨S', p1, p2, p3, p4⟩ := hp.ex
  have hb : Below w.heap.size w W' := Kp.low h.bel hp.kp (fun k hk => (h.sB k hk).1) h.bel.size
  have hs' : ∀ k, S' k → w.heap.size ≤ k ∧ k < W'.heap.size := by
    intro k hk
    rcases p3 k hk with a | a
    · exact ⟨(h.sB k a).1, Nat.lt_of_lt_of_le (h.sB k a).2 hp.kp.size⟩
    · exact ⟨Nat.le_trans h.bel.size a.1, a.2⟩
  have hv : Re W' v E := h.re.kp hp.kp (fun k e => (h.vB k e).2)
  have hvS : ∀ k, v.ownBlock = some k → w.heap.size ≤ k ∧ ¬ S' k := by
    intro k e
    refine ⟨(h.vB k e).1, fun hs => ?_⟩
    rcases p3 k hs with a | a
    · exact (h.vB k e).2 a
    · have := h.re.lt k e; omega
  refine ⟨hv, hp.re, fun v' w' hr hk hn => ⟨S', ?_⟩, S', hb, p1, hg, hs', hv, hvS⟩
  refine ⟨Kp.low hb hk (fun k e => (h.vB k e).1) hb.size, p1.kp hk (fun k hs e => (hvS k e).2 hs), hg, fun k hs => ⟨(hs' k hs).1, Nat.lt_of_lt_of_le (hs' k hs).2 hk.size⟩, hr, ?_⟩
  intro k e
  rcases hn with e1 | ⟨q, e1, hq⟩
  · exact hvS k (by rw [← e1]; exact e)
  · rw [e1] at e
    simp at e
    subst e
    exact ⟨Nat.le_trans hb.size hq, fun hs => by have := (hs' _ hs).2; omega⟩
theorem Lt.cell6 {W : World} {ao : Option Addr} {l : List Tv} (h : Lt W ao l) {j : Nat} {d : Tv} (hj : l[j]? = some d) : ∃ b off, ao = some ⟨b, off, none⟩ ∧ W.cell? ⟨b, off + j * 6, none⟩ = some (.int .u8 d.k) ∧ W.cell? ⟨b, off + j * 6 + 1, none⟩ = some (.string d.t) ∧ W.cell? ⟨b, off + j * 6 + 2, none⟩ = some (.int .i64 d.a) ∧ W.cell? ⟨b, off + j * 6 + 3, none⟩ = some (.int .i64 d.l) ∧ W.cell? ⟨b, off + j * 6 + 4, none⟩ = some (.int .i64 d.c) ∧ W.cell? ⟨b, off + j * 6 + 5, none⟩ = some (.int .i64 d.f) := h j d hj

end Go.Proofs.YtkglkhijngpgiaaGreat

set_option linter.unusedVariables false
set_option linter.unusedSimpArgs false
namespace Go.Proofs.YtkglkhijngpgiaaGreat
open Go.RowKit

theorem below_dn {b : Nat} {w v : World} (h : Below b w v) : ∀ m, Below b w (v.drewN m)
  | 0 => h
  | m + 1 => (below_dn h m).drew
/-! The document's reader (no memory): the same items, but each choice looks at a token's kind too; behind an error nothing changes. -/
/-- Where it is; the nodes that the next token stands in, each with its number; the last number; the nodes of the last token; what is wrong. -/
structure D where
  i : Nat
  p : List (Int × Nat)
  s : Nat
  l : List (Int × Nat)
  e : Int
def nxt (L : List Tv) (d : D) : Option Tv := if d.e = 0 then L[d.i]? else none
def qn (L : List Tv) (d : D) (f : Tv → Bool) : Bool := (nxt L d).elim false f
def opD (n : Int) (d : D) : D := if d.e = 0 then { d with p := d.p ++ [(n, d.s + 1)], s := d.s + 1 } else d
def clD (d : D) : D := if d.e = 0 then { d with p := d.p.dropLast } else d
def tkD (L : List Tv) (r : Bool) (d : D) : D :=
  if r then (if 1000 < d.p.length then { d with e := 122 } else { d with i := d.i + 1, l := if d.i + 1 = L.length then d.p else d.l })
  else if d.e = 0 then (if d.i < L.length then { d with e := 120 } else { d with e := 121 }) else d
def wk (k : Int) (s : ByteArray) (t : Tv) : Bool := t.k == k && decide (t.t = s)
def Dk.kd : Dk → Int
  | .declaration => 2
  | _ => 6
def drow (o : Option Tv) : M → Rw
  | .kind => if o.elim false (wk 2 ⟨#[97, 114, 114, 97, 121]⟩) then .op 9 [.fl (.wd 2 [⟨#[97, 114, 114, 97, 121]⟩]), .fl (.wd 6 [⟨#[91]⟩]), .fl (.mt .expr), .fl (.wd 6 [⟨#[46, 46]⟩]), .fl (.mt .expr), .fl (.wd 6 [⟨#[93]⟩]), .fl (.wd 2 [⟨#[111, 102]⟩]), .fl (.mt .kind)]
    else if o.elim false (wk 2 ⟨#[114, 101, 99, 111, 114, 100]⟩) then .op 10 [.fl (.wd 2 [⟨#[114, 101, 99, 111, 114, 100]⟩]), .fl (.mt .member), .again (.row [.wd 6 [⟨#[59]⟩], .mt .member]), .fl (.wd 2 [⟨#[101, 110, 100]⟩])] else .op 8 [.fl .nm]
  | .statement => match o with
    | none => .ref
    | some t => if t.k == 1 then .op 14 [.fl (.mt .object), .once (.row [.wd 6 [⟨#[58, 61]⟩], .mt .expr])] else if t.k == 2 then wordedR t.t else .ref
  | .factor => match o with
    | none => .ref
    | some t => M.row t .factor
  | m => M.row tv0 m
def dpick (o : Option Tv) (p : Pk) : Option It :=
  match o with
  | none => none
  | some t => match p with
    | .fn d => if t.k == d.kd then (d.pick t).map (fun m => .fl (.mt m)) else none
    | p => Pk.pick t p
/-- One step: what comes in an item's place, and the state. -/
def dst (L : List Tv) : It → D → List It × D
  | .fl (.mt m), d => match drow (nxt L d) m with
    | .ref => ([], tkD L false d)
    | .ex r => (r, d)
    | .op nd r => (r ++ [.lv nd], opD nd d)
  | .fl x, d => ([], tkD L (qn L d (fun t => x.takes t)) d)
  | .lv _, d => ([], clD d)
  | .once p, d => ((dpick (nxt L d) p).toList, d)
  | .again p, d => (agR p (dpick (nxt L d) p), d)
  | .all r, d => (r.map It.fl, d)
inductive Rch (L : List Tv) : List It → D → List It → D → Prop
  | refl {K : List It} {d : D} : Rch L K d K d
  | step {i : It} {K K' : List It} {d d' : D} : Rch L ((dst L i d).1 ++ K) (dst L i d).2 K' d' → Rch L (i :: K) d K' d'
theorem Rch.trans {L : List Tv} {K K1 K2 : List It} {d d1 d2 : D} (h : Rch L K d K1 d1) (h' : Rch L K1 d1 K2 d2) : Rch L K d K2 d2 := by
  induction h with
  | refl => exact h'
  | step _ ih => exact .step (ih h')
theorem Rch.under {L : List Tv} {K K1 : List It} {d d1 : D} (h : Rch L K d K1 d1) (X : List It) : Rch L (K ++ X) d (K1 ++ X) d1 := by
  induction h with
  | refl => exact .refl
  | step _ ih => exact .step (by rw [List.append_assoc] at ih; exact ih)
/-- It goes one way. -/
theorem Rch.det {L : List Tv} {K K1 : List It} {d d1 d2 : D} (h : Rch L K d K1 d1) (h' : Rch L K d [] d2) : Rch L K1 d1 [] d2 := by
  induction h with
  | refl => exact h'
  | step _ ih =>
    cases h' with
    | step h2 => exact ih h2
/-- An item goes from a state to a state. -/
def Ib (L : List Tv) (i : It) (d d' : D) : Prop := ∀ K, Rch L (i :: K) d K d'
/-- So does a row. -/
def Rb (L : List Tv) (r : List It) (d d' : D) : Prop := ∀ K, Rch L (r ++ K) d K d'
theorem rb_nil {L : List Tv} {d : D} : Rb L [] d d := fun K => .refl
theorem rb_cons {L : List Tv} {i : It} {r : List It} {d d1 d2 : D} (h : Ib L i d d1) (h' : Rb L r d1 d2) : Rb L (i :: r) d d2 := fun K => (h (r ++ K)).trans (h' K)
theorem ib_tk {L : List Tv} {d : D} {x : Fl} (hx : ∀ m, x ≠ .mt m) : Ib L (.fl x) d (tkD L (qn L d (fun t => x.takes t)) d) := fun K => by
  refine .step ?_
  cases x with
  | mt m => exact absurd rfl (hx m)
  | _ => exact .refl
theorem ib_lv {L : List Tv} {d : D} {n : Int} : Ib L (.lv n) d (clD d) := fun K => .step .refl
theorem ib_op {L : List Tv} {d d' : D} {m : M} {nd : Int} {r : List It} (h : drow (nxt L d) m = .op nd r) (h' : Rb L (r ++ [.lv nd]) (opD nd d) d') : Ib L (.fl (.mt m)) d d' := fun K => by
  refine .step ?_
  have e : dst L (.fl (.mt m)) d = (r ++ [.lv nd], opD nd d) := by simp only [dst, h]
  rw [e]
  exact h' K
theorem ib_ex {L : List Tv} {d d' : D} {m : M} {r : List It} (h : drow (nxt L d) m = .ex r) (h' : Rb L r d d') : Ib L (.fl (.mt m)) d d' := fun K => by
  refine .step ?_
  have e : dst L (.fl (.mt m)) d = (r, d) := by simp only [dst, h]
  rw [e]
  exact h' K
theorem ib_ref {L : List Tv} {d : D} {m : M} (h : drow (nxt L d) m = .ref) : Ib L (.fl (.mt m)) d (tkD L false d) := fun K => by
  refine .step ?_
  have e : dst L (.fl (.mt m)) d = ([], tkD L false d) := by simp only [dst, h]
  rw [e]
  exact .refl
theorem ib_all {L : List Tv} {d d' : D} {r : List Fl} (h : Rb L (r.map It.fl) d d') : Ib L (.all r) d d' := fun K => .step (h K)
theorem ib_once0 {L : List Tv} {d : D} {p : Pk} (h : dpick (nxt L d) p = none) : Ib L (.once p) d d := fun K => by
  refine .step ?_
  simp only [dst, h]
  exact .refl
theorem ib_once1 {L : List Tv} {d d' : D} {p : Pk} {i : It} (h : dpick (nxt L d) p = some i) (h' : Ib L i d d') : Ib L (.once p) d d' := fun K => by
  refine .step ?_
  simp only [dst, h]
  exact h' K
theorem ib_again0 {L : List Tv} {d : D} {p : Pk} (h : dpick (nxt L d) p = none) : Ib L (.again p) d d := fun K => by
  refine .step ?_
  simp only [dst, h]
  exact .refl
theorem ib_again1 {L : List Tv} {d d1 d2 : D} {p : Pk} {i : It} (h : dpick (nxt L d) p = some i) (h' : Ib L i d d1) (h2 : Ib L (.again p) d1 d2) : Ib L (.again p) d d2 := fun K => by
  refine .step ?_
  simp only [dst, h]
  exact (h' (.again p :: K)).trans (h2 K)

/-- How far it is from the end: less with each token, nothing behind an error. -/
def ms (L : List Tv) (d : D) : Nat := if d.e = 0 then L.length - d.i + 1 else 0
theorem ms_op {L : List Tv} {d : D} {n : Int} : ms L (opD n d) = ms L d := by unfold opD; split <;> rfl
theorem ms_cl {L : List Tv} {d : D} : ms L (clD d) = ms L d := by unfold clD; split <;> rfl
theorem qn_live {L : List Tv} {d : D} {f : Tv → Bool} (h : qn L d f = true) : d.e = 0 ∧ d.i < L.length := by
  unfold qn nxt at h
  split at h
  · rename_i he
    refine ⟨he, ?_⟩
    cases hl : L[d.i]? with
    | none => rw [hl] at h; cases h
    | some t => exact (List.getElem?_eq_some_iff.1 hl).1
  · cases h
theorem ms_tk {L : List Tv} {d : D} {f : Tv → Bool} {r : Bool} (h : r = qn L d f) : ms L (tkD L r d) ≤ ms L d ∧ (0 < ms L d → ms L (tkD L r d) < ms L d) := by
  cases hr : r with
  | true =>
    rw [hr] at h
    obtain ⟨he, hi⟩ := qn_live h.symm
    unfold tkD ms
    simp only [if_true]
    split
    · simp [he]
    · simp only [he, if_true]
      omega
  | false =>
    unfold tkD ms
    simp only [Bool.false_eq_true, if_false]
    by_cases he : d.e = 0
    · simp only [he, if_true]
      split <;> simp
    · simp [he]

end Go.Proofs.YtkglkhijngpgiaaGreat
