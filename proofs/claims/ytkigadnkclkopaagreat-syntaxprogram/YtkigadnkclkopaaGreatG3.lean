import Derived.Test.YtkigadnkclkopaaGreatG1
set_option linter.unusedVariables false
set_option linter.unusedSimpArgs false
namespace Go.Proofs.YtkigadnkclkopaaGreat
open Go.RowKit

/-! The parser's states, as its caller sees them (no memory). -/
inductive Pst | live (K : List It) (n : Int) | stuck (e n : Int) | shut
/-- What begins with the first token. -/
def beg (K : List It) (n : Int) : List It := if n == 0 then progR ++ .lv 1 :: K else K
def begN (n : Int) : Int := if n == 0 then 1 else n
def begE (n : Int) : List Ev := if n == 0 then [⟨1, 1, tv0⟩] else []
/-- Put: what is told, the error, the parser behind it. -/
inductive Putr (t : Tv) : Pst → List Ev → Int → Pst → Prop
  | shut : Putr t .shut [] 4 .shut
  | stuck {e n : Int} : Putr t (.stuck e n) [] e (.stuck e n)
  | note {K : List It} {n : Int} : (t.k == 7 || t.k == 8) = true → Putr t (.live K n) (begE n ++ [⟨4, 0, t⟩]) 0 (.live (beg K n) (begN n))
  | no {K : List It} {n : Int} {k : Nat} : (t.k == 7 || t.k == 8) = false → Ru t k (beg K n) (begN n) (begE n) .no → k ≤ (beg K n).length + 20 → Putr t (.live K n) [] 120 (.stuck 120 n)
  | deep {K L : List It} {n m : Int} {E : List Ev} {k : Nat} : (t.k == 7 || t.k == 8) = false → Ru t k (beg K n) (begN n) (begE n) (.yes L m E) → k ≤ (beg K n).length + 20 → 1000 < m → Putr t (.live K n) [] 122 (.stuck 122 n)
  | yes {K L : List It} {n m : Int} {E : List Ev} {k : Nat} : (t.k == 7 || t.k == 8) = false → Ru t k (beg K n) (begN n) (begE n) (.yes L m E) → k ≤ (beg K n).length + 20 → m ≤ 1000 → Putr t (.live K n) (E ++ [⟨2, 0, t⟩]) 0 (.live L m)
/-- Of a size. -/
structure Lz (K : List It) (n : Int) : Prop where
  wf : wfs K
  lv : ((lvs K).length : Int) = n
  sn : (lvs K).length ≤ 5000000
  sk : K.length ≤ 500000
def Pst.ok : Pst → Prop
  | .live K n => Lz K n
  | .stuck e n => e ≠ 0
  | .shut => True
/-- Close. -/
inductive Clor : Pst → List Ev → Int → Prop
  | shut : Clor .shut [] 4
  | stuck {e n : Int} : Clor (.stuck e n) [] e
  | all {K : List It} {n : Int} : K.length = 1 → Clor (.live K n) [⟨3, 1, tv0⟩] 0
  | open {K : List It} {n : Int} : K.length ≠ 1 → Clor (.live K n) [] 121
end Go.Proofs.YtkigadnkclkopaaGreat

set_option linter.unusedVariables false
set_option linter.unusedSimpArgs false
namespace Go.Proofs.YtkigadnkclkopaaGreat
open Go.RowKit

/-! How much is to come within a node: at most so many states at once (no memory). -/
def Fl.ht : Fl → Nat
  | .mt .typed => 5
  | .mt .list => 3
  | _ => 1
def rh : List Fl → Nat
  | [] => 0
  | x :: r => max (x.ht + r.length) (rh r)
def Pk.ht : Pk → Nat
  | .row r => rh r
  | .fn _ => 1
  | .ex m => (Fl.mt m).ht
def It.ht : It → Nat
  | .fl x => x.ht
  | .lv _ => 0
  | .once p => max 1 p.ht
  | .again p => 1 + max 1 p.ht
  | .all r => max 1 (rh r)
/-- How many stand ahead of the node's end. -/
def cnt : List It → Nat
  | [] => 0
  | .lv _ :: _ => 0
  | _ :: K => 1 + cnt K
def fb : List It → Prop
  | [] => True
  | .lv _ :: K => fb K
  | i :: K => i.ht + cnt K ≤ 15 ∧ fb K
theorem Fl.ht_pos (x : Fl) : 1 ≤ x.ht := by
  cases x with
  | mt m => cases m <;> decide
  | _ => exact Nat.le_refl _
theorem It.ht_pos (i : It) (h : ∀ n, i ≠ .lv n) : 1 ≤ i.ht := by
  cases i with
  | fl x => exact x.ht_pos
  | lv n => exact absurd rfl (h n)
  | once p => simp only [It.ht]; omega
  | again p => simp only [It.ht]; omega
  | all r => simp only [It.ht]; omega
theorem cnt_cons {i : It} (h : ∀ n, i ≠ .lv n) (K : List It) : cnt (i :: K) = 1 + cnt K := by
  cases i with
  | lv n => exact absurd rfl (h n)
  | _ => rfl
theorem fb_cons {i : It} (h : ∀ n, i ≠ .lv n) (K : List It) : fb (i :: K) ↔ i.ht + cnt K ≤ 15 ∧ fb K := by
  cases i with
  | lv n => exact absurd rfl (h n)
  | _ => exact Iff.rfl
theorem fb_cnt : ∀ {K : List It}, fb K → cnt K ≤ 15
  | [], _ => Nat.zero_le _
  | i :: K, h => by
    by_cases hl : ∃ n, i = .lv n
    · obtain ⟨n, rfl⟩ := hl; exact Nat.zero_le _
    · have hn : ∀ n, i ≠ .lv n := fun n e => hl ⟨n, e⟩
      have h1 := ((fb_cons hn K).1 h).1
      have := i.ht_pos hn
      rw [cnt_cons hn]
      omega
theorem fb_len : ∀ {K : List It}, fb K → K.length ≤ 16 * (lvs K).length + cnt K
  | [], _ => Nat.zero_le _
  | i :: K, h => by
    by_cases hl : ∃ n, i = .lv n
    · obtain ⟨n, rfl⟩ := hl
      have h' : fb K := h
      have := fb_len h'
      have := fb_cnt h'
      simp [lvs, cnt]
      omega
    · have hn : ∀ n, i ≠ .lv n := fun n e => hl ⟨n, e⟩
      have := fb_len ((fb_cons hn K).1 h).2
      have e : lvs (i :: K) = lvs K := by
        cases i with
        | lv n => exact absurd rfl (hn n)
        | _ => rfl
      rw [cnt_cons hn, e]
      simp
      omega
theorem fb_row (r : List Fl) (K : List It) (h : rh r + cnt K ≤ 15) (hK : fb K) : fb (r.map It.fl ++ K) ∧ cnt (r.map It.fl ++ K) = r.length + cnt K := by
  induction r with
  | nil => exact ⟨hK, by simp⟩
  | cons x r ih =>
    simp only [rh] at h
    obtain ⟨h1, h2⟩ := ih (by omega)
    refine ⟨(fb_cons (fun n e => by cases e) _).2 ⟨?_, h1⟩, ?_⟩
    · show x.ht + cnt (r.map It.fl ++ K) ≤ 15
      rw [h2]; omega
    · show cnt (.fl x :: (r.map It.fl ++ K)) = _
      rw [cnt_cons (fun n e => by cases e), h2, List.length_cons]; omega
theorem pick_ht {t : Tv} {p : Pk} {i : It} (h : Pk.pick t p = some i) : i.ht ≤ max 1 p.ht ∧ ∀ n, i ≠ .lv n := by
  cases p with
  | fn d =>
    simp only [Pk.pick, Option.map_eq_some_iff] at h
    obtain ⟨m, hm, rfl⟩ := h
    have := dk_pick hm
    refine ⟨?_, fun n e => by cases e⟩
    rcases this with rfl | rfl | rfl | rfl | rfl | rfl | rfl <;> exact Nat.le_refl 1
  | row r =>
    simp only [Pk.pick] at h
    split at h
    · cases h; exact ⟨Nat.le_refl _, fun n e => by cases e⟩
    · cases h
  | ex m =>
    simp only [Pk.pick] at h
    split at h
    · cases h
    · cases h; exact ⟨by show (Fl.mt m).ht ≤ max 1 (Fl.mt m).ht; omega, fun n e => by cases e⟩
def Gw.fb (m : M) : Gw → Prop
  | .ref => True
  | .ex r => ∀ K, (Fl.mt m).ht + cnt K ≤ 15 → Go.Proofs.YtkigadnkclkopaaGreat.fb K → Go.Proofs.YtkigadnkclkopaaGreat.fb (r ++ K)
  | .op nd r => ∀ K, Go.Proofs.YtkigadnkclkopaaGreat.fb K → Go.Proofs.YtkigadnkclkopaaGreat.fb (r ++ .lv nd :: K)
theorem row_fb (t : Tv) (m : M) : (M.row t m).fb m := by
  cases m <;> simp only [M.row, wordedR] <;> (repeat' split) <;> simp [Gw.fb, fb, cnt, It.ht, Fl.ht, Pk.ht, rh]
  all_goals (intro K h1 h2; simp only [h2, and_true]; omega)
theorem step_fb {t : Tv} {i : It} {d : Int} {o : List Ev} {r K : List It} (h : It.step t i = .go d o r) (hf : fb (i :: K)) : fb (r ++ K) := by
  cases i with
  | fl x =>
    obtain ⟨h1, h2⟩ := (fb_cons (fun n e => by cases e) K).1 hf
    have hm : ∃ m, x = .mt m := by
      cases x with
      | mt m => exact ⟨m, rfl⟩
      | _ => simp only [It.step, Fl.step] at h; split at h <;> cases h
    obtain ⟨m, rfl⟩ := hm
    have hr := row_fb t m
    simp only [It.step, Fl.step] at h
    cases hrow : M.row t m with
    | ref => rw [hrow] at h; cases h
    | ex r' => rw [hrow] at h hr; cases h; exact hr K h1 h2
    | op nd r' => rw [hrow] at h hr; cases h; rw [List.append_assoc]; exact hr K h2
  | lv n => cases h; exact hf
  | once p =>
    obtain ⟨h1, h2⟩ := (fb_cons (fun n e => by cases e) K).1 hf
    simp only [It.step] at h
    cases hp : Pk.pick t p with
    | none => rw [hp] at h; cases h; exact h2
    | some j =>
      rw [hp] at h
      cases h
      obtain ⟨a, b⟩ := pick_ht hp
      exact (fb_cons b K).2 ⟨by simp only [It.ht] at h1; omega, h2⟩
  | again p =>
    have hn : ∀ n, It.again p ≠ .lv n := fun n e => by cases e
    obtain ⟨h1, h2⟩ := (fb_cons hn K).1 hf
    simp only [It.step] at h
    cases hp : Pk.pick t p with
    | none => rw [hp] at h; cases h; exact h2
    | some j =>
      rw [hp] at h
      cases h
      obtain ⟨a, b⟩ := pick_ht hp
      refine (fb_cons b _).2 ⟨?_, hf⟩
      show j.ht + cnt (.again p :: K) ≤ 15
      rw [cnt_cons hn]
      simp only [It.ht] at h1
      omega
  | all r' =>
    obtain ⟨h1, h2⟩ := (fb_cons (fun n e => by cases e) K).1 hf
    cases h
    exact (fb_row r' K (by simp only [It.ht] at h1; omega) h2).1

/-! Events nest. -/
/-- The nodes that are open behind events (the innermost first). -/
def play : List Int → List Ev → Option (List Int)
  | s, [] => some s
  | s, e :: r => if e.k = 1 then play (e.n :: s) r else if e.k = 3 then (match s with | n :: s' => if n = e.n then play s' r else none | [] => none) else play s r
theorem play_app : ∀ (a b : List Ev) (s s' : List Int), play s a = some s' → play s (a ++ b) = play s' b
  | [], b, s, s', h => by cases h; rfl
  | e :: r, b, s, s', h => by
    simp only [play, List.cons_append] at h ⊢
    split
    · rename_i h1; rw [if_pos h1] at h; exact play_app r b _ _ h
    · rename_i h1
      rw [if_neg h1] at h
      split
      · rename_i h2
        rw [if_pos h2] at h
        cases s with
        | nil => cases h
        | cons n s =>
          simp only at h ⊢
          split
          · rename_i h3; rw [if_pos h3] at h; exact play_app r b _ _ h
          · rename_i h3; rw [if_neg h3] at h; cases h
      · rename_i h2; rw [if_neg h2] at h; exact play_app r b _ _ h
theorem step_play {t : Tv} {i : It} {d : Int} {o : List Ev} {r K : List It} (h : It.step t i = .go d o r) (hi : i.wf) : play (lvs (i :: K)) o = some (lvs (r ++ K)) := by
  have hk := step_ok (K := K) h hi
  cases i with
  | fl x =>
    have hm : ∃ m, x = .mt m := by
      cases x with
      | mt m => exact ⟨m, rfl⟩
      | _ => simp only [It.step, Fl.step] at h; split at h <;> cases h
    obtain ⟨m, rfl⟩ := hm
    have hr := row_ok t m
    simp only [It.step, Fl.step] at h
    cases hrow : M.row t m with
    | ref => rw [hrow] at h; cases h
    | ex r' => rw [hrow] at h hr; cases h; rw [lvs_app, hr.2.2]; rfl
    | op nd r' => rw [hrow] at h hr; cases h; rw [lvs_app, lvs_app, hr.2.2.1]; rfl
  | lv n => cases h; simp [play, lvs]
  | once p =>
    simp only [It.step] at h
    cases hp : Pk.pick t p with
    | none => rw [hp] at h; cases h; rfl
    | some j => rw [hp] at h; cases h; show some (lvs K) = some (lvs ([j] ++ K)); rw [lvs_app, (pick_wf hi hp).2]; rfl
  | again p =>
    simp only [It.step] at h
    cases hp : Pk.pick t p with
    | none => rw [hp] at h; cases h; rfl
    | some j => rw [hp] at h; cases h; show some (lvs K) = some (lvs ([j] ++ ([.again p] ++ K))); rw [lvs_app, (pick_wf hi hp).2]; rfl
  | all r' => cases h; rw [lvs_app, lvs_fl]; rfl

/-! Put, again and again. -/
/-- What holds between two calls. -/
structure Ok (K : List It) (n : Int) : Prop where
  wf : wfs K
  fb : fb K
  lv : ((lvs K).length : Int) = n
  le : n ≤ 1000
theorem Ok.lz {K : List It} {n : Int} (h : Ok K n) : Lz K n := by
  have h1 := h.lv
  have h2 := h.le
  have h3 := fb_len h.fb
  have h4 := fb_cnt h.fb
  exact ⟨h.wf, h.lv, by omega, by omega⟩
theorem ru_keep {t : Tv} {k : Nat} {K : List It} {n : Int} {E : List Ev} {R : Ro} (h : Ru t k K n E R) : ∀ {L : List It} {m : Int} {F : List Ev}, R = .yes L m F → wfs K → fb K → ((lvs K).length : Int) = n →
    wfs L ∧ fb L ∧ ((lvs L).length : Int) = m ∧ ∃ o, F = E ++ o ∧ play (lvs K) o = some (lvs L) ∧ (∀ e ∈ o, e.d = tv0 ∧ (e.k = 1 ∨ e.k = 3) ∧ (e.k = 1 → e.n ≠ 1)) ∧ o.length ≤ k := by
  induction h with
  | nil => intro L m F h; cases h
  | ref _ => intro L m F h; cases h
  | tk hs =>
    rename_i i K n E
    intro L m F h hw hf hn
    cases h
    have hl : ∀ a, i ≠ .lv a := fun a e => by subst e; cases hs
    have e : lvs (i :: K) = lvs K := by
      cases i with
      | lv a => exact absurd rfl (hl a)
      | _ => rfl
    rw [e] at hn
    exact ⟨fun j hj => hw j (List.mem_cons_of_mem _ hj), ((fb_cons hl K).1 hf).2, hn, [], by simp, by rw [e]; rfl, fun x hx => by simp at hx, Nat.zero_le _⟩
  | go hs _ ih =>
    rename_i k i K n d E o r R _
    intro L m F h hw hf hn
    have hi := hw i (List.mem_cons_self ..)
    obtain ⟨a1, a2, a3, a4⟩ := step_ok (K := K) hs hi
    obtain ⟨b1, b2, b3, o2, b4, b5, b6, b7⟩ := ih h (wfs_app a1 (fun j hj => hw j (List.mem_cons_of_mem _ hj))) (step_fb hs hf) (by omega)
    refine ⟨b1, b2, b3, o ++ o2, by rw [b4, List.append_assoc], (play_app o o2 _ _ (step_play hs hi)).trans b5, ?_, by simp; omega⟩
    intro x hx
    rcases List.mem_append.1 hx with hx | hx
    · cases i with
      | fl y =>
        have hm : ∃ m, y = .mt m := by
          cases y with
          | mt m => exact ⟨m, rfl⟩
          | _ => simp only [It.step, Fl.step] at hs; split at hs <;> cases hs
        obtain ⟨mm, rfl⟩ := hm
        have hr := row_ok t mm
        simp only [It.step, Fl.step] at hs
        cases hrow : M.row t mm with
        | ref => rw [hrow] at hs; cases hs
        | ex r' => rw [hrow] at hs; cases hs; simp at hx
        | op nd r' => rw [hrow] at hs hr; cases hs; simp at hx; subst hx; exact ⟨rfl, .inl rfl, fun _ => by have := hr.2.2.2.1; show nd ≠ 1; omega⟩
      | lv a => cases hs; simp at hx; subst hx; exact ⟨rfl, .inr rfl, fun e => by cases e⟩
      | once p => cases hs; simp at hx
      | again p => cases hs; simp at hx
      | all r' => cases hs; simp at hx
    · exact b6 x hx
theorem ok_beg {K : List It} {n : Int} (h : Ok K n) (h0 : n = 0 → K = []) : wfs (beg K n) ∧ fb (beg K n) ∧ ((lvs (beg K n)).length : Int) = begN n ∧ play (lvs K) (begE n) = some (lvs (beg K n)) ∧ (beg K n).length ≤ 20000 := by
  have hz := h.lz
  have h3 := fb_len h.fb
  have h4 := fb_cnt h.fb
  have h1 := h.lv
  have h2 := h.le
  by_cases hn : n = 0
  · obtain rfl := h0 hn
    subst hn
    refine ⟨?_, ?_, rfl, rfl, by simp [beg, progR]⟩
    · intro i hi
      simp [beg, progR] at hi
      rcases hi with rfl | rfl | rfl | rfl | rfl | rfl <;> trivial
    · simp [beg, progR, fb, It.ht, Fl.ht, cnt]
  · have hb : (n == 0) = false := by simpa using hn
    simp only [beg, begN, begE, hb, Bool.false_eq_true, if_false]
    exact ⟨h.wf, h.fb, h.lv, rfl, by omega⟩

end Go.Proofs.YtkigadnkclkopaaGreat

set_option linter.unusedVariables false
set_option linter.unusedSimpArgs false
namespace Go.Proofs.YtkigadnkclkopaaGreat
open Go.RowKit

/-! All tokens, one behind the other (no memory). -/
/-- At the bottom stands Program's end. -/
def Bot (K : List It) : Prop := ∃ X, K = X ++ [.lv 1]
theorem ru_bot {t : Tv} {k : Nat} {K : List It} {n : Int} {E : List Ev} {R : Ro} (h : Ru t k K n E R) : ∀ {L : List It} {m : Int} {F : List Ev}, R = .yes L m F → Bot K → Bot L := by
  induction h with
  | nil => intro L m F h; cases h
  | ref _ => intro L m F h; cases h
  | tk hs =>
    rename_i i K n E
    intro L m F h hb
    cases h
    obtain ⟨X, hX⟩ := hb
    cases X with
    | nil => simp at hX; obtain ⟨rfl, rfl⟩ := hX; cases hs
    | cons j X => simp at hX; exact ⟨X, hX.2⟩
  | go hs hr ih =>
    rename_i k i K n d E o r R
    intro L m F h hb
    obtain ⟨X, hX⟩ := hb
    cases X with
    | nil =>
      simp at hX
      obtain ⟨rfl, rfl⟩ := hX
      cases hs
      cases hr
      cases h
    | cons j X =>
      simp at hX
      obtain ⟨rfl, rfl⟩ := hX
      exact ih h ⟨r ++ X, by simp⟩
theorem bot_lv {K : List It} (h : Bot K) : 1 ≤ (lvs K).length := by
  obtain ⟨X, rfl⟩ := h
  rw [lvs_app]
  simp [lvs]
def Good : Pst → Prop
  | .live K n => Ok K n ∧ ((n = 0 ∧ K = []) ∨ Bot K)
  | .stuck e n => e = 120 ∨ e = 122
  | .shut => True
theorem Good.ok {st : Pst} (h : Good st) : st.ok := by
  cases st with
  | live K n => exact h.1.lz
  | stuck e n =>
    show e ≠ 0
    rcases h with rfl | rfl <;> decide
  | shut => trivial
theorem good_new : Good (.live [] 0) := ⟨⟨wfs_nil, trivial, rfl, by decide⟩, .inl ⟨rfl, rfl⟩⟩
/-- The nodes that are open. -/
def Pst.path : Pst → List Int
  | .live K _ => lvs K
  | _ => []
theorem good_beg {K : List It} {n : Int} (h : Good (.live K n)) : wfs (beg K n) ∧ fb (beg K n) ∧ ((lvs (beg K n)).length : Int) = begN n ∧ play (lvs K) (begE n) = some (lvs (beg K n)) ∧ (beg K n).length ≤ 20000 ∧ Bot (beg K n) ∧ begN n ≤ 1000 ∧ (begE n).length ≤ 1 := by
  have hn0 : n = 0 → K = [] := by
    intro e
    rcases h.2 with h2 | h2
    · exact h2.2
    · have := bot_lv h2; have := h.1.lv; omega
  obtain ⟨b1, b2, b3, b4, b5⟩ := ok_beg h.1 hn0
  have hle := h.1.le
  refine ⟨b1, b2, b3, b4, b5, ?_, by unfold begN; split <;> omega, by unfold begE; split <;> simp⟩
  by_cases e : n = 0
  · obtain rfl := hn0 e
    subst e
    exact ⟨progR, by simp [beg]⟩
  · rcases h.2 with h2 | h2
    · exact absurd h2.1 e
    · have hb : (n == 0) = false := by simpa using e
      simp only [beg, hb, Bool.false_eq_true, if_false]
      exact h2
/-- What Put keeps. -/
theorem put_keep {st st' : Pst} {t : Tv} {ev : List Ev} {code : Int} (h : Good st) (hp : Putr t st ev code st') : Good st' ∧ ev.length ≤ 30000 ∧ (code = 0 → ∃ K n, st' = .live K n ∧ Bot K) ∧ (code = 0 → play st.path ev = some st'.path) := by
  cases hp with
  | shut => exact ⟨trivial, by simp, fun h => (by cases h), fun h => (by cases h)⟩
  | stuck => exact ⟨h, by simp, fun h0 => (by subst h0; rcases h with h | h <;> cases h), fun h0 => (by subst h0; rcases h with h | h <;> cases h)⟩
  | note hc =>
    obtain ⟨b1, b2, b3, b4, b5, hbot, hbn, hbe⟩ := good_beg h
    refine ⟨⟨⟨b1, b2, b3, hbn⟩, .inr hbot⟩, by simp; omega, fun _ => ⟨_, _, rfl, hbot⟩, fun _ => ?_⟩
    refine (play_app _ _ _ _ b4).trans ?_
    simp [play]
    rfl
  | no hc hR hk => exact ⟨.inl rfl, by simp, fun h => (by cases h), fun h => (by cases h)⟩
  | deep hc hR hk hm => exact ⟨.inr rfl, by simp, fun h => (by cases h), fun h => (by cases h)⟩
  | yes hc hR hk hm =>
    obtain ⟨b1, b2, b3, b4, b5, hbot, hbn, hbe⟩ := good_beg h
    obtain ⟨c1, c2, c3, o, c4, c5, c6, c7⟩ := ru_keep hR rfl b1 b2 b3
    have hL := ru_bot hR rfl hbot
    refine ⟨⟨⟨c1, c2, c3, by omega⟩, .inr hL⟩, by rw [c4]; simp; omega, fun _ => ⟨_, _, rfl, hL⟩, fun _ => ?_⟩
    rw [c4, List.append_assoc]
    refine (play_app _ _ _ _ b4).trans ((play_app _ _ _ _ c5).trans ?_)
    simp [play]
    rfl
/-- Put is never without an answer. -/
theorem put_ex {st : Pst} (h : Good st) (t : Tv) : ∃ ev code st', Putr t st ev code st' := by
  cases st with
  | shut => exact ⟨_, _, _, .shut⟩
  | stuck e n => exact ⟨_, _, _, .stuck⟩
  | live K n =>
    obtain ⟨b1, b2, b3, b4, b5, hbot, hbn, hbe⟩ := good_beg h
    by_cases hc : (t.k == 7 || t.k == 8) = true
    · exact ⟨_, _, _, .note hc⟩
    · have hc' : (t.k == 7 || t.k == 8) = false := by simpa using hc
      obtain ⟨k, R, hk, hR⟩ := ru_ex t (beg K n) b1 (begN n) (begE n)
      cases R with
      | no => exact ⟨_, _, _, .no hc' hR hk⟩
      | yes L m F =>
        by_cases hm : 1000 < m
        · exact ⟨_, _, _, .deep hc' hR hk hm⟩
        · exact ⟨_, _, _, .yes hc' hR hk (by omega)⟩
theorem close_ex (st : Pst) : ∃ ev code, Clor st ev code ∧ ev.length ≤ 1 := by
  cases st with
  | live K n =>
    by_cases h : K.length = 1
    · exact ⟨_, _, .all h, by simp⟩
    · exact ⟨_, _, .open h, by simp⟩
  | stuck e n => exact ⟨_, _, .stuck, by simp⟩
  | shut => exact ⟨_, _, .shut, by simp⟩
/-- All of them, then Close: what is told, the error, at which token. -/
inductive Alr : Pst → List Tv → List Ev → Int → Nat → Prop
  | nil {st : Pst} {ev : List Ev} {code : Int} : Clor st ev code → Alr st [] ev code 0
  | err {st st' : Pst} {t : Tv} {l : List Tv} {ev : List Ev} {code : Int} : Putr t st ev code st' → code ≠ 0 → Alr st (t :: l) [] code 0
  | on {st st' : Pst} {t : Tv} {l : List Tv} {ev E : List Ev} {code : Int} {k : Nat} : Putr t st ev 0 st' → Alr st' l E code k → Alr st (t :: l) (ev ++ E) code (k + 1)
theorem alr_ex : ∀ (l : List Tv) (st : Pst), Good st → ∃ E code k, Alr st l E code k
  | [], st, h => by
    obtain ⟨ev, code, h1, _⟩ := close_ex st
    exact ⟨_, _, _, .nil h1⟩
  | t :: l, st, h => by
    obtain ⟨ev, code, st', h1⟩ := put_ex h t
    have h2 := (put_keep h h1).1
    by_cases hc : code = 0
    · subst hc
      obtain ⟨E, c, k, h3⟩ := alr_ex l st' h2
      exact ⟨_, _, _, .on h1 h3⟩
    · exact ⟨_, _, _, .err h1 hc⟩

theorem Alr.inv {st : Pst} {t : Tv} {l : List Tv} {E : List Ev} {code : Int} {k : Nat} (h : Alr st (t :: l) E code k) : (∃ ev st', Putr t st ev code st' ∧ code ≠ 0 ∧ E = [] ∧ k = 0) ∨ (∃ ev st' E2 k2, Putr t st ev 0 st' ∧ Alr st' l E2 code k2 ∧ E = ev ++ E2 ∧ k = k2 + 1) := by
  cases h with
  | err h1 h2 => exact .inl ⟨_, _, h1, h2, rfl, rfl⟩
  | on h1 h2 => exact .inr ⟨_, _, _, _, h1, h2, rfl, rfl⟩
theorem Alr.end {st : Pst} {E : List Ev} {code : Int} {k : Nat} (h : Alr st [] E code k) : Clor st E code ∧ k = 0 := by
  cases h with
  | nil h1 => exact ⟨h1, rfl⟩
end Go.Proofs.YtkigadnkclkopaaGreat

set_option linter.unusedVariables false
set_option linter.unusedSimpArgs false
namespace Go.Proofs.YtkigadnkclkopaaGreat
open Go.RowKit

/-! A token's events: nodes that end, then nodes that begin (no memory). -/
/-- What stands next takes the token or refuses it: no node ends any more. -/
inductive Cmt (t : Tv) : List It → Prop
  | fl {x : Fl} {K : List It} : Cmt t (.fl x :: K)
  | all {r : List Fl} {K : List It} : rwf r → Cmt t (.all r :: K)
  | onceS {p : Pk} {i : It} {K : List It} : Pk.pick t p = some i → Cmt t (.once p :: K)
  | againS {p : Pk} {i : It} {K : List It} : Pk.pick t p = some i → Cmt t (.again p :: K)
  | onceN {p : Pk} {K : List It} : Pk.pick t p = none → Cmt t K → Cmt t (.once p :: K)
  | againN {p : Pk} {K : List It} : Pk.pick t p = none → Cmt t K → Cmt t (.again p :: K)
/-- A row begins with what is sure. -/
def Gw.cm (t : Tv) : Gw → Prop
  | .ref => True
  | .ex r => ∀ K, Cmt t (r ++ K)
  | .op nd r => ∀ K, Cmt t (r ++ K)
theorem cmt_decl (t : Tv) (p : Pk) (x : Fl) (K : List It) : Cmt t (.again p :: .fl x :: K) := by
  cases h : Pk.pick t p with
  | none => exact .againN h .fl
  | some i => exact .againS h
theorem row_cm (t : Tv) (m : M) : (M.row t m).cm t := by
  cases m <;> simp only [M.row, wordedR] <;> (repeat' split)
  all_goals first
    | trivial
    | (intro K; exact .fl)
    | (intro K; exact cmt_decl t _ _ _)
theorem pick_cmt {t : Tv} {p : Pk} (hp : p.wf) {i : It} (h : Pk.pick t p = some i) (K : List It) : Cmt t (i :: K) := by
  cases p with
  | fn d =>
    simp only [Pk.pick, Option.map_eq_some_iff] at h
    obtain ⟨m, _, rfl⟩ := h
    exact .fl
  | row r =>
    simp only [Pk.pick] at h
    split at h
    · cases h; exact .all hp
    · cases h
  | ex m =>
    simp only [Pk.pick] at h
    split at h
    · cases h
    · cases h; exact .fl
theorem step_cmt {t : Tv} {i : It} {d : Int} {o : List Ev} {r K : List It} (h : It.step t i = .go d o r) (hi : i.wf) (hc : Cmt t (i :: K)) : Cmt t (r ++ K) ∧ (∀ e ∈ o, e.k = 1) ∧ 0 ≤ d := by
  cases i with
  | fl x =>
    have hm : ∃ m, x = .mt m := by
      cases x with
      | mt m => exact ⟨m, rfl⟩
      | _ => simp only [It.step, Fl.step] at h; split at h <;> cases h
    obtain ⟨m, rfl⟩ := hm
    have hr := row_cm t m
    simp only [It.step, Fl.step] at h
    cases hrow : M.row t m with
    | ref => rw [hrow] at h; cases h
    | ex r' => rw [hrow] at h hr; cases h; exact ⟨hr K, fun e he => by simp at he, by omega⟩
    | op nd r' => rw [hrow] at h hr; cases h; rw [List.append_assoc]; exact ⟨hr _, fun e he => by simp at he; subst he; rfl, by omega⟩
  | lv n => cases hc
  | once p =>
    simp only [It.step] at h
    cases hp : Pk.pick t p with
    | none =>
      rw [hp] at h
      cases h
      cases hc with
      | onceS h2 => rw [hp] at h2; cases h2
      | onceN _ h2 => exact ⟨h2, fun e he => by simp at he, by omega⟩
    | some j => rw [hp] at h; cases h; exact ⟨pick_cmt hi hp K, fun e he => by simp at he, by omega⟩
  | again p =>
    simp only [It.step] at h
    cases hp : Pk.pick t p with
    | none =>
      rw [hp] at h
      cases h
      cases hc with
      | againS h2 => rw [hp] at h2; cases h2
      | againN _ h2 => exact ⟨h2, fun e he => by simp at he, by omega⟩
    | some j => rw [hp] at h; cases h; exact ⟨pick_cmt hi hp _, fun e he => by simp at he, by omega⟩
  | all r' =>
    cases h
    obtain ⟨⟨k, ts, rest, rfl⟩, _⟩ := hi
    exact ⟨.fl, fun e he => by simp at he, by omega⟩
/-- From there on nodes begin. -/
theorem ru_opens {t : Tv} {k : Nat} {K : List It} {n : Int} {E : List Ev} {R : Ro} (h : Ru t k K n E R) : ∀ {L : List It} {m : Int} {F : List Ev}, R = .yes L m F → wfs K → Cmt t K → ∃ o, F = E ++ o ∧ (∀ e ∈ o, e.k = 1) := by
  induction h with
  | nil => intro L m F h; cases h
  | ref _ => intro L m F h; cases h
  | tk hs => intro L m F h _ _; cases h; exact ⟨[], by simp, fun e he => by simp at he⟩
  | go hs _ ih =>
    rename_i k i K n d E o r R _
    intro L m F h hw hc
    have hi := hw i (List.mem_cons_self ..)
    obtain ⟨a1, a2, a3⟩ := step_cmt hs hi hc
    obtain ⟨o2, b1, b2⟩ := ih h (wfs_app (step_ok (K := K) hs hi).1 (fun j hj => hw j (List.mem_cons_of_mem _ hj))) a1
    exact ⟨o ++ o2, by rw [b1, List.append_assoc], fun e he => (List.mem_append.1 he).elim (a2 e) (b2 e)⟩
/-- Nodes that end, then nodes that begin. -/
theorem ru_phase {t : Tv} {k : Nat} {K : List It} {n : Int} {E : List Ev} {R : Ro} (h : Ru t k K n E R) : ∀ {L : List It} {m : Int} {F : List Ev}, R = .yes L m F → wfs K → ∃ c o, F = E ++ (c ++ o) ∧ (∀ e ∈ c, e.k = 3) ∧ (∀ e ∈ o, e.k = 1) := by
  induction h with
  | nil => intro L m F h; cases h
  | ref _ => intro L m F h; cases h
  | tk hs => intro L m F h _; cases h; exact ⟨[], [], by simp, fun e he => by simp at he, fun e he => by simp at he⟩
  | go hs hr ih =>
    rename_i k i K n d E o r R
    intro L m F h hw
    have hi := hw i (List.mem_cons_self ..)
    have hw2 := wfs_app (step_ok (K := K) hs hi).1 (fun j hj => hw j (List.mem_cons_of_mem _ hj))
    by_cases hl : ∃ a, i = .lv a
    · obtain ⟨a, rfl⟩ := hl
      cases hs
      obtain ⟨c, o2, b1, b2, b3⟩ := ih h hw2
      exact ⟨⟨3, a, tv0⟩ :: c, o2, by rw [b1]; simp, fun e he => (List.mem_cons.1 he).elim (fun e1 => by rw [e1]) (b2 e), b3⟩
    · -- what is left out says nothing; all else is sure
      by_cases hc : Cmt t (i :: K)
      · obtain ⟨a1, a2, a3⟩ := step_cmt hs hi hc
        obtain ⟨o2, b1, b2⟩ := ru_opens hr h hw2 a1
        exact ⟨[], o ++ o2, by rw [b1]; simp, fun e he => by simp at he, fun e he => (List.mem_append.1 he).elim (a2 e) (b2 e)⟩
      · have ho : o = [] := by
          cases i with
          | fl x => exact absurd .fl hc
          | lv a => exact absurd ⟨a, rfl⟩ hl
          | once p => cases hs; rfl
          | again p => cases hs; rfl
          | all r' => cases hs; rfl
        subst ho
        obtain ⟨c, o2, b1, b2, b3⟩ := ih h hw2
        exact ⟨c, o2, by rw [b1]; simp, b2, b3⟩

end Go.Proofs.YtkigadnkclkopaaGreat

set_option linter.unusedVariables false
set_option linter.unusedSimpArgs false
namespace Go.Proofs.YtkigadnkclkopaaGreat
open Go.RowKit

/-! Comments change no other event (no memory). -/
def cmm (t : Tv) : Bool := t.k == 7 || t.k == 8
def nn (e : Ev) : Bool := e.k != 4
/-- What was told ahead is not looked at. -/
theorem ru_pre {t : Tv} {k : Nat} {K : List It} {n : Int} {E : List Ev} {R : Ro} (h : Ru t k K n E R) :
    (R = .no → ∀ E', Ru t k K n E' .no) ∧ (∀ L m F, R = .yes L m F → ∃ o, F = E ++ o ∧ ∀ E', Ru t k K n E' (.yes L m (E' ++ o))) := by
  induction h with
  | nil => exact ⟨fun _ E' => .nil, fun L m F e => by cases e⟩
  | ref hs => exact ⟨fun _ E' => .ref hs, fun L m F e => by cases e⟩
  | tk hs =>
    refine ⟨(fun e => by cases e), fun L m F e => ?_⟩
    cases e
    exact ⟨[], by simp, fun E' => by simpa using Ru.tk hs⟩
  | go hs hr ih =>
    refine ⟨fun e E' => .go hs (ih.1 e _), fun L m F e => ?_⟩
    obtain ⟨o2, rfl, h2⟩ := ih.2 L m F e
    refine ⟨_, (List.append_assoc ..), fun E' => .go hs ?_⟩
    rw [← List.append_assoc]
    exact h2 _
/-- The parser once Program was told. -/
def Beg : Pst → Prop
  | .live K n => n ≠ 0
  | _ => False
theorem beg_of {st st' : Pst} {t : Tv} {ev : List Ev} (hg : Good st) (hp : Putr t st ev 0 st') : Beg st' := by
  obtain ⟨h1, h2, h3, h4⟩ := put_keep hg hp
  obtain ⟨K, n, rfl, hb⟩ := h3 rfl
  have := bot_lv hb
  have := h1.1.lv
  show n ≠ 0
  omega
theorem filt_ev {c o : List Ev} (hc : ∀ e ∈ c, e.k = 3) (ho : ∀ e ∈ o, e.k = 1) : (c ++ o).filter nn = c ++ o := by
  refine List.filter_eq_self.2 (fun e he => ?_)
  rcases List.mem_append.1 he with h | h
  · simp [nn, hc e h]
  · simp [nn, ho e h]
/-- A token that is no comment tells no Note. -/
theorem filt_put {st st' : Pst} {t : Tv} {ev : List Ev} (hg : Good st) (hc : cmm t = false) (hp : Putr t st ev 0 st') : ev.filter nn = ev := by
  cases hp with
  | stuck => rfl
  | note h => unfold cmm at hc; rw [hc] at h; cases h
  | yes h hR hk hm =>
    obtain ⟨b1, b2, b3, b4, b5, hbot, hbn, hbe⟩ := good_beg hg
    obtain ⟨c, o, e1, e2, e3⟩ := ru_phase hR rfl b1
    rw [e1, List.filter_append, List.filter_append, filt_ev e2 e3]
    rw [show ∀ n, (begE n).filter nn = begE n from fun n => by unfold begE; split <;> rfl]
    rfl
theorem notes_beg : ∀ (l : List Tv) (st : Pst) (E : List Ev) (code : Int) (k : Nat), Good st → Beg st → Alr st l E code k → ∃ k', Alr st (l.filter (fun t => !cmm t)) (E.filter nn) code k'
  | [], st, E, code, k, hg, hb, h => by
    have h1 := h.end.1
    refine ⟨0, .nil ?_⟩
    cases h1 with
    | shut => exact .shut
    | stuck => exact .stuck
    | all hh => exact .all hh
    | «open» hh => exact .open hh
  | t :: l, st, E, code, k, hg, hb, h => by
    cases hc : cmm t with
    | true =>
      rw [List.filter_cons_of_neg (by simp [hc])]
      rcases h.inv with ⟨ev, st', hp, hcd, rfl, rfl⟩ | ⟨ev, st', E2, k2, hp, hR2, rfl, rfl⟩
      · cases hp with
        | shut => exact hb.elim
        | stuck => exact hb.elim
        | note hh => exact absurd rfl hcd
        | no hh _ _ => unfold cmm at hc; rw [hc] at hh; cases hh
        | deep hh _ _ _ => unfold cmm at hc; rw [hc] at hh; cases hh
        | yes hh _ _ _ => exact absurd rfl hcd
      · cases hp with
        | stuck => exact hb.elim
        | yes hh _ _ _ => unfold cmm at hc; rw [hc] at hh; cases hh
        | note hh =>
          rename_i K n
          have hn : (n == 0) = false := by have hb' : n ≠ 0 := hb; simpa using hb'
          have e1 : beg K n = K := by simp [beg, hn]
          have e2 : begN n = n := by simp [begN, hn]
          have e3 : begE n = [] := by simp [begE, hn]
          rw [e1, e2] at hR2
          rw [e3]
          obtain ⟨k', h2⟩ := notes_beg l _ E2 code k2 hg hb hR2
          exact ⟨k', by simpa [nn, List.filter_cons] using h2⟩
    | false =>
      rw [List.filter_cons_of_pos (by simp [hc])]
      rcases h.inv with ⟨ev, st', hp, hcd, rfl, rfl⟩ | ⟨ev, st', E2, k2, hp, hR2, rfl, rfl⟩
      · exact ⟨_, .err hp hcd⟩
      · obtain ⟨k', h2⟩ := notes_beg l st' E2 code k2 (put_keep hg hp).1 (beg_of hg hp) hR2
        rw [List.filter_append, filt_put hg hc hp]
        exact ⟨_, .on hp h2⟩

/-- What ParseNotes looks for. -/
def Nts (E B : List Ev) : Prop := E.filter nn = B ∨ (B = [] ∧ ∃ ns, E = ⟨1, 1, tv0⟩ :: ns ∧ ns ≠ [] ∧ ∀ e ∈ ns, e.k = 4)
theorem all_notes {E : List Ev} (h : E.filter nn = []) : ∀ e ∈ E, e.k = 4 := by
  intro e he
  have := List.filter_eq_nil_iff.1 h e he
  simpa [nn] using this
theorem notes_top {l : List Tv} {E : List Ev} {code : Int} {k : Nat} (h : Alr (.live [] 0) l E code k) : ∃ B k', Alr (.live [] 0) (l.filter (fun t => !cmm t)) B code k' ∧ Nts E B := by
  cases l with
  | nil =>
    have h1 := h.end.1
    cases h1 with
    | all hh => simp at hh
    | «open» h2 => exact ⟨[], 0, .nil (.open h2), .inl rfl⟩
  | cons t l =>
    cases hc : cmm t with
    | false =>
      rw [List.filter_cons_of_pos (by simp [hc])]
      rcases h.inv with ⟨ev, st', hp, hcd, rfl, rfl⟩ | ⟨ev, st', E2, k2, hp, hR2, rfl, rfl⟩
      · exact ⟨[], _, .err hp hcd, .inl rfl⟩
      · obtain ⟨k', h2⟩ := notes_beg l st' E2 code k2 (put_keep good_new hp).1 (beg_of good_new hp) hR2
        refine ⟨_, _, .on hp h2, .inl ?_⟩
        rw [List.filter_append, filt_put good_new hc hp]
    | true =>
      rw [List.filter_cons_of_neg (by simp [hc])]
      rcases h.inv with ⟨ev, st', hp, hcd, rfl, rfl⟩ | ⟨ev, st', E2, k2, hp, hR2, rfl, rfl⟩
      · cases hp with
        | note hh => exact absurd rfl hcd
        | no hh _ _ => unfold cmm at hc; rw [hc] at hh; cases hh
        | deep hh _ _ _ => unfold cmm at hc; rw [hc] at hh; cases hh
        | yes hh _ _ _ => exact absurd rfl hcd
      · have hgs := (put_keep good_new hp).1
        have hbs := beg_of good_new hp
        cases hp with
        | yes hh _ _ _ => unfold cmm at hc; rw [hc] at hh; cases hh
        | note hh =>
          obtain ⟨k', h2⟩ := notes_beg l _ E2 code k2 hgs hbs hR2
          have e1 : beg [] 0 = progR ++ [.lv 1] := rfl
          have e1' : beg (progR ++ [.lv 1]) 1 = progR ++ [.lv 1] := rfl
          have none : (E2.filter nn) = [] → Nts (begE 0 ++ [⟨4, 0, t⟩] ++ E2) [] := fun e => .inr ⟨rfl, ⟨4, 0, t⟩ :: E2, rfl, by simp, by
            intro x hx
            rcases List.mem_cons.1 hx with rfl | hx
            · rfl
            · exact all_notes e x hx⟩
          cases hl : l.filter (fun t => !cmm t) with
          | nil =>
            rw [hl] at h2
            have h3 := h2.end.1
            have hE : E2.filter nn = [] ∧ code = 121 := by
              revert h3
              generalize E2.filter nn = F
              intro h3
              cases h3 with
              | all hh => exact absurd hh (by decide)
              | «open» hh => exact ⟨rfl, rfl⟩
            obtain ⟨hE, rfl⟩ := hE
            exact ⟨[], 0, .nil (.open (by decide)), none hE⟩
          | cons u m =>
            have hu : cmm u = false := by
              have : u ∈ l.filter (fun t => !cmm t) := by rw [hl]; exact List.mem_cons_self ..
              simpa using (List.mem_filter.1 this).2
            rw [hl] at h2
            rcases h2.inv with ⟨ev, st', hp, hcd, hE, rfl⟩ | ⟨ev, st', E3, k3, hp, hR3, hE, rfl⟩
            · refine ⟨[], 0, ?_, none hE⟩
              cases hp with
              | note hh => exact absurd rfl hcd
              | no hh hR hk => exact .err (.no hh ((ru_pre hR).1 rfl _) hk) hcd
              | deep hh hR hk hm =>
                obtain ⟨o, _, h5⟩ := (ru_pre hR).2 _ _ _ rfl
                exact .err (.deep hh (h5 _) hk hm) hcd
              | yes hh _ _ _ => exact absurd rfl hcd
            · refine ⟨⟨1, 1, tv0⟩ :: (ev ++ E3), k3 + 1, ?_, .inl ?_⟩
              · cases hp with
                | note hh => unfold cmm at hu; rw [hu] at hh; cases hh
                | yes hh hR hk hm =>
                  obtain ⟨o, e6, h5⟩ := (ru_pre hR).2 _ _ _ rfl
                  have e7 : begE (begN 0) = [] := rfl
                  rw [e7, List.nil_append] at e6
                  subst e6
                  exact Alr.on (st := .live [] 0) (Putr.yes (K := []) (n := 0) hh (h5 [⟨1, 1, tv0⟩]) hk hm) hR3
              · rw [List.filter_append, hE]
                rfl

end Go.Proofs.YtkigadnkclkopaaGreat
