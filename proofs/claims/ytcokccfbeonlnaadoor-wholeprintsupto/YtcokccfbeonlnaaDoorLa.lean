import Derived.Test.YtcokccfbeonlnaaDoorGa9
set_option linter.unusedVariables false
set_option linter.unusedSimpArgs false
namespace Go.Proofs.YtcokccfbeonlnaaDoor

/-! What is printed: all Texts, in their order. -/
def brf (x : List UInt8) : List UInt8 := x.filter (fun c => c != 32 && c != 10)
theorem brf_app (a b : List UInt8) : brf (a ++ b) = brf a ++ brf b := by unfold brf; exact List.filter_append ..
theorem brf_rep (m : Nat) : brf (List.replicate m 32) = [] := by
  unfold brf
  rw [List.filter_eq_nil_iff]
  intro x hx
  rw [List.eq_of_mem_replicate hx]
  decide
theorem brf_10 : brf [10] = [] := by decide
def cat (l : List Dc) : List UInt8 := l.flatMap fun d => lsb d.t
theorem cat_cons (d : Dc) (l : List Dc) : cat (d :: l) = lsb d.t ++ cat l := rfl
theorem text_out {s : St6} {t : ByteArray} (ht : t.size ≠ 0) : (s.text t).out = s.out ++ ((if s.fresh then List.replicate s.col 32 else []) ++ (List.replicate s.wait 32 ++ lsb t)) := by
  unfold St6.text; rw [if_neg ht]; rfl
theorem put_brf {n m : Nat} {d : Dc} (hd : rt d = true) (p : Pr) : brf (put n d m p).sk.out = brf p.sk.out ++ brf (lsb d.t) := by
  have h0 : brf (lsb bE) = [] := rfl
  have hh : ∀ k, brf (p.hold k).sk.out = brf p.sk.out := fun k => by unfold Pr.hold; split <;> rfl
  have he : brf p.endl.sk.out = brf p.sk.out := by
    unfold Pr.endl
    split
    · rfl
    · show brf (p.sk.out ++ [10]) = _
      rw [brf_app, brf_10, List.append_nil]
  cases rt_of hd with
  | text t hq =>
    have hs := (rtT_len hq).1
    show brf (p.sk.text t).out = _
    rw [text_out (by omega), brf_app, brf_app, brf_app, brf_rep]
    cases p.sk.fresh
    · rfl
    · simp [brf_rep]
  | brk k hq =>
    show brf (if p.brk n m then p.endl else p.hold k.toNat).sk.out = brf p.sk.out ++ brf (lsb bE)
    rw [h0, List.append_nil]
    split
    · exact he
    · exact hh _
  | beg k e hq => show brf p.sk.out = _; rw [h0, List.append_nil]
  | blank => show brf (p.hold 1).sk.out = brf p.sk.out ++ brf (lsb bE); rw [h0, List.append_nil]; exact hh _
  | hard => show brf p.endl.sk.out = brf p.sk.out ++ brf (lsb bE); rw [h0, List.append_nil]; exact he
  | empty =>
    show brf (if p.en then { p with sk := p.sk.empty, en := false } else p).sk.out = brf p.sk.out ++ brf (lsb bE)
    rw [h0, List.append_nil]
    split
    · show brf p.sk.empty.out = _
      unfold St6.empty
      split
      · show brf (p.sk.out ++ [10]) = _
        rw [brf_app, brf_10, List.append_nil]
      · rfl
    · rfl
  | «end» => show brf p.sk.out = _; rw [h0, List.append_nil]
theorem puts_brf {n : Nat} : ∀ (l : List Dc) (ms : List Nat) (p : Pr), (∀ d ∈ l, rt d = true) → l.length = ms.length → brf (puts n l ms p).sk.out = brf p.sk.out ++ brf (cat l)
  | [], [], p, _, _ => by simp [puts, cat, brf]
  | d :: l, m :: ms, p, hr, hl => by
    rw [puts, puts_brf l ms _ (fun x hx => hr x (List.mem_cons_of_mem _ hx)) (by simpa using hl), put_brf (hr d List.mem_cons_self), cat_cons, brf_app, List.append_assoc]
theorem wout_brf {n : Nat} {l : List Dc} (hr : ∀ d ∈ l, rt d = true) : brf (wout n l) = brf (cat l) := by
  unfold wout
  rw [puts_brf l _ _ hr (by rw [nds_len])]
  rfl

/-! No blank at a line's end; no empty line at first, no two of them. -/
def NB (x : List UInt8) : Prop := ∀ i : Nat, x[i]? = some 32 → ∃ c, x[i + 1]? = some c ∧ c ≠ 10
def NL (x : List UInt8) : Prop := ∀ i : Nat, x[i]? = some 10 → i ≠ 0 ∧ ¬ (2 ≤ i ∧ x[i - 1]? = some 10 ∧ x[i - 2]? = some 10)
theorem NB.app {a b : List UInt8} (ha : NB a) (hb : NB b) : NB (a ++ b) := by
  intro i hi
  by_cases h : i < a.length
  · rw [List.getElem?_append_left h] at hi
    obtain ⟨c, h1, h2⟩ := ha i hi
    refine ⟨c, ?_, h2⟩
    rw [List.getElem?_append_left (List.getElem?_eq_some_iff.1 h1).1]; exact h1
  · rw [List.getElem?_append_right (by omega)] at hi
    obtain ⟨c, h1, h2⟩ := hb _ hi
    refine ⟨c, ?_, h2⟩
    rw [List.getElem?_append_right (by omega), show i + 1 - a.length = i - a.length + 1 by omega]; exact h1
theorem nb_10 : NB [10] := by
  intro i hi
  match i, hi with
  | 0, hi => simp at hi
  | i + 1, hi => simp at hi
theorem nb_cons {c : UInt8} {x : List UInt8} (hx : NB x) (h0 : c = 32 → ∃ c, x[0]? = some c ∧ c ≠ 10) : NB (c :: x) := by
  intro i hi
  match i, hi with
  | 0, hi => simp at hi; simpa using h0 hi
  | i + 1, hi => simpa using hx i (by simpa using hi)
theorem nb_rep {x : List UInt8} (hx : NB x) {c : UInt8} (h0 : x[0]? = some c) (hc : c ≠ 10) : ∀ m, NB (List.replicate m 32 ++ x) ∧ ∃ c, (List.replicate m 32 ++ x)[0]? = some c ∧ c ≠ 10
  | 0 => ⟨by simpa using hx, c, by simpa using h0, hc⟩
  | m + 1 => by
    obtain ⟨h1, h2⟩ := nb_rep hx h0 hc m
    rw [List.replicate_succ, List.cons_append]
    exact ⟨nb_cons h1 (fun _ => h2), 32, rfl, by decide⟩
theorem nb_text {x : List UInt8} (h10 : (10 : UInt8) ∉ x) (hl : x.getD (x.length - 1) 0 ≠ 32) : NB x := by
  intro i hi
  have hlt := (List.getElem?_eq_some_iff.1 hi).1
  by_cases h : i + 1 < x.length
  · refine ⟨x[i + 1], List.getElem?_eq_getElem h, fun e => h10 ?_⟩
    rw [← e]; exact List.getElem_mem h
  · exfalso
    apply hl
    rw [show x.length - 1 = i by omega, List.getD_eq_getElem?_getD, hi]; rfl
theorem NL.plain {a b : List UInt8} (ha : NL a) (hb : (10 : UInt8) ∉ b) : NL (a ++ b) := by
  intro i hi
  by_cases h : i < a.length
  · rw [List.getElem?_append_left h] at hi
    obtain ⟨h1, h2⟩ := ha i hi
    refine ⟨h1, fun h3 => h2 ?_⟩
    rw [List.getElem?_append_left (by omega), List.getElem?_append_left (by omega)] at h3
    exact h3
  · rw [List.getElem?_append_right (by omega)] at hi
    exact absurd (List.mem_of_getElem? hi) hb
theorem NL.feed {a : List UInt8} (ha : NL a) (h0 : a ≠ []) (h2 : ¬ (2 ≤ a.length ∧ a[a.length - 1]? = some 10 ∧ a[a.length - 2]? = some 10)) : NL (a ++ [10]) := by
  intro i hi
  have hl : 0 < a.length := List.length_pos_iff.2 h0
  by_cases h : i < a.length
  · rw [List.getElem?_append_left h] at hi
    obtain ⟨h1, h2⟩ := ha i hi
    refine ⟨h1, fun h3 => h2 ?_⟩
    rw [List.getElem?_append_left (by omega), List.getElem?_append_left (by omega)] at h3
    exact h3
  · have hlt := (List.getElem?_eq_some_iff.1 hi).1
    simp at hlt
    have : i = a.length := by omega
    subst this
    refine ⟨by omega, fun h3 => h2 ?_⟩
    rw [List.getElem?_append_left (by omega), List.getElem?_append_left (by omega)] at h3
    exact h3
/-- How what is printed stands. -/
structure LP (p : Pr) : Prop where
  nb : NB p.sk.out
  nl : NL p.sk.out
  en : p.en = true → p.sk.fresh = true ∧ ∃ r c, p.sk.out = r ++ [c, 10] ∧ c ≠ 10
  fr : p.sk.fresh = false → p.en = false ∧ ∃ r c, p.sk.out = r ++ [c] ∧ c ≠ 10
theorem lp0 : LP pr0 := ⟨by intro i hi; simp [pr0, st0] at hi, by intro i hi; simp [pr0, st0] at hi, fun h => (by cases h), fun h => (by cases h)⟩
theorem LP.hold {p : Pr} (h : LP p) (m : Nat) : LP (p.hold m) := by
  unfold Pr.hold
  split
  · exact h
  · exact ⟨h.nb, h.nl, h.en, h.fr⟩
theorem LP.endl {p : Pr} (h : LP p) : LP p.endl := by
  unfold Pr.endl
  split
  · exact h
  · rename_i hf
    obtain ⟨h1, r, c, h2, h3⟩ := h.fr (by simpa using hf)
    refine ⟨h.nb.app nb_10, h.nl.feed (by rw [h2]; simp) ?_, fun _ => ⟨rfl, r, c, by show p.sk.out ++ [10] = _; rw [h2]; simp, h3⟩, fun e => by cases e⟩
    rw [h2]
    rintro ⟨_, h4, _⟩
    rw [List.getElem?_append_right (by simp)] at h4
    simp at h4
    exact h3 h4
theorem put_lp {n m : Nat} {d : Dc} (hd : rt d = true) (h10 : (10 : UInt8) ∉ lsb d.t) {p : Pr} (h : LP p) : LP (put n d m p) := by
  cases rt_of hd with
  | text t hq =>
    have hs := (rtT_len hq).1
    have hl := ls_len t
    simp only [rtT, Bool.and_eq_true, decide_eq_true_eq, edg, Bool.not_eq_true', Bool.or_eq_false_iff, beq_eq_false_iff_ne] at hq
    obtain ⟨_, _, ⟨f1, f2⟩, l1, l2⟩ := hq
    have h10' : (10 : UInt8) ∉ lsb t := h10
    obtain ⟨c0, hc0⟩ : ∃ c, (lsb t)[0]? = some c := ⟨_, List.getElem?_eq_getElem (by omega)⟩
    have hc1 : c0 ≠ 10 := fun e => h10' (by rw [← e]; exact List.mem_of_getElem? hc0)
    have hnt : NB (lsb t) := nb_text h10' (by rw [hl]; exact l1)
    have e := text_out (s := p.sk) (t := t) (by omega)
    have hb : ∃ k, (if p.sk.fresh then List.replicate p.sk.col 32 else []) ++ (List.replicate p.sk.wait 32 ++ lsb t) = List.replicate k 32 ++ lsb t := by
      cases p.sk.fresh
      · exact ⟨p.sk.wait, by simp⟩
      · exact ⟨p.sk.col + p.sk.wait, by rw [← List.append_assoc, if_pos rfl, List.replicate_append_replicate]⟩
    obtain ⟨k, hk⟩ := hb
    rw [hk] at e
    obtain ⟨r, c, hrc⟩ : ∃ r c, lsb t = r ++ [c] := by
      rcases List.eq_nil_or_concat (lsb t) with h0 | ⟨r, c, h0⟩
      · rw [h0] at hl; simp at hl; omega
      · exact ⟨r, c, by simpa using h0⟩
    have hfr : (p.sk.text t).fresh = false := by unfold St6.text; rw [if_neg (by omega)]
    refine ⟨?_, ?_, fun e => (by cases e), fun _ => ⟨rfl, p.sk.out ++ (List.replicate k 32 ++ r), c, ?_, ?_⟩⟩
    · show NB (p.sk.text t).out
      rw [e]; exact h.nb.app (nb_rep hnt hc0 hc1 k).1
    · show NL (p.sk.text t).out
      rw [e]
      refine h.nl.plain ?_
      intro hm
      rcases List.mem_append.1 hm with hm | hm
      · exact absurd (List.eq_of_mem_replicate hm) (by decide)
      · exact h10' hm
    · show (p.sk.text t).out = _
      rw [e, hrc]; simp
    · intro e'
      apply h10'
      rw [hrc, e']; simp
  | brk k hq =>
    show LP (if p.brk n m then p.endl else p.hold k.toNat)
    split
    · exact h.endl
    · exact h.hold _
  | beg k e hq => exact ⟨h.nb, h.nl, h.en, h.fr⟩
  | blank => exact h.hold 1
  | hard => exact h.endl
  | empty =>
    show LP (if p.en then { p with sk := p.sk.empty, en := false } else p)
    split
    · rename_i he
      obtain ⟨h1, r, c, h2, h3⟩ := h.en he
      have e : p.sk.empty = p.sk.feed p.sk.col := by unfold St6.empty; rw [if_pos h1]
      rw [e]
      refine ⟨h.nb.app nb_10, h.nl.feed (by rw [h2]; simp) ?_, fun e => (by cases e), fun e => (by cases e)⟩
      rw [h2]
      rintro ⟨_, _, h4⟩
      have : (r ++ [c, 10]).length - 2 = r.length := by simp
      rw [this, List.getElem?_append_right (Nat.le_refl _)] at h4
      simp at h4
      exact h3 h4
    · exact h
  | «end» => exact ⟨h.nb, h.nl, h.en, h.fr⟩
theorem puts_lp {n : Nat} : ∀ (l : List Dc) (ms : List Nat) (p : Pr), (∀ d ∈ l, rt d = true ∧ (10 : UInt8) ∉ lsb d.t) → LP p → LP (puts n l ms p)
  | [], ms, p, _, h => by simpa [puts] using h
  | d :: l, [], p, _, h => h
  | d :: l, m :: ms, p, hr, h => by
    rw [puts]
    exact puts_lp l ms _ (fun x hx => hr x (List.mem_cons_of_mem _ hx)) (put_lp (hr d List.mem_cons_self).1 (hr d List.mem_cons_self).2 h)
theorem wout_nb {n : Nat} {l : List Dc} (hr : ∀ d ∈ l, rt d = true ∧ (10 : UInt8) ∉ lsb d.t) : NL (wout n l) ∧ NB (wout n l) := by
  have := puts_lp (n := n) l (nds l).1 pr0 hr lp0
  exact ⟨this.nl, this.nb⟩
end Go.Proofs.YtcokccfbeonlnaaDoor
