import Derived.Test.YtcokccfbeonlnaaDoorGa6
set_option linter.unusedVariables false
set_option linter.unusedSimpArgs false
namespace Go.Proofs.YtcokccfbeonlnaaDoor

/-! The widths, from the front. -/
def okB (N S : Nat → Nat) (Y a h : Nat) : Option Nat → Prop
  | none => True
  | some p => S p ≤ Y ∧ N p = min (Y - S p + (a + h)) 4097
theorem okB.cong {N S : Nat → Nat} {Y a h a' h' : Nat} {b : Option Nat} (k : okB N S Y a h b) (e : min (a + h) 4097 = min (a' + h') 4097) : okB N S Y a' h' b := by
  cases b with
  | none => trivial
  | some p => exact ⟨k.1, by rw [k.2]; omega⟩
theorem okB.shift {N S : Nat → Nat} {Y w a h : Nat} {b : Option Nat} (k : okB N S Y (w + a) h b) : okB N S (Y + w) a h b := by
  cases b with
  | none => trivial
  | some p => have := k.1; exact ⟨by omega, by rw [k.2]; congr 1; omega⟩
inductive Fw (N S : Nat → Nat) : Nat → Nat → Sp → List Sp → List Nat → List (Option Nat) → Prop
  | base {Y a : Nat} {sp : Sp} {b : Option Nat} : okB N S Y a sp.hang b → Fw N S Y a sp [] [] [b]
  | cons {Y a : Nat} {sp s : Sp} {stk : List Sp} {g : Nat} {gs : List Nat} {b : Option Nat} {bs : List (Option Nat)} : okB N S Y a sp.hang b → okB N S Y a sp.all (some g) → Fw N S Y (a + sp.all) s stk gs bs → Fw N S Y a sp (s :: stk) (g :: gs) (b :: bs)
theorem Fw.cong {N S : Nat → Nat} {Y a : Nat} {sp : Sp} {stk : List Sp} {gs : List Nat} {bs : List (Option Nat)} (h : Fw N S Y a sp stk gs bs) : ∀ {a' : Nat}, min a 4097 = min a' 4097 → Fw N S Y a' sp stk gs bs := by
  induction h with
  | base k => exact fun e => .base (k.cong (by omega))
  | cons k1 k2 _ ih => exact fun e => .cons (k1.cong (by omega)) (k2.cong (by omega)) (ih (by omega))
theorem Fw.wid {N S : Nat → Nat} {Y a w : Nat} {sp : Sp} {stk : List Sp} {gs : List Nat} {bs : List (Option Nat)} (h : Fw N S Y a (sp.wid w) stk gs bs) : Fw N S Y (a + w) sp stk gs bs := by
  cases h with
  | base k => exact .base (k.cong (by simp only [Sp.wid]; omega))
  | cons k1 k2 k3 => exact .cons (k1.cong (by simp only [Sp.wid]; omega)) (k2.cong (by simp only [Sp.wid]; omega)) (k3.cong (by simp only [Sp.wid]; omega))
theorem Fw.shift {N S : Nat → Nat} {Y A : Nat} {sp : Sp} {stk : List Sp} {gs : List Nat} {bs : List (Option Nat)} (h : Fw N S Y A sp stk gs bs) : ∀ {w a : Nat}, A = w + a → Fw N S (Y + w) a sp stk gs bs := by
  induction h with
  | base k => intro w a e; subst e; exact .base k.shift
  | cons k1 k2 _ ih => intro w a e; subst e; exact .cons k1.shift k2.shift (ih (by omega))
theorem Fw.plain {N S : Nat → Nat} {Y w : Nat} {sp : Sp} {stk : List Sp} {gs : List Nat} {bs : List (Option Nat)} (h : Fw N S Y 0 (sp.wid w) stk gs bs) : Fw N S (Y + w) 0 sp stk gs bs := h.wid.shift (by omega)
theorem Fw.top {N S : Nat → Nat} {Y a : Nat} {sp : Sp} {stk : List Sp} {gs : List Nat} {bs : List (Option Nat)} (h : Fw N S Y a sp stk gs bs) : ∃ b bs', bs = b :: bs' ∧ okB N S Y a sp.hang b := by
  cases h with
  | base k => exact ⟨_, _, rfl, k⟩
  | cons k1 _ _ => exact ⟨_, _, rfl, k1⟩
theorem Fw.setTop {N S : Nat → Nat} {Y a A h h' : Nat} {stk : List Sp} {gs : List Nat} {b b' : Option Nat} {bs : List (Option Nat)} (k : Fw N S Y a ⟨A, h⟩ stk gs (b :: bs)) (hb : okB N S Y a h' b') : Fw N S Y a ⟨A, h'⟩ stk gs (b' :: bs) := by
  cases k with
  | base _ => exact .base hb
  | cons _ k2 k3 => exact .cons hb k2 k3
theorem Fw.lens {N S : Nat → Nat} {Y a : Nat} {sp : Sp} {stk : List Sp} {gs : List Nat} {bs : List (Option Nat)} (h : Fw N S Y a sp stk gs bs) : gs.length = stk.length ∧ bs.length = stk.length + 1 := by
  induction h with
  | base _ => exact ⟨rfl, rfl⟩
  | cons _ _ _ ih => exact ⟨by simp [ih.1], by simp [ih.2]⟩

/-- Far, and how wide the others are. -/
def isF (d : Dc) : Bool := decide (d.k = 1) && hasF d.t || decide (d.k = 4) || decide (d.k = 5)
def fwd (d : Dc) : Nat := if isF d then 0 else pw d
theorem pw_split (d : Dc) : pw d = fwd d + (if isF d then 4097 else 0) := by
  unfold fwd
  by_cases h : isF d = true
  · rw [if_pos h, if_pos h]
    unfold isF at h
    unfold pw
    simp only [Bool.or_eq_true, Bool.and_eq_true, decide_eq_true_eq] at h
    rcases h with (⟨h1, h2⟩ | h) | h
    · rw [if_pos h1, if_pos h2]
    · rw [if_neg (by omega), if_neg (by omega), if_neg (by omega), if_pos (.inl h)]
    · rw [if_neg (by omega), if_neg (by omega), if_neg (by omega), if_pos (.inr h)]
  · rw [if_neg h, if_neg h]; omega
def Sf (l : List Dc) (i : Nat) : Nat := ((l.take i).map fwd).sum
def Fc (l : List Dc) (i : Nat) : Nat := ((l.take i).map fun d => if isF d then 1 else 0).sum
def Sg (l : List Dc) (i : Nat) : Nat := Sf l i + 4097 * Fc l i
theorem Sf_succ {l : List Dc} {i : Nat} {d : Dc} (h : l[i]? = some d) : Sf l (i + 1) = Sf l i + fwd d := by
  unfold Sf; rw [List.take_add_one, h]; simp
theorem Fc_succ {l : List Dc} {i : Nat} {d : Dc} (h : l[i]? = some d) : Fc l (i + 1) = Fc l i + (if isF d then 1 else 0) := by
  unfold Fc; rw [List.take_add_one, h]; simp
theorem Sg_succ {l : List Dc} {i : Nat} {d : Dc} (h : l[i]? = some d) : Sg l (i + 1) = Sg l i + pw d := by
  unfold Sg
  rw [Sf_succ h, Fc_succ h, pw_split]
  by_cases hf : isF d = true
  · rw [if_pos hf, if_pos hf]; omega
  · rw [if_neg hf, if_neg hf]; omega
theorem Sf_mono (l : List Dc) {p i : Nat} (h : p ≤ i) : Sf l p ≤ Sf l i ∧ Fc l p ≤ Fc l i := by
  induction i with
  | zero => have : p = 0 := by omega
            subst this; exact ⟨Nat.le_refl _, Nat.le_refl _⟩
  | succ i ih =>
    by_cases he : p = i + 1
    · subst he; exact ⟨Nat.le_refl _, Nat.le_refl _⟩
    · obtain ⟨h1, h2⟩ := ih (by omega)
      cases hd : l[i]? with
      | none =>
        have e : l.take (i + 1) = l.take i := by rw [List.take_add_one, hd]; simp
        unfold Sf Fc at *
        rw [e]; exact ⟨h1, h2⟩
      | some d => rw [Sf_succ hd, Fc_succ hd]; omega
/-- What the document's 'between' answers. -/
def btw (l : List Dc) (p i : Nat) : Nat := if Fc l p < Fc l i then 1099511627776 else Sf l i - Sf l p
theorem btw_min (l : List Dc) {p i : Nat} (h : p ≤ i) : min (btw l p i) 4097 = min (Sg l i - Sg l p) 4097 := by
  obtain ⟨h1, h2⟩ := Sf_mono l h
  unfold btw Sg
  split <;> omega

/-- How the widths stand ahead of the piece i. -/
def Nd (l : List Dc) (p : Nat) : Nat := (nds l).1.getD p 0
structure FwI (l : List Dc) (i : Nat) (gs : List Nat) (bs : List (Option Nat)) : Prop where
  fr : frm gs.length i (l.drop i) = none
  fw : Fw (Nd l) (Sg l) (Sg l i) 0 (nds (l.drop i)).2.1 (nds (l.drop i)).2.2 gs bs
  lg : ∀ g ∈ gs, g < i
  lb : ∀ p, some p ∈ bs → p < i
theorem fw_first {l : List Dc} (h : frm 0 0 l = none) : FwI l 0 [] [none] := by
  have hd := nds_deep l 0 0 (Int.le_refl _) h
  have h0 : (nds l).2.2 = [] := List.eq_nil_of_length_eq_zero (by omega)
  refine ⟨by simpa using h, ?_, by simp, by simp⟩
  rw [List.drop_zero, h0]
  exact .base trivial
theorem Nd_at {l : List Dc} {i : Nat} {d : Dc} (h : l[i]? = some d) : Nd l i = (tell d (nds (l.drop (i + 1))).2).1 ∧ (nds (l.drop i)).2 = (tell d (nds (l.drop (i + 1))).2).2 ∧ l.drop i = d :: l.drop (i + 1) := by
  have hl := (List.getElem?_eq_some_iff.1 h).1
  have e : l.drop i = d :: l.drop (i + 1) := by
    rw [List.drop_eq_getElem_cons hl]; congr 1; exact (List.getElem?_eq_some_iff.1 h).2
  refine ⟨?_, by rw [e]; rfl, e⟩
  have := nds_drop l i
  rw [e] at this
  unfold Nd
  have e2 : (nds l).1.getD i 0 = ((nds l).1.drop i).getD 0 0 := by simp [List.getD_eq_getElem?_getD]
  rw [e2, ← this]; rfl
theorem FwI.rt {l : List Dc} {i : Nat} {gs : List Nat} {bs : List (Option Nat)} (h : FwI l i gs bs) {d : Dc} (hd : l[i]? = some d) : Go.Proofs.YtcokccfbeonlnaaDoor.rt d = true ∧ 0 ≤ (gs.length : Int) + dep d.k ∧ frm ((gs.length : Int) + dep d.k) (i + 1) (l.drop (i + 1)) = none := by
  have hf := h.fr
  rw [(Nd_at hd).2.2] at hf
  have e : ∀ o j r, frm o j (d :: r) = if Go.Proofs.YtcokccfbeonlnaaDoor.rt d = true ∧ 0 ≤ o + dep d.k then frm (o + dep d.k) (j + 1) r else some j := fun _ _ _ => rfl
  rw [e] at hf
  by_cases hc : Go.Proofs.YtcokccfbeonlnaaDoor.rt d = true ∧ 0 ≤ (gs.length : Int) + dep d.k
  · rw [if_pos hc] at hf; exact ⟨hc.1, hc.2, hf⟩
  · rw [if_neg hc] at hf; cases hf
def Set1 (l : List Dc) (i p : Nat) : Prop := p < i ∧ Nd l p = min (btw l p i) 4097
theorem set_of {l : List Dc} {i p : Nat} (hp : p < i) (k : okB (Nd l) (Sg l) (Sg l i) 0 0 (some p)) : Set1 l i p :=
  ⟨hp, by rw [k.2, btw_min l (Nat.le_of_lt hp)]; rfl⟩
theorem FwI.plain {l : List Dc} {i : Nat} {gs : List Nat} {bs : List (Option Nat)} (h : FwI l i gs bs) {d : Dc} (hd : l[i]? = some d) (hk : d.k = 1 ∨ d.k = 2) : FwI l (i + 1) gs bs := by
  obtain ⟨h1, h2, h3⟩ := h.rt hd
  obtain ⟨_, n2, _⟩ := Nd_at hd
  have e0 : dep d.k = 0 := by unfold dep; rw [if_neg (by omega), if_neg (by omega)]
  rw [e0, Int.add_zero] at h3
  refine ⟨h3, ?_, fun g hg => Nat.lt_succ_of_lt (h.lg g hg), fun p hp => Nat.lt_succ_of_lt (h.lb p hp)⟩
  have hw := h.fw
  have e : tell d (nds (l.drop (i + 1))).2 = (0, (nds (l.drop (i + 1))).2.1.wid (pw d), (nds (l.drop (i + 1))).2.2) := by
    unfold tell; rw [if_neg (by omega), if_neg (by omega), if_neg (by omega), if_neg (by omega)]
  rw [n2, e] at hw
  rw [Sg_succ hd]
  exact hw.plain
theorem FwI.brk {l : List Dc} {i : Nat} {gs : List Nat} {b : Option Nat} {bs : List (Option Nat)} (h : FwI l i gs (b :: bs)) {d : Dc} (hd : l[i]? = some d) (hk : d.k = 3) : (∀ p, b = some p → Set1 l i p) ∧ FwI l (i + 1) gs (some i :: bs) := by
  obtain ⟨h1, h2, h3⟩ := h.rt hd
  obtain ⟨n1, n2, _⟩ := Nd_at hd
  have e0 : dep d.k = 0 := by unfold dep; rw [if_neg (by omega), if_neg (by omega)]
  rw [e0, Int.add_zero] at h3
  have hw := h.fw
  have e : tell d (nds (l.drop (i + 1))).2 = (((nds (l.drop (i + 1))).2.1.wid (pw d)).hang, ⟨((nds (l.drop (i + 1))).2.1.wid (pw d)).all, 0⟩, (nds (l.drop (i + 1))).2.2) := by
    unfold tell; rw [if_neg (by omega), if_neg (by omega), if_pos hk]
  rw [e] at n1
  rw [n2, e] at hw
  obtain ⟨b', bs', eb, ob⟩ := hw.top
  simp only [List.cons.injEq] at eb
  obtain ⟨rfl, rfl⟩ := eb
  refine ⟨fun p hp => set_of (h.lb p (by rw [hp]; exact List.mem_cons_self)) (by rw [hp] at ob; exact ob), h3, ?_, fun g hg => Nat.lt_succ_of_lt (h.lg g hg), ?_⟩
  · have hs := hw.setTop (h' := ((nds (l.drop (i + 1))).2.1.wid (pw d)).hang) (b' := some i) ⟨Nat.le_refl _, by rw [n1]; have := (wid_bd (nds (l.drop (i + 1))).2.1 (pw d)).2; omega⟩
    rw [Sg_succ hd]
    exact Fw.plain hs
  · intro p hp
    rcases List.mem_cons.1 hp with hp | hp
    · cases hp; omega
    · exact Nat.lt_succ_of_lt (h.lb p (List.mem_cons_of_mem _ hp))
theorem FwI.hard {l : List Dc} {i : Nat} {gs : List Nat} {b : Option Nat} {bs : List (Option Nat)} (h : FwI l i gs (b :: bs)) {d : Dc} (hd : l[i]? = some d) (hk : d.k = 4 ∨ d.k = 5) : (∀ p, b = some p → Set1 l i p) ∧ FwI l (i + 1) gs (none :: bs) := by
  obtain ⟨h1, h2, h3⟩ := h.rt hd
  obtain ⟨n1, n2, _⟩ := Nd_at hd
  have e0 : dep d.k = 0 := by unfold dep; rw [if_neg (by omega), if_neg (by omega)]
  rw [e0, Int.add_zero] at h3
  have hw := h.fw
  have e : tell d (nds (l.drop (i + 1))).2 = (0, ⟨((nds (l.drop (i + 1))).2.1.wid (pw d)).all, 0⟩, (nds (l.drop (i + 1))).2.2) := by
    unfold tell; rw [if_neg (by omega), if_neg (by omega), if_neg (by omega), if_pos hk]
  rw [n2, e] at hw
  obtain ⟨b', bs', eb, ob⟩ := hw.top
  simp only [List.cons.injEq] at eb
  obtain ⟨rfl, rfl⟩ := eb
  refine ⟨fun p hp => set_of (h.lb p (by rw [hp]; exact List.mem_cons_self)) (by rw [hp] at ob; exact ob), h3, ?_, fun g hg => Nat.lt_succ_of_lt (h.lg g hg), ?_⟩
  · have hs := hw.setTop (h' := ((nds (l.drop (i + 1))).2.1.wid (pw d)).hang) (b' := none) trivial
    rw [Sg_succ hd]
    exact Fw.plain hs
  · intro p hp
    rcases List.mem_cons.1 hp with hp | hp
    · cases hp
    · exact Nat.lt_succ_of_lt (h.lb p (List.mem_cons_of_mem _ hp))
theorem pw_6 {d : Dc} (hk : d.k = 6 ∨ d.k = 7) : pw d = 0 := by
  unfold pw; rw [if_neg (by omega), if_neg (by omega), if_neg (by omega), if_neg (by omega)]
theorem FwI.beg {l : List Dc} {i : Nat} {gs : List Nat} {bs : List (Option Nat)} (h : FwI l i gs bs) {d : Dc} (hd : l[i]? = some d) (hk : d.k = 6) : FwI l (i + 1) (i :: gs) (none :: bs) := by
  obtain ⟨h1, h2, h3⟩ := h.rt hd
  obtain ⟨n1, n2, _⟩ := Nd_at hd
  have e0 : dep d.k = 1 := by unfold dep; rw [if_pos hk]
  rw [e0] at h3
  have hw := h.fw
  have e : tell d (nds (l.drop (i + 1))).2 = ((nds (l.drop (i + 1))).2.1.all, ((nds (l.drop (i + 1))).2.2.headD ⟨0, 0⟩).wid (nds (l.drop (i + 1))).2.1.all, (nds (l.drop (i + 1))).2.2.tail) := by
    unfold tell; rw [if_neg (by omega), if_pos hk]
  rw [e] at n1
  rw [n2, e] at hw
  have hdp := nds_deep _ _ _ (by omega) h3
  have hbd := (nds_bd (l.drop (i + 1))).2.1.1
  refine ⟨by simpa using h3, ?_, ?_, ?_⟩
  · rw [Sg_succ hd, pw_6 (.inl hk), Nat.add_zero]
    cases hs : (nds (l.drop (i + 1))).2.2 with
    | nil => rw [hs] at hdp; simp at hdp; omega
    | cons s stk =>
      rw [hs] at hw
      refine .cons trivial ⟨Nat.le_refl _, by rw [n1]; simp only; omega⟩ ?_
      exact hw.wid
  · intro g hg
    rcases List.mem_cons.1 hg with rfl | hg
    · omega
    · exact Nat.lt_succ_of_lt (h.lg g hg)
  · intro p hp
    rcases List.mem_cons.1 hp with hp | hp
    · cases hp
    · exact Nat.lt_succ_of_lt (h.lb p hp)
theorem FwI.fin {l : List Dc} {i : Nat} {gs : List Nat} {bs : List (Option Nat)} (h : FwI l i gs bs) {d : Dc} (hd : l[i]? = some d) (hk : d.k = 7) :
    ∃ g gs' b bs', gs = g :: gs' ∧ bs = b :: bs' ∧ Set1 l i g ∧ (∀ p, b = some p → Set1 l i p) ∧ FwI l (i + 1) gs' bs' := by
  obtain ⟨h1, h2, h3⟩ := h.rt hd
  obtain ⟨n1, n2, _⟩ := Nd_at hd
  have e0 : dep d.k = -1 := by unfold dep; rw [if_neg (by omega), if_pos hk]
  rw [e0] at h3 h2
  have hw := h.fw
  have e : tell d (nds (l.drop (i + 1))).2 = (0, ⟨0, 0⟩, (nds (l.drop (i + 1))).2.1 :: (nds (l.drop (i + 1))).2.2) := by
    unfold tell; rw [if_pos hk]
  rw [n2, e] at hw
  generalize hsp : (nds (l.drop (i + 1))).2.1 = sp at hw
  generalize hst : (nds (l.drop (i + 1))).2.2 = st at hw
  have lg := h.lg
  have lb := h.lb
  cases hw with
  | cons k1 k2 k3 =>
    rename_i g gs' b bs'
    refine ⟨g, gs', b, bs', rfl, rfl, set_of (lg g List.mem_cons_self) k2, fun p hp => set_of (lb p (by rw [hp]; exact List.mem_cons_self)) (by rw [hp] at k1; exact k1), ?_, ?_, fun g hg => Nat.lt_succ_of_lt (lg g (List.mem_cons_of_mem _ hg)), fun p hp => Nat.lt_succ_of_lt (lb p (List.mem_cons_of_mem _ hp))⟩
    · have e : (((g :: gs').length : Nat) : Int) + -1 = gs'.length := by simp; omega
      rw [e] at h3; exact h3
    · rw [Sg_succ hd, pw_6 (.inr hk), Nat.add_zero, hsp, hst]
      exact k3
theorem FwI.last {l : List Dc} {gs : List Nat} {bs : List (Option Nat)} (h : FwI l l.length gs bs) : gs = [] ∧ ∃ b, bs = [b] ∧ ∀ p, b = some p → Set1 l l.length p := by
  have hw := h.fw
  rw [List.drop_length] at hw
  have lb := h.lb
  have hw' : Fw (Nd l) (Sg l) (Sg l l.length) 0 ⟨0, 0⟩ [] gs bs := hw
  cases hw' with
  | base k =>
    rename_i b
    exact ⟨rfl, b, rfl, fun p hp => set_of (lb p (by rw [hp]; exact List.mem_cons_self)) (by rw [hp] at k; exact k)⟩
end Go.Proofs.YtcokccfbeonlnaaDoor
