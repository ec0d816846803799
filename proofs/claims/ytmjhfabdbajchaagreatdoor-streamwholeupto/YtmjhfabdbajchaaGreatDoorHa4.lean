import Derived.Test.YtmjhfabdbajchaaGreatDoorG8
set_option linter.unusedVariables false
set_option linter.unusedSimpArgs false
namespace Go.Proofs.YtmjhfabdbajchaaGreatDoor
open Go.RowKit

/-! Piece by piece: what is put ahead of what is known (none of a dump). -/
def cumA : Nat → Sp → List Sp → Nat
  | 0, s, _ => s.all
  | m + 1, s, t => s.all + cumA m (t.headD ⟨0, 0⟩) t.tail
def cumH : Nat → Sp → List Sp → Nat
  | 0, s, _ => s.hang
  | m + 1, s, t => s.all + cumH m (t.headD ⟨0, 0⟩) t.tail
theorem cumA_wid (m : Nat) (s : Sp) (t : List Sp) (c : Nat) : min (cumA m (s.wid c) t) 4097 = min (c + cumA m s t) 4097 := by
  cases m <;> simp only [cumA, Sp.wid] <;> omega
theorem cumA_all (m a h h' : Nat) (t : List Sp) : cumA m ⟨a, h⟩ t = cumA m ⟨a, h'⟩ t := by cases m <;> rfl
theorem cumH_wid (m : Nat) (s : Sp) (t : List Sp) (c : Nat) : min (cumH m (s.wid c) t) 4097 = min (c + cumH m s t) 4097 := by
  cases m <;> simp only [cumH, Sp.wid] <;> omega
def Sok (s : Sp) : Prop := s.hang ≤ s.all
theorem Sok.wid {s : Sp} (h : Sok s) (c : Nat) : Sok (s.wid c) := by unfold Sok at *; simp only [Sp.wid]; omega
theorem sok0 : Sok ⟨0, 0⟩ := Nat.le_refl _
theorem sok_head {t : List Sp} (h : ∀ x ∈ t, Sok x) : Sok (t.headD ⟨0, 0⟩) := by
  cases t with
  | nil => exact sok0
  | cons a t => exact h a List.mem_cons_self
theorem nds_ok : ∀ l, Sok (nds l).2.1 ∧ ∀ x ∈ (nds l).2.2, Sok x
  | [] => ⟨sok0, by simp [nds]⟩
  | d :: r => by
    obtain ⟨h1, h2⟩ := nds_ok r
    show Sok (tell d (nds r).2).2.1 ∧ ∀ x ∈ (tell d (nds r).2).2.2, Sok x
    unfold tell
    split
    · refine ⟨sok0, ?_⟩
      intro x hx
      rcases List.mem_cons.1 hx with rfl | hx
      · exact h1
      · exact h2 x hx
    · split
      · exact ⟨(sok_head h2).wid _, fun x hx => h2 x (List.mem_of_mem_tail hx)⟩
      · split
        · exact ⟨Nat.zero_le _, h2⟩
        · split
          · exact ⟨Nat.zero_le _, h2⟩
          · exact ⟨h1.wid _, h2⟩
theorem cumH_le : ∀ (m : Nat) (s : Sp) (t : List Sp), Sok s → (∀ x ∈ t, Sok x) → cumH m s t ≤ cumA m s t
  | 0, s, t, h, _ => h
  | m + 1, s, t, h, ht => by
    have := cumH_le m (t.headD ⟨0, 0⟩) t.tail (sok_head ht) (fun x hx => ht x (List.mem_of_mem_tail hx))
    simp only [cumA, cumH]; omega
theorem cumA_le (m : Nat) (s : Sp) (t : List Sp) : s.all ≤ cumA m s t := by cases m <;> simp [cumA]
/-- How deep behind a piece. -/
def dn (k : Int) (m : Nat) : Nat := if k = 6 then m + 1 else if k = 7 then m - 1 else m
theorem pw_0 {d : Dc} (hk : d.k = 6 ∨ d.k = 7) : pw d = 0 := by
  unfold pw; rw [if_neg (by omega), if_neg (by omega), if_neg (by omega), if_neg (by omega)]
theorem cumA_at (d : Dc) (r : List Dc) (m : Nat) (h : d.k = 7 → 0 < m) : min (cumA m (nds (d :: r)).2.1 (nds (d :: r)).2.2) 4097 = min (pw d + cumA (dn d.k m) (nds r).2.1 (nds r).2.2) 4097 := by
  show min (cumA m (tell d (nds r).2).2.1 (tell d (nds r).2).2.2) 4097 = _
  obtain ⟨s, t⟩ := (nds r).2
  unfold tell dn
  by_cases h7 : d.k = 7
  · rw [if_pos h7, if_neg (by omega), if_pos h7, pw_0 (.inr h7)]
    obtain ⟨m', rfl⟩ : ∃ m', m = m' + 1 := ⟨m - 1, by have := h h7; omega⟩
    simp [cumA]
  · by_cases h6 : d.k = 6
    · rw [if_neg h7, if_pos h6, if_pos h6, pw_0 (.inl h6)]
      simp only [cumA]
      rw [cumA_wid]; omega
    · rw [if_neg h7, if_neg h6, if_neg h6, if_neg h7]
      split
      · simp only
        rw [cumA_all _ _ 0 (s.wid (pw d)).hang]
        exact cumA_wid m s t (pw d)
      · split
        · simp only
          rw [cumA_all _ _ 0 (s.wid (pw d)).hang]
          exact cumA_wid m s t (pw d)
        · exact cumA_wid m s t (pw d)
theorem cumA_end (d : Dc) (r : List Dc) (h : d.k = 7) : cumA 0 (nds (d :: r)).2.1 (nds (d :: r)).2.2 = 0 := by
  show cumA 0 (tell d (nds r).2).2.1 (tell d (nds r).2).2.2 = 0
  unfold tell
  rw [if_pos h]; rfl
/-- What ends what hangs. -/
def Ends (d : Dc) : Prop := d.k = 3 ∨ d.k = 4 ∨ d.k = 5 ∨ d.k = 7
instance (d : Dc) : Decidable (Ends d) := by unfold Ends; exact inferInstance
theorem cumH_at (d : Dc) (r : List Dc) (m : Nat) (h : ¬ (m = 0 ∧ Ends d)) : min (cumH m (nds (d :: r)).2.1 (nds (d :: r)).2.2) 4097 = min (pw d + cumH (dn d.k m) (nds r).2.1 (nds r).2.2) 4097 := by
  show min (cumH m (tell d (nds r).2).2.1 (tell d (nds r).2).2.2) 4097 = _
  obtain ⟨s, t⟩ := (nds r).2
  unfold Ends at h
  unfold tell dn
  by_cases h7 : d.k = 7
  · rw [if_pos h7, if_neg (by omega), if_pos h7, pw_0 (.inr h7)]
    obtain ⟨m', rfl⟩ : ∃ m', m = m' + 1 := ⟨m - 1, by omega⟩
    simp [cumH]
  · by_cases h6 : d.k = 6
    · rw [if_neg h7, if_pos h6, if_pos h6, pw_0 (.inl h6)]
      simp only [cumH]
      rw [cumH_wid]; omega
    · rw [if_neg h7, if_neg h6, if_neg h6, if_neg h7]
      split
      · obtain ⟨m', rfl⟩ : ∃ m', m = m' + 1 := ⟨m - 1, by omega⟩
        simp only [cumH, Sp.wid]; omega
      · split
        · obtain ⟨m', rfl⟩ : ∃ m', m = m' + 1 := ⟨m - 1, by omega⟩
          simp only [cumH, Sp.wid]; omega
        · exact cumH_wid m s t (pw d)
theorem cumH_end (d : Dc) (r : List Dc) (h : Ends d) : cumH 0 (nds (d :: r)).2.1 (nds (d :: r)).2.2 = 0 := by
  show cumH 0 (tell d (nds r).2).2.1 (tell d (nds r).2).2.2 = 0
  unfold Ends at h
  unfold tell
  by_cases h7 : d.k = 7
  · rw [if_pos h7]; rfl
  · rw [if_neg h7, if_neg (by omega)]
    split
    · rfl
    · rw [if_pos (by omega)]; rfl
theorem cumH_nil : ∀ m, cumH m ⟨0, 0⟩ [] = 0
  | 0 => rfl
  | m + 1 => by simp only [cumH, List.headD_nil, List.tail_nil, cumH_nil m]

/-! How wide, as far as it is known. -/
def scB (R : Int) : Nat → Nat → List Dc → Nat × Bool
  | n, _, [] => (n, false)
  | n, dp, d :: r => if dn d.k dp = 0 then (n, true) else if R < ((n + pw d : Nat) : Int) then (n + pw d, true) else scB R (n + pw d) (dn d.k dp) r
def scH (R : Int) : Nat → Nat → List Dc → Nat × Bool
  | n, _, [] => (n, decide (R < (n : Int)))
  | n, dp, d :: r => if R < (n : Int) then (n, true) else if dp = 0 ∧ Ends d then (n, true) else scH R (n + pw d) (dn d.k dp) r
theorem dn_pred {k : Int} {dp : Nat} (h : 1 ≤ dp) (h0 : dn k dp ≠ 0) : dn k dp - 1 = dn k (dp - 1) ∧ 1 ≤ dn k dp ∧ (k = 7 → 0 < dp - 1) := by
  by_cases h6 : k = 6
  · have e : ∀ m, dn k m = m + 1 := fun m => by unfold dn; rw [if_pos h6]
    rw [e, e]
    exact ⟨by omega, by omega, fun h7 => by omega⟩
  · by_cases h7 : k = 7
    · have e : ∀ m, dn k m = m - 1 := fun m => by unfold dn; rw [if_neg h6, if_pos h7]
      rw [e] at h0
      rw [e, e]
      exact ⟨rfl, by omega, fun _ => by omega⟩
    · have e : ∀ m, dn k m = m := fun m => by unfold dn; rw [if_neg h6, if_neg h7]
      rw [e, e]
      exact ⟨rfl, h, fun h => absurd h h7⟩
theorem scB_ok {R : Int} (hR : R ≤ 4096) (rest : List Dc) : ∀ (v : List Dc) (n dp : Nat), 1 ≤ dp → (scB R n dp v).2 = true → (((scB R n dp v).1 : Int) ≤ R ↔ ((min (n + cumA (dp - 1) (nds (v ++ rest)).2.1 (nds (v ++ rest)).2.2) 4097 : Nat) : Int) ≤ R)
  | [], n, dp, _, h => by simp [scB] at h
  | d :: r, n, dp, hdp, h => by
    rw [scB] at h ⊢
    by_cases h0 : dn d.k dp = 0
    · rw [if_pos h0] at h ⊢
      have h7 : d.k = 7 ∧ dp = 1 := by
        unfold dn at h0
        split at h0
        · omega
        · split at h0
          · rename_i h7; exact ⟨h7, by omega⟩
          · omega
      obtain ⟨h7, rfl⟩ := h7
      rw [List.cons_append, show 1 - 1 = 0 from rfl, cumA_end _ _ h7]
      simp only; omega
    · rw [if_neg h0] at h ⊢
      obtain ⟨e1, e2, e3⟩ := dn_pred hdp h0
      have hc := cumA_at d (r ++ rest) (dp - 1) e3
      rw [List.cons_append]
      by_cases h1 : R < ((n + pw d : Nat) : Int)
      · rw [if_pos h1] at h ⊢
        simp only
        omega
      · rw [if_neg h1] at h ⊢
        have ih := scB_ok hR rest r (n + pw d) (dn d.k dp) e2 h
        rw [ih, e1]
        omega
theorem scB_close {R : Int} : ∀ (v : List Dc) (n dp : Nat) (o : Int) (j : Nat), 1 ≤ dp → (dp : Int) ≤ o → frm o j v = none → (scB R n dp v).2 = true
  | [], n, dp, o, j, h1, h2, h3 => by
    simp only [frm] at h3
    split at h3
    · cases h3
    · omega
  | d :: r, n, dp, o, j, h1, h2, h3 => by
    rw [scB]
    simp only [frm] at h3
    split at h3
    · by_cases h0 : dn d.k dp = 0
      · rw [if_pos h0]
      · rw [if_neg h0]
        split
        · rfl
        · refine scB_close r _ _ _ _ (by omega) ?_ h3
          unfold dn dep at *
          split
          · omega
          · split
            · rename_i h6 h7
              rw [if_neg h6, if_pos h7] at h0
              omega
            · omega
    · cases h3
theorem scH_ok {R : Int} (hR : R ≤ 4096) (rest : List Dc) : ∀ (v : List Dc) (n dp : Nat), (scH R n dp v).2 = true → (((scH R n dp v).1 : Int) ≤ R ↔ ((min (n + cumH dp (nds (v ++ rest)).2.1 (nds (v ++ rest)).2.2) 4097 : Nat) : Int) ≤ R)
  | [], n, dp, h => by
    simp only [scH, decide_eq_true_eq] at h ⊢
    omega
  | d :: r, n, dp, h => by
    rw [scH] at h ⊢
    by_cases h1 : R < (n : Int)
    · rw [if_pos h1] at h ⊢
      simp only; omega
    · rw [if_neg h1] at h ⊢
      by_cases h2 : dp = 0 ∧ Ends d
      · rw [if_pos h2] at h ⊢
        obtain ⟨rfl, h2⟩ := h2
        rw [List.cons_append, cumH_end _ _ h2]
        simp only; omega
      · rw [if_neg h2] at h ⊢
        have ih := scH_ok hR rest r _ _ h
        have hc := cumH_at d (r ++ rest) dp h2
        rw [ih, List.cons_append]
        omega
theorem scH_close {R : Int} (hR : R ≤ 4096) : ∀ (v : List Dc) (n dp : Nat), (((scH R n dp v).1 : Int) ≤ R ↔ ((min (n + cumH dp (nds v).2.1 (nds v).2.2) 4097 : Nat) : Int) ≤ R)
  | [], n, dp => by
    have e : cumH dp (nds []).2.1 (nds []).2.2 = 0 := cumH_nil dp
    rw [e]
    simp only [scH]; omega
  | d :: r, n, dp => by
    rw [scH]
    by_cases h1 : R < (n : Int)
    · rw [if_pos h1]
      simp only; omega
    · rw [if_neg h1]
      by_cases h2 : dp = 0 ∧ Ends d
      · rw [if_pos h2]
        obtain ⟨rfl, h2⟩ := h2
        rw [cumH_end _ _ h2]
        simp only; omega
      · rw [if_neg h2]
        have ih := scH_close hR r (n + pw d) (dn d.k dp)
        have hc := cumH_at d r dp h2
        rw [ih]
        omega

/-! When a piece is sure, and what is printed then. -/
def sur (N : Nat) (p : Pr) : List Dc → Nat × Bool
  | [] => (0, false)
  | d :: r => if d.k = 6 then (if (N : Int) - (p.at : Nat) < 0 then (0, true) else scB ((N : Int) - (p.at : Nat)) 0 1 r) else if d.k = 3 then (if p.sk.fresh || p.bl.ev || p.bl.ft then (0, true) else scH ((N : Int) - (p.at : Nat)) d.b.toNat 0 r) else (0, true)
/-- Blocks that fit, do. -/
structure Ft (N : Nat) (p : Pr) (s : Sp) (t : List Sp) : Prop where
  ft : ∀ (m : Nat) (b : Bk), (p.bl :: p.ar)[m]? = some b → b.ft = true → cumA m s t + p.at ≤ N
  mo : ∀ (m m' : Nat) (b b' : Bk), m' ≤ m → (p.bl :: p.ar)[m]? = some b → (p.bl :: p.ar)[m']? = some b' → b.ft = true → b'.ft = true
theorem ft0 (N : Nat) (s : Sp) (t : List Sp) : Ft N pr0 s t := by
  have : ∀ (m : Nat) (b : Bk), (pr0.bl :: pr0.ar)[m]? = some b → b.ft = false := by
    intro m b h
    have : b ∈ [pr0.bl] := List.mem_of_getElem? h
    simp at this; subst this; rfl
  exact ⟨fun m b h e => (by rw [this m b h] at e; cases e), fun m m' b b' _ h _ e => (by rw [this m b h] at e; cases e)⟩
theorem put_same {N n n' : Nat} {d : Dc} {p : Pr} (h : (d.k = 6 → p.fits N n = p.fits N n') ∧ (d.k = 3 → (p.sk.fresh = true ∨ p.bl.ev = true ∨ p.fits N n = p.fits N n'))) : put N d n p = put N d n' p := by
  by_cases h3 : d.k = 3
  · have e : ∀ x, put N d x p = if p.brk N x then p.endl else p.hold d.b.toNat := fun x => by unfold put; rw [if_neg (by omega), if_neg (by omega), if_pos h3]
    rw [e, e]
    rcases h.2 h3 with hf | he | hn
    · have e1 : p.endl = p := by unfold Pr.endl; rw [if_pos hf]
      have e2 : p.hold d.b.toNat = p := by unfold Pr.hold; rw [if_pos hf]
      rw [e1, e2]; simp
    · have : p.brk N n = p.brk N n' := by unfold Pr.brk; rw [if_pos he, if_pos he]
      rw [this]
    · have : p.brk N n = p.brk N n' := by unfold Pr.brk; rw [hn]
      rw [this]
  · by_cases h6 : d.k = 6
    · have e : ∀ x, put N d x p = { p with ar := p.bl :: p.ar, bl := ⟨min (p.bl.ind + d.i.toNat) 1000, d.e, p.fits N x⟩ } := fun x => by
        unfold put; rw [if_neg (by omega), if_neg (by omega), if_neg (by omega), if_neg (by omega), if_neg (by omega), if_pos h6]
      rw [e, e, h.1 h6]
    · unfold put
      simp only [if_neg h3, if_neg h6]
theorem fits_iff {N n : Nat} {p : Pr} {c : Prop} [Decidable c] (h : ((n : Int) ≤ (N : Int) - (p.at : Nat)) ↔ c) : p.fits N n = decide c := by
  unfold Pr.fits
  rw [decide_eq_decide, ← h]; omega
theorem nds_need (d : Dc) (r : List Dc) : (nds (d :: r)).1.headD 0 = (tell d (nds r).2).1 := rfl
theorem sur_ok {N : Nat} (hN : N ≤ 4096) {p : Pr} {d : Dc} {r rest : List Dc} (hI : Ft N p (nds (d :: (r ++ rest))).2.1 (nds (d :: (r ++ rest))).2.2) (h : (sur N p (d :: r)).2 = true ∨ (rest = [] ∧ ∃ o j, 0 ≤ o ∧ frm o j (d :: r) = none)) : put N d (sur N p (d :: r)).1 p = put N d (tell d (nds (r ++ rest)).2).1 p := by
  have hb := (nds_bd (r ++ rest)).2.1
  refine put_same ⟨fun h6 => ?_, fun h3 => ?_⟩
  · have e : sur N p (d :: r) = if (N : Int) - (p.at : Nat) < 0 then (0, true) else scB ((N : Int) - (p.at : Nat)) 0 1 r := by simp only [sur, if_pos h6]
    have en : (tell d (nds (r ++ rest)).2).1 = (nds (r ++ rest)).2.1.all := by unfold tell; rw [if_neg (by omega), if_pos h6]
    rw [en]
    by_cases hR : (N : Int) - (p.at : Nat) < 0
    · rw [e, if_pos hR]
      unfold Pr.fits
      rw [decide_eq_decide]; simp only; omega
    · rw [if_neg hR] at e
      have ht : (scB ((N : Int) - (p.at : Nat)) 0 1 r).2 = true := by
        rcases h with h | ⟨_, o, j, ho, hf⟩
        · rw [e] at h; exact h
        · simp only [frm] at hf
          split at hf
          · have e1 : dep d.k = 1 := by unfold dep; rw [if_pos h6]
            rw [e1] at hf
            exact scB_close r 0 1 _ _ (Nat.le_refl _) (by omega) hf
          · cases hf
      have := scB_ok (R := (N : Int) - (p.at : Nat)) (by omega) rest r 0 1 (Nat.le_refl _) ht
      rw [e, fits_iff this]
      unfold Pr.fits
      rw [decide_eq_decide]
      have hb1 := hb.1
      show ((min (0 + (nds (r ++ rest)).2.1.all) 4097 : Nat) : Int) ≤ _ ↔ _
      omega
  · have e : sur N p (d :: r) = if p.sk.fresh || p.bl.ev || p.bl.ft then (0, true) else scH ((N : Int) - (p.at : Nat)) d.b.toNat 0 r := by
      have h6 : ¬ d.k = 6 := by omega
      simp only [sur, if_neg h6, if_pos h3]
    have epw : pw d = d.b.toNat := by unfold pw; rw [if_neg (by omega), if_neg (by omega), if_pos h3]
    have en : (tell d (nds (r ++ rest)).2).1 = min ((nds (r ++ rest)).2.1.hang + d.b.toNat) 4097 := by
      unfold tell; rw [if_neg (by omega), if_neg (by omega), if_pos h3, epw]; rfl
    by_cases hf : p.sk.fresh = true
    · exact .inl hf
    by_cases he : p.bl.ev = true
    · exact .inr (.inl he)
    refine .inr (.inr ?_)
    rw [en]
    by_cases ht : p.bl.ft = true
    · rw [e, if_pos (by simp [ht])]
      have h1 := hI.ft 0 p.bl rfl ht
      have h2 := cumA_at d (r ++ rest) 0 (by omega)
      have h3' : dn d.k 0 = 0 := by unfold dn; rw [if_neg (by omega), if_neg (by omega)]
      rw [h3', epw] at h2
      have h4 : (nds (r ++ rest)).2.1.hang ≤ (nds (r ++ rest)).2.1.all := (nds_ok (r ++ rest)).1
      have h5 : cumA 0 (nds (r ++ rest)).2.1 (nds (r ++ rest)).2.2 = (nds (r ++ rest)).2.1.all := rfl
      unfold Pr.fits
      rw [decide_eq_decide]
      simp only
      omega
    · rw [e, if_neg (by simp [hf, he, ht])]
      have hiff : (((scH ((N : Int) - (p.at : Nat)) d.b.toNat 0 r).1 : Int) ≤ (N : Int) - (p.at : Nat) ↔ ((min (d.b.toNat + cumH 0 (nds (r ++ rest)).2.1 (nds (r ++ rest)).2.2) 4097 : Nat) : Int) ≤ (N : Int) - (p.at : Nat)) := by
        rcases h with h | ⟨hr, _⟩
        · rw [e, if_neg (by simp [hf, he, ht])] at h
          exact scH_ok (by omega) rest r _ _ h
        · subst hr
          rw [List.append_nil]
          exact scH_close (by omega) r _ _
      rw [fits_iff hiff]
      unfold Pr.fits
      rw [decide_eq_decide]
      have h5 : cumH 0 (nds (r ++ rest)).2.1 (nds (r ++ rest)).2.2 = (nds (r ++ rest)).2.1.hang := rfl
      omega

/-- The columns of a Text without a byte 0A. -/
theorem lf_of {t : ByteArray} (h : hasF t = false) : lf t < 0 := by
  unfold lf Lib.lastIndexByte
  rcases Lib.lastIdx_spec t 10 t.size with ⟨h1, _⟩ | ⟨i, hi, _, h2, _⟩
  · rw [h1]; omega
  · exfalso
    have hm : (10 : UInt8) ∈ t.data.toList := by
      have e : t.data[i]! = t.data[i] := getElem!_pos t.data i hi
      rw [e] at h2
      have : t.data[i] = 10 := by
        apply UInt8.toNat_inj.1
        have : (10 : UInt8).toNat = 10 := rfl
        omega
      rw [← this]
      exact Array.getElem_mem_toList _
    unfold hasF at h
    rw [decide_eq_true hm] at h; cases h
theorem text_at {p : Pr} {t : ByteArray} (h0 : 0 < t.size) (h : hasF t = false) : (({ p with sk := p.sk.text t, en := false } : Pr).at) = p.at + (tw t).toNat := by
  unfold Pr.at
  show (p.sk.text t).col + (p.sk.text t).wait = _
  unfold St6.text
  rw [if_neg (by omega)]
  show (ncol p.sk.col p.sk.wait t).toNat + 0 = _
  unfold ncol
  rw [if_pos (lf_of h)]
  have := (tw_bd t).1
  omega
theorem hold_at (p : Pr) (m : Nat) : (p.hold m).at ≤ p.at + m ∧ (p.hold m).bl = p.bl ∧ (p.hold m).ar = p.ar := by
  unfold Pr.hold
  split
  · exact ⟨by omega, rfl, rfl⟩
  · refine ⟨?_, rfl, rfl⟩
    show p.sk.col + (p.sk.wait + m) ≤ p.sk.col + p.sk.wait + m
    omega
theorem endl_bl (p : Pr) : p.endl.bl = p.bl ∧ p.endl.ar = p.ar := by unfold Pr.endl; split <;> exact ⟨rfl, rfl⟩
theorem Ft.any {N : Nat} {p : Pr} {s : Sp} {t : List Sp} (h : Ft N p s t) {m : Nat} {b : Bk} (hb : (p.bl :: p.ar)[m]? = some b) (hf : b.ft = true) : p.bl.ft = true :=
  h.mo m 0 b p.bl (Nat.zero_le _) hb rfl hf
/-- The same blocks, a column that rises by no more than the piece's width. -/
theorem Ft.step {N : Nat} (hN : N ≤ 4096) {p p' : Pr} {d : Dc} {x : List Dc} (h : Ft N p (nds (d :: x)).2.1 (nds (d :: x)).2.2) (hk : d.k ≠ 6 ∧ d.k ≠ 7) (hb : p'.bl = p.bl) (ha : p'.ar = p.ar) (hat : p.bl.ft = true → p'.at ≤ p.at + pw d) : Ft N p' (nds x).2.1 (nds x).2.2 := by
  refine ⟨fun m b hm hf => ?_, fun m m' b b' hmm hm hm' hf => ?_⟩
  · rw [hb, ha] at hm
    have h1 := h.ft m b hm hf
    have h2 := cumA_at d x m (fun e => absurd e hk.2)
    have h3 : dn d.k m = m := by unfold dn; rw [if_neg hk.1, if_neg hk.2]
    rw [h3] at h2
    have h4 := hat (h.any hm hf)
    omega
  · rw [hb, ha] at hm hm'
    exact h.mo m m' b b' hmm hm hm' hf
theorem ft_put {N : Nat} (hN : N ≤ 4096) {p : Pr} {d : Dc} {x : List Dc} (hd : rt d = true) (h7 : d.k = 7 → p.ar ≠ []) (h : Ft N p (nds (d :: x)).2.1 (nds (d :: x)).2.2) : Ft N (put N d (tell d (nds x).2).1 p) (nds x).2.1 (nds x).2.2 := by
  have hA := fun m hm => cumA_at d x m hm
  have hH := (nds_ok x).1
  have hB := (nds_bd x).2.1
  cases rt_of hd with
  | text t hq =>
    refine h.step hN ⟨by simp, by simp⟩ rfl rfl (fun hf => ?_)
    have h1 := h.ft 0 p.bl rfl hf
    have h2 := hA 0 (by intro e; cases e)
    by_cases hl : hasF t = true
    · exfalso
      have : pw ⟨1, t, 0, 0, false⟩ = 4097 := by simp [pw, hl]
      rw [this] at h2
      omega
    · have hl' : hasF t = false := by simpa using hl
      have : pw ⟨1, t, 0, 0, false⟩ = (tw t).toNat := by simp [pw, hl']
      rw [this]
      show (({ p with sk := p.sk.text t, en := false } : Pr).at) ≤ _
      rw [text_at (by have := (rtT_len hq).1; omega) hl']
      exact Nat.le_refl _
  | brk m hq =>
    have e : ∀ n, put N ⟨3, bE, m, 0, false⟩ n p = if p.brk N n then p.endl else p.hold m.toNat := fun n => by simp [put]
    rw [e]
    have hpw : pw ⟨3, bE, m, 0, false⟩ = m.toNat := by simp [pw]
    by_cases hf : p.bl.ft = true
    · have h1 := h.ft 0 p.bl rfl hf
      have h2 := hA 0 (by intro e; cases e)
      rw [hpw] at h2
      have en : (tell ⟨3, bE, m, 0, false⟩ (nds x).2).1 = min ((nds x).2.1.hang + m.toNat) 4097 := by simp [tell, hpw, Sp.wid]
      have hH' : (nds x).2.1.hang ≤ (nds x).2.1.all := hH
      have h5 : cumA 0 (nds x).2.1 (nds x).2.2 = (nds x).2.1.all := rfl
      have h6 : dn 3 0 = 0 := rfl
      rw [h6] at h2
      have hb : p.brk N (tell ⟨3, bE, m, 0, false⟩ (nds x).2).1 = false := by
        unfold Pr.brk
        split
        · simp [hf]
        · rw [en]
          unfold Pr.fits
          simp
          omega
      rw [hb]
      simp only [Bool.false_eq_true, if_false]
      obtain ⟨k1, k2, k3⟩ := hold_at p m.toNat
      exact h.step hN ⟨by simp, by simp⟩ k2 k3 (fun _ => by rw [hpw]; exact k1)
    · split
      · exact h.step hN ⟨by simp, by simp⟩ (endl_bl p).1 (endl_bl p).2 (fun hf' => absurd hf' hf)
      · obtain ⟨k1, k2, k3⟩ := hold_at p m.toNat
        exact h.step hN ⟨by simp, by simp⟩ k2 k3 (fun hf' => absurd hf' hf)
  | beg m e hq =>
    have en : (tell ⟨6, bE, 0, m, e⟩ (nds x).2).1 = (nds x).2.1.all := by simp [tell]
    rw [en]
    have ep : put N ⟨6, bE, 0, m, e⟩ (nds x).2.1.all p = { p with ar := p.bl :: p.ar, bl := ⟨min (p.bl.ind + m.toNat) 1000, e, p.fits N (nds x).2.1.all⟩ } := by simp [put]
    rw [ep]
    have hin : ∀ (k : Nat) (b : Bk), (p.bl :: p.ar)[k]? = some b → b.ft = true → cumA (k + 1) (nds x).2.1 (nds x).2.2 + p.at ≤ N := by
      intro k b hk hf
      have h1 := h.ft k b hk hf
      have h2 := hA k (by intro e; cases e)
      have h3 : dn 6 k = k + 1 := rfl
      rw [h3, pw_0 (.inl rfl)] at h2
      omega
    have hnew : ∀ (k : Nat) (b : Bk), (p.bl :: p.ar)[k]? = some b → b.ft = true → p.fits N (nds x).2.1.all = true := by
      intro k b hk hf
      have h1 := hin k b hk hf
      have h2 := cumA_le (k + 1) (nds x).2.1 (nds x).2.2
      unfold Pr.fits
      exact decide_eq_true (by omega)
    refine ⟨fun k b hk hf => ?_, fun k k' b b' hkk hk hk' hf => ?_⟩
    · cases k with
      | zero =>
        simp at hk
        subst hk
        have : p.fits N (nds x).2.1.all = true := hf
        unfold Pr.fits at this
        have := of_decide_eq_true this
        exact this
      | succ k => exact hin k b (by simpa using hk) hf
    · cases k with
      | zero =>
        have e0 : k' = 0 := by omega
        subst e0
        rw [hk] at hk'
        cases hk'; exact hf
      | succ k =>
        cases k' with
        | zero =>
          simp at hk'
          subst hk'
          exact hnew k b (by simpa using hk) hf
        | succ k' => exact h.mo k k' b b' (by omega) (by simpa using hk) (by simpa using hk') hf
  | blank =>
    have e : ∀ n, put N ⟨2, bE, 0, 0, false⟩ n p = p.hold 1 := fun n => by simp [put]
    rw [e]
    obtain ⟨k1, k2, k3⟩ := hold_at p 1
    have e2 : pw ⟨2, bE, 0, 0, false⟩ = 1 := by simp [pw]
    exact h.step hN ⟨by simp, by simp⟩ k2 k3 (fun _ => by rw [e2]; exact k1)
  | hard =>
    have e : ∀ n, put N ⟨4, bE, 0, 0, false⟩ n p = p.endl := fun n => by simp [put]
    rw [e]
    refine h.step hN ⟨by simp, by simp⟩ (endl_bl p).1 (endl_bl p).2 (fun hf => ?_)
    have h1 := h.ft 0 p.bl rfl hf
    have h2 := hA 0 (by intro e; cases e)
    have : pw ⟨4, bE, 0, 0, false⟩ = 4097 := by simp [pw]
    rw [this] at h2
    omega
  | empty =>
    have e : ∀ n, put N ⟨5, bE, 0, 0, false⟩ n p = if p.en then { p with sk := p.sk.empty, en := false } else p := fun n => by simp [put]
    rw [e]
    have hx : p.bl.ft = true → False := by
      intro hf
      have h1 := h.ft 0 p.bl rfl hf
      have h2 := hA 0 (by intro e; cases e)
      have : pw ⟨5, bE, 0, 0, false⟩ = 4097 := by simp [pw]
      rw [this] at h2
      omega
    split
    · exact h.step hN ⟨by simp, by simp⟩ rfl rfl (fun hf => (hx hf).elim)
    · exact h.step hN ⟨by simp, by simp⟩ rfl rfl (fun hf => (hx hf).elim)
  | «end» =>
    obtain ⟨b0, r0, har⟩ : ∃ b r, p.ar = b :: r := by
      cases ha : p.ar with
      | nil => exact absurd ha (h7 rfl)
      | cons b r => exact ⟨b, r, rfl⟩
    have ep : ∀ n, put N ⟨7, bE, 0, 0, false⟩ n p = { p with bl := b0, ar := r0 } := fun n => by simp [put, har]
    rw [ep]
    refine ⟨fun k b hk hf => ?_, fun k k' b b' hkk hk hk' hf => ?_⟩
    · have hk2 : (p.bl :: p.ar)[k + 1]? = some b := by rw [har]; simpa using hk
      have h1 := h.ft (k + 1) b hk2 hf
      have h2 := hA (k + 1) (by intro _; omega)
      have h3 : dn 7 (k + 1) = k := rfl
      rw [h3, pw_0 (.inr rfl)] at h2
      show cumA k (nds x).2.1 (nds x).2.2 + p.at ≤ N
      omega
    · exact h.mo (k + 1) (k' + 1) b b' (by omega) (by rw [har]; simpa using hk) (by rw [har]; simpa using hk') hf
end Go.Proofs.YtmjhfabdbajchaaGreatDoor
set_option linter.unusedVariables false
set_option linter.unusedSimpArgs false
namespace Go.Proofs.YtmjhfabdbajchaaGreatDoor
open Go.RowKit

theorem ft_pst {N : Nat} (hN : N ≤ 4096) {L : List Dc} (hf : frm 0 0 L = none) : ∀ k, k ≤ L.length → Ft N (pst N L k) (nds (L.drop k)).2.1 (nds (L.drop k)).2.2
  | 0, _ => by
    have : pst N L 0 = pr0 := by simp [pst, puts]
    rw [this]; exact ft0 _ _ _
  | k + 1, hk => by
    obtain ⟨d, hd⟩ : ∃ d, L[k]? = some d := ⟨_, List.getElem?_eq_getElem (by omega)⟩
    have e : L.drop k = d :: L.drop (k + 1) := by
      rw [List.drop_eq_getElem_cons (by omega)]; congr 1; exact (List.getElem?_eq_some_iff.1 hd).2
    have ih := ft_pst hN hf k (by omega)
    rw [e] at ih
    obtain ⟨m, hm, _, hp⟩ := pst_succ (n := N) hd
    have hnd := nds_drop L k
    rw [e] at hnd
    have hm2 : m = (tell d (nds (L.drop (k + 1))).2).1 := by
      have h1 : ((nds L).1.drop k)[0]? = some m := by rw [List.getElem?_drop]; simpa using hm
      rw [← hnd] at h1
      have h2 : (tell d (nds (L.drop (k + 1))).2).1 = m := by simpa [nds] using h1
      exact h2.symm
    rw [hp, hm2]
    exact ft_put hN (frm_rt L 0 0 hf d (List.mem_of_getElem? hd)) (pst_seven hf hd) ih
/-- A piece that is sure is printed as with all known. -/
theorem sur_pst {N : Nat} (hN : N ≤ 4096) {L : List Dc} (hf : frm 0 0 L = none) {k : Nat} {d : Dc} {r rest : List Dc} (hk : L.drop k = d :: (r ++ rest)) (h : (sur N (pst N L k) (d :: r)).2 = true ∨ rest = []) : put N d (sur N (pst N L k) (d :: r)).1 (pst N L k) = pst N L (k + 1) ∧ L.drop (k + 1) = r ++ rest := by
  have hlt : k < L.length := by
    rcases Nat.lt_or_ge k L.length with h | h
    · exact h
    · rw [List.drop_eq_nil_of_le h] at hk; cases hk
  have hd : L[k]? = some d := by
    have : (L.drop k)[0]? = some d := by rw [hk]; rfl
    rw [List.getElem?_drop] at this; simpa using this
  have e : L.drop (k + 1) = r ++ rest := by
    rw [← List.drop_drop] ; rw [hk]; rfl
  refine ⟨?_, e⟩
  have hft := ft_pst hN hf k (by omega)
  rw [hk] at hft
  obtain ⟨m, hm, _, hp⟩ := pst_succ (n := N) hd
  have hnd := nds_drop L k
  rw [hk] at hnd
  have hm2 : m = (tell d (nds (r ++ rest)).2).1 := by
    have h1 : ((nds L).1.drop k)[0]? = some m := by rw [List.getElem?_drop]; simpa using hm
    rw [← hnd] at h1
    have h2 : (tell d (nds (r ++ rest)).2).1 = m := by simpa [nds] using h1
    exact h2.symm
  rw [hp, hm2]
  refine sur_ok hN hft ?_
  rcases h with h | h
  · exact .inl h
  · subst h
    obtain ⟨o, h0, _, _, h3⟩ := pst_deep (n := N) hf k (by omega)
    rw [hk, List.append_nil] at h3
    exact .inr ⟨rfl, o, k, h0, h3⟩

/-- What is sure is printed. -/
def drn (N : Nat) : Pr → List Dc → Pr × List Dc
  | p, [] => (p, [])
  | p, d :: r => if (sur N p (d :: r)).2 = true then drn N (put N d (sur N p (d :: r)).1 p) r else (p, d :: r)
/-- All is printed, the rest being nothing. -/
def cls (N : Nat) : Pr → List Dc → Pr
  | p, [] => p
  | p, d :: r => cls N (put N d (sur N p (d :: r)).1 p) r
theorem drn_suf (N : Nat) : ∀ (v : List Dc) (p : Pr), ∃ u, v = u ++ (drn N p v).2
  | [], p => ⟨[], rfl⟩
  | d :: r, p => by
    rw [drn]
    split
    · obtain ⟨u, hu⟩ := drn_suf N r (put N d (sur N p (d :: r)).1 p)
      exact ⟨d :: u, by rw [List.cons_append, ← hu]⟩
    · exact ⟨[], rfl⟩
theorem drn_le (N : Nat) (v : List Dc) (p : Pr) : (drn N p v).2.length ≤ v.length := by
  obtain ⟨u, hu⟩ := drn_suf N v p
  have := congrArg List.length hu
  rw [List.length_append] at this; omega
theorem drn_ok {N : Nat} (hN : N ≤ 4096) {L : List Dc} (hf : frm 0 0 L = none) (rest : List Dc) : ∀ (v : List Dc) (k : Nat), L.drop k = v ++ rest → (drn N (pst N L k) v).1 = pst N L (k + (v.length - (drn N (pst N L k) v).2.length))
  | [], k, h => by simp [drn]
  | d :: r, k, h => by
    rw [drn]
    split
    · rename_i hs
      obtain ⟨e1, e2⟩ := sur_pst hN hf h (.inl hs)
      rw [e1]
      have ih := drn_ok hN hf rest r (k + 1) e2
      have hl := drn_le N r (pst N L (k + 1))
      rw [ih]
      congr 1
      rw [List.length_cons]; omega
    · simp
theorem cls_ok {N : Nat} (hN : N ≤ 4096) {L : List Dc} (hf : frm 0 0 L = none) : ∀ (v : List Dc) (k : Nat), k ≤ L.length → L.drop k = v → cls N (pst N L k) v = pst N L L.length
  | [], k, hk, h => by
    have : k = L.length := by
      have := congrArg List.length h
      rw [List.length_drop] at this
      simp at this; omega
    subst this; rfl
  | d :: r, k, hk, h => by
    rw [cls]
    obtain ⟨e1, e2⟩ := sur_pst hN hf (r := r) (rest := []) (by rw [List.append_nil]; exact h) (.inr rfl)
    rw [e1]
    rw [List.append_nil] at e2
    refine cls_ok hN hf r (k + 1) ?_ e2
    have := congrArg List.length h
    rw [List.length_drop, List.length_cons] at this; omega

/-! The printer, as the document has it. -/
structure S9 where
  pr : Pr
  wt : List Dc
  dp : Nat
  cl : Bool
def s90 : S9 := ⟨pr0, [], 0, false⟩
def S9.put (N : Nat) (s : S9) (d : Dc) : S9 × Int :=
  if s.cl = true then (s, 4) else if rt d = true ∧ ¬ (d.k = 7 ∧ s.dp = 0) then (⟨(drn N s.pr (s.wt ++ [d])).1, (drn N s.pr (s.wt ++ [d])).2, dn d.k s.dp, false⟩, 0) else (s, 70)
def S9.close (N : Nat) (s : S9) : S9 × Int :=
  if s.cl = true then (s, 4) else if 0 < s.dp then (s, 70) else (⟨cls N s.pr s.wt, [], s.dp, true⟩, 0)
/-- What was told between two states. -/
def S9.told (s s' : S9) : List UInt8 := s'.pr.sk.out.drop s.pr.sk.out.length
/-- A beginning of layouts: how many Begins are open. -/
def opd : Int → List Dc → Option Int
  | o, [] => some o
  | o, d :: r => if rt d = true ∧ 0 ≤ o + dep d.k then opd (o + dep d.k) r else none
theorem frm_app : ∀ (l r : List Dc) (o o' : Int) (j : Nat), opd o l = some o' → frm o j (l ++ r) = frm o' (j + l.length) r
  | [], r, o, o', j, h => by simp only [opd, Option.some.injEq] at h; subst h; simp
  | d :: l, r, o, o', j, h => by
    simp only [opd] at h
    split at h
    · rename_i hc
      rw [List.cons_append]
      simp only [frm]
      rw [if_pos hc, frm_app l r _ o' _ h]
      congr 1
      rw [List.length_cons]; omega
    · cases h
theorem opd_app : ∀ (l r : List Dc) (o o' : Int), opd o l = some o' → opd o (l ++ r) = opd o' r
  | [], r, o, o', h => by simp only [opd, Option.some.injEq] at h; subst h; simp
  | d :: l, r, o, o', h => by
    simp only [opd] at h
    split at h
    · rename_i hc
      rw [List.cons_append]
      simp only [opd]
      rw [if_pos hc, opd_app l r _ o' h]
    · cases h
/-- The printer behind the pieces l. -/
structure Sin (N : Nat) (l : List Dc) (s : S9) : Prop where
  op : opd 0 l = some (s.dp : Int)
  cl : s.cl = false
  len : s.wt.length ≤ l.length
  wt : s.wt = l.drop (l.length - s.wt.length)
  pr : ∀ rest, frm 0 0 (l ++ rest) = none → s.pr = pst N (l ++ rest) (l.length - s.wt.length)
theorem sin0 (N : Nat) : Sin N [] s90 := ⟨rfl, rfl, Nat.le_refl _, rfl, fun rest _ => by simp [pst, puts, s90]⟩
theorem sin_put {N : Nat} (hN : N ≤ 4096) {l : List Dc} {s : S9} (h : Sin N l s) {d : Dc} (hd : rt d = true ∧ ¬ (d.k = 7 ∧ s.dp = 0)) : (s.put N d).2 = 0 ∧ Sin N (l ++ [d]) (s.put N d).1 := by
  have e : s.put N d = (⟨(drn N s.pr (s.wt ++ [d])).1, (drn N s.pr (s.wt ++ [d])).2, dn d.k s.dp, false⟩, 0) := by
    unfold S9.put; rw [if_neg (by rw [h.cl]; simp), if_pos hd]
  rw [e]
  obtain ⟨u, hu⟩ := drn_suf N (s.wt ++ [d]) s.pr
  have hle := drn_le N (s.wt ++ [d]) s.pr
  rw [List.length_append, List.length_singleton] at hle
  have hwl := h.len
  have hsuf : s.wt ++ [d] = (l ++ [d]).drop (l.length - s.wt.length) := by
    rw [List.drop_append_of_le_length (by omega), ← h.wt]
  refine ⟨rfl, ?_, rfl, ?_, ?_, ?_⟩
  · show opd 0 (l ++ [d]) = some ((dn d.k s.dp : Nat) : Int)
    rw [opd_app l [d] 0 _ h.op]
    have hk := hd.2
    have ed : (s.dp : Int) + dep d.k = ((dn d.k s.dp : Nat) : Int) ∧ 0 ≤ (s.dp : Int) + dep d.k := by
      unfold dep dn
      by_cases h6 : d.k = 6
      · simp only [if_pos h6]; omega
      · by_cases h7 : d.k = 7
        · simp only [if_neg h6, if_pos h7]; omega
        · simp only [if_neg h6, if_neg h7]; omega
    simp only [opd]
    rw [if_pos ⟨hd.1, ed.2⟩, ed.1]
  · show (drn N s.pr (s.wt ++ [d])).2.length ≤ (l ++ [d]).length
    rw [List.length_append, List.length_singleton]; omega
  · show (drn N s.pr (s.wt ++ [d])).2 = (l ++ [d]).drop ((l ++ [d]).length - (drn N s.pr (s.wt ++ [d])).2.length)
    have hul : u.length = s.wt.length + 1 - (drn N s.pr (s.wt ++ [d])).2.length := by
      have := congrArg List.length hu
      rw [List.length_append, List.length_append, List.length_singleton] at this; omega
    have e2 : (l ++ [d]).length - (drn N s.pr (s.wt ++ [d])).2.length = (l.length - s.wt.length) + u.length := by
      rw [List.length_append, List.length_singleton]; omega
    rw [e2, ← List.drop_drop, ← hsuf]
    conv => rhs; rw [hu]
    rw [List.drop_left]
  · intro rest hf
    have ea : l ++ [d] ++ rest = l ++ ([d] ++ rest) := List.append_assoc _ _ _
    have hp := h.pr ([d] ++ rest) (by rw [← ea]; exact hf)
    rw [← ea] at hp
    have hdr : (l ++ [d] ++ rest).drop (l.length - s.wt.length) = (s.wt ++ [d]) ++ rest := by
      rw [List.drop_append_of_le_length (by rw [List.length_append]; omega), ← hsuf]
    have := drn_ok hN hf rest (s.wt ++ [d]) (l.length - s.wt.length) hdr
    rw [← hp] at this
    show (drn N s.pr (s.wt ++ [d])).1 = pst N (l ++ [d] ++ rest) ((l ++ [d]).length - (drn N s.pr (s.wt ++ [d])).2.length)
    rw [this]
    congr 1
    rw [List.length_append, List.length_append, List.length_singleton]; omega
theorem sin_close {N : Nat} (hN : N ≤ 4096) {l : List Dc} {s : S9} (h : Sin N l s) (h0 : s.dp = 0) : (s.close N).2 = 0 ∧ (s.close N).1.pr = pst N l l.length ∧ (s.close N).1.wt = [] ∧ (s.close N).1.cl = true := by
  have e : s.close N = (⟨cls N s.pr s.wt, [], s.dp, true⟩, 0) := by
    unfold S9.close; rw [if_neg (by rw [h.cl]; simp), if_neg (by omega)]
  rw [e]
  refine ⟨rfl, ?_, rfl, rfl⟩
  have hf : frm 0 0 l = none := by
    have := frm_app l [] 0 _ 0 h.op
    rw [List.append_nil] at this
    rw [this, h0]; rfl
  have hp := h.pr [] (by rw [List.append_nil]; exact hf)
  rw [List.append_nil] at hp
  show cls N s.pr s.wt = _
  rw [hp]
  exact cls_ok hN hf s.wt _ (by omega) h.wt.symm

/-! What was told stays. -/
theorem put_out (N : Nat) (d : Dc) (n : Nat) (p : Pr) : p.sk.out <+: (put N d n p).sk.out := by
  have hh : ∀ m, (p.hold m).sk.out = p.sk.out := fun m => by unfold Pr.hold; split <;> rfl
  have he : p.sk.out <+: p.endl.sk.out := by
    unfold Pr.endl
    split
    · exact List.prefix_refl _
    · exact List.prefix_append _ _
  unfold put
  split
  · show p.sk.out <+: (p.sk.text d.t).out
    unfold St6.text
    split
    · exact List.prefix_refl _
    · exact List.prefix_append _ _
  split
  · rw [hh]; exact List.prefix_refl _
  split
  · split
    · exact he
    · rw [hh]; exact List.prefix_refl _
  split
  · exact he
  split
  · split
    · show p.sk.out <+: p.sk.empty.out
      unfold St6.empty
      split
      · exact List.prefix_append _ _
      · exact List.prefix_refl _
    · exact List.prefix_refl _
  split
  · exact List.prefix_refl _
  split
  · exact List.prefix_refl _
  · exact List.prefix_refl _
theorem drn_out (N : Nat) : ∀ (v : List Dc) (p : Pr), p.sk.out <+: (drn N p v).1.sk.out
  | [], p => List.prefix_refl _
  | d :: r, p => by
    rw [drn]
    split
    · exact (put_out N d _ p).trans (drn_out N r _)
    · exact List.prefix_refl _
theorem cls_out (N : Nat) : ∀ (v : List Dc) (p : Pr), p.sk.out <+: (cls N p v).sk.out
  | [], p => List.prefix_refl _
  | d :: r, p => by
    rw [cls]
    exact (put_out N d _ p).trans (cls_out N r _)
theorem S9.put_pre (N : Nat) (s : S9) (d : Dc) : s.pr.sk.out <+: (s.put N d).1.pr.sk.out := by
  unfold S9.put
  split
  · exact List.prefix_refl _
  · split
    · exact drn_out N _ _
    · exact List.prefix_refl _
theorem S9.close_pre (N : Nat) (s : S9) : s.pr.sk.out <+: (s.close N).1.pr.sk.out := by
  unfold S9.close
  split
  · exact List.prefix_refl _
  · split
    · exact List.prefix_refl _
    · exact cls_out N _ _
theorem told_app {s s' : S9} (h : s.pr.sk.out <+: s'.pr.sk.out) : s'.pr.sk.out = s.pr.sk.out ++ s.told s' := by
  obtain ⟨t, ht⟩ := h
  unfold S9.told
  rw [← ht, List.drop_left]
theorem pst_pre {N : Nat} {L : List Dc} : ∀ k, k ≤ L.length → (pst N L k).sk.out <+: wout N L := by
  intro k hk
  rw [← pst_end]
  have : ∀ j, k ≤ j → j ≤ L.length → (pst N L k).sk.out <+: (pst N L j).sk.out := by
    intro j
    induction j with
    | zero => intro h _; have : k = 0 := by omega
              subst this; exact List.prefix_refl _
    | succ j ih =>
      intro h1 h2
      by_cases he : k = j + 1
      · subst he; exact List.prefix_refl _
      · obtain ⟨d, hd⟩ : ∃ d, L[j]? = some d := ⟨_, List.getElem?_eq_getElem (by omega)⟩
        obtain ⟨m, _, _, hp⟩ := pst_succ (n := N) hd
        rw [hp]
        exact (ih (by omega) (by omega)).trans (put_out N d m _)
  exact this L.length hk (Nat.le_refl _)
/-- What was told is a beginning of what is told of every layout that begins so. -/
theorem sin_pre {N : Nat} {l : List Dc} {s : S9} (h : Sin N l s) (rest : List Dc) (hf : frm 0 0 (l ++ rest) = none) : s.pr.sk.out <+: wout N (l ++ rest) := by
  rw [h.pr rest hf]
  exact pst_pre _ (by rw [List.length_append]; omega)

/-! When nothing is held. -/
theorem scB_far {R : Int} (hR : R ≤ 4096) {d : Dc} (h : 4097 ≤ pw d) (hk : d.k ≠ 6 ∧ d.k ≠ 7) : ∀ (v : List Dc) (n dp : Nat), 1 ≤ dp → (scB R n dp (v ++ [d])).2 = true
  | [], n, dp, hdp => by
    rw [List.nil_append, scB]
    have : dn d.k dp = dp := by unfold dn; rw [if_neg hk.1, if_neg hk.2]
    rw [this, if_neg (by omega), if_pos (by omega)]
  | x :: v, n, dp, hdp => by
    rw [List.cons_append, scB]
    split
    · rfl
    · rename_i h0
      split
      · rfl
      · exact scB_far hR h hk v _ _ (dn_pred hdp h0).2.1
theorem scH_far {R : Int} (hR : R ≤ 4096) {d : Dc} (h : 4097 ≤ pw d) : ∀ (v : List Dc) (n dp : Nat), (scH R n dp (v ++ [d])).2 = true
  | [], n, dp => by
    rw [List.nil_append, scH]
    split
    · rfl
    · split
      · rfl
      · rw [scH]; simp only [decide_eq_true_eq]; omega
  | x :: v, n, dp => by
    rw [List.cons_append, scH]
    split
    · rfl
    · split
      · rfl
      · exact scH_far hR h v _ _
theorem drn_far {N : Nat} (hN : N ≤ 4096) {d : Dc} (h : 4097 ≤ pw d) (hk : d.k ≠ 6 ∧ d.k ≠ 7 ∧ d.k ≠ 3) : ∀ (v : List Dc) (p : Pr), (drn N p (v ++ [d])).2 = []
  | [], p => by
    rw [List.nil_append, drn]
    have : sur N p [d] = (0, true) := by simp only [sur, if_neg hk.1, if_neg hk.2.2]
    rw [this, if_pos rfl]; rfl
  | x :: v, p => by
    rw [List.cons_append, drn]
    have : (sur N p (x :: (v ++ [d]))).2 = true := by
      simp only [sur]
      split
      · split
        · rfl
        · exact scB_far (by omega) h ⟨hk.1, hk.2.1⟩ v _ _ (Nat.le_refl _)
      · split
        · split
          · rfl
          · exact scH_far (by omega) h v _ _
        · rfl
    rw [if_pos this]
    exact drn_far hN h hk v _
end Go.Proofs.YtmjhfabdbajchaaGreatDoor
set_option linter.unusedVariables false
set_option linter.unusedSimpArgs false
namespace Go.Proofs.YtmjhfabdbajchaaGreatDoor
open Go.RowKit

/-! What layer 9's statements lay (none of a dump). -/
def clf : Nat → List Dc → List Dc × Nat
  | o, [] => ([], o)
  | o, d :: r => if rt d = true ∧ ¬ (d.k = 7 ∧ o = 0) then (d :: (clf (dn d.k o) r).1, (clf (dn d.k o) r).2) else clf o r
/-- A layout in which each Begin is ended, of right pieces alone. -/
def clo (l : List Dc) : List Dc := (clf 0 l).1 ++ List.replicate (clf 0 l).2 (dK 7)
theorem dn_dep {k : Int} {o : Nat} (h : ¬ (k = 7 ∧ o = 0)) : (o : Int) + dep k = ((dn k o : Nat) : Int) ∧ 0 ≤ (o : Int) + dep k := by
  unfold dep dn
  by_cases h6 : k = 6
  · simp only [if_pos h6]; omega
  · by_cases h7 : k = 7
    · simp only [if_neg h6, if_pos h7]; omega
    · simp only [if_neg h6, if_neg h7]; omega
theorem dep_dn {k : Int} {o : Nat} (h : 0 ≤ (o : Int) + dep k) : ¬ (k = 7 ∧ o = 0) := by
  rintro ⟨rfl, rfl⟩
  simp [dep] at h
theorem opd_cons (o : Nat) (d : Dc) (r : List Dc) : opd o (d :: r) = if rt d = true ∧ ¬ (d.k = 7 ∧ o = 0) then opd ((dn d.k o : Nat) : Int) r else none := by
  rw [opd]
  by_cases h : rt d = true ∧ ¬ (d.k = 7 ∧ o = 0)
  · obtain ⟨e1, e2⟩ := dn_dep h.2
    rw [if_pos h, if_pos ⟨h.1, e2⟩, e1]
  · rw [if_neg h, if_neg]
    exact fun h2 => h ⟨h2.1, dep_dn h2.2⟩
theorem clf_opd : ∀ (l : List Dc) (o : Nat), opd o (clf o l).1 = some (((clf o l).2 : Nat) : Int)
  | [], o => rfl
  | d :: r, o => by
    rw [clf]
    split
    · rename_i h
      show opd o (d :: (clf (dn d.k o) r).1) = _
      rw [opd_cons, if_pos h]
      exact clf_opd r _
    · exact clf_opd r o
theorem frm_ends : ∀ (o : Nat) (j : Nat), frm o j (List.replicate o (dK 7)) = none
  | 0, j => rfl
  | o + 1, j => by
    have e : dep (dK 7).k = -1 := rfl
    rw [List.replicate_succ, frm, e, if_pos ⟨by decide, by omega⟩]
    rw [show ((o + 1 : Nat) : Int) + -1 = (o : Int) by omega]
    exact frm_ends o _
theorem clo_ok (l : List Dc) : frm 0 0 (clo l) = none := by
  unfold clo
  rw [frm_app _ _ 0 _ 0 (clf_opd l 0)]
  exact frm_ends _ _
theorem clf_app : ∀ (l more : List Dc) (o o' : Nat), opd o l = some (o' : Int) → clf o (l ++ more) = (l ++ (clf o' more).1, (clf o' more).2)
  | [], more, o, o', h => by
    simp only [opd, Option.some.injEq] at h
    have : o = o' := by omega
    subst this; rfl
  | d :: l, more, o, o', h => by
    rw [opd_cons] at h
    split at h
    · rename_i hc
      rw [List.cons_append, clf, if_pos hc, clf_app l more _ o' h]; rfl
    · cases h
theorem clo_pre {l : List Dc} {o : Nat} (h : opd 0 l = some (o : Int)) (more : List Dc) : ∃ rest, clo (l ++ more) = l ++ rest ∧ frm 0 0 (l ++ rest) = none := by
  have e := clf_app l more 0 o h
  refine ⟨(clf o more).1 ++ List.replicate (clf o more).2 (dK 7), ?_, ?_⟩
  · unfold clo; rw [e, List.append_assoc]
  · have := clo_ok (l ++ more)
    unfold clo at this
    rw [e, List.append_assoc] at this; exact this

/-! The chapter's examples. -/
def aw9 : List Dc := [⟨6, bE, 0, 2, false⟩, dT [97, 97, 97], ⟨3, bE, 1, 0, false⟩, dT [98, 98, 98], ⟨3, bE, 1, 0, false⟩]
def s9k (k : Nat) : S9 := (aw9.take k).foldl (fun s d => (s.put 10 d).1) s90
theorem s9k_succ {k : Nat} {d : Dc} (h : aw9[k]? = some d) : s9k (k + 1) = ((s9k k).put 10 d).1 := by
  unfold s9k
  rw [List.take_add_one, h]
  simp
theorem aw9_a (k : Nat) (d : Dc) (h : aw9[k]? = some d) : ((s9k k).put 10 d).2 = 0 ∧ (s9k k).told ((s9k k).put 10 d).1 = [] ∧ ((s9k k).put 10 d).1.wt.length = k + 1 := by
  have hk : k < 5 := (List.getElem?_eq_some_iff.1 h).1
  match k, hk with
  | 0, _ => cases h; decide +kernel
  | 1, _ => cases h; decide +kernel
  | 2, _ => cases h; decide +kernel
  | 3, _ => cases h; decide +kernel
  | 4, _ => cases h; decide +kernel
def s9a : S9 := ((s9k 5).put 10 (dT [99, 99, 99])).1
def s9b : S9 := (s9a.put 10 (dK 7)).1
def s9c : S9 := (s9b.close 10).1
theorem aw9_b : ((s9k 5).put 10 (dT [99, 99, 99])).2 = 0 ∧ (s9k 5).told s9a = [97, 97, 97, 32, 98, 98, 98, 10, 32, 32, 99, 99, 99] ∧ s9a.wt.length = 0 := by decide +kernel
theorem aw9_c : (s9a.close 10).2 = 70 ∧ (s9a.put 10 (dK 7)).2 = 0 ∧ s9a.told s9b = [] ∧ (s9b.close 10).2 = 0 ∧ s9b.told s9c = [] ∧ s9c.wt.length = 0 ∧ (s9c.put 10 (dT [97])).2 = 4 := by decide +kernel
end Go.Proofs.YtmjhfabdbajchaaGreatDoor
set_option linter.unusedVariables false
set_option linter.unusedSimpArgs false
namespace Go.Proofs.YtmjhfabdbajchaaGreatDoor
open Go.RowKit

/-! How wide that is for which a piece looks for room, told piece by piece (none of a dump). -/
structure Sc where
  n : Nat
  dp : Nat
  ok : Bool
def stB (s : Sc) (d : Dc) : Sc := if s.ok = true then s else if dn d.k s.dp = 0 then ⟨s.n, s.dp, true⟩ else ⟨s.n + pw d, dn d.k s.dp, false⟩
def stH (s : Sc) (d : Dc) : Sc := if s.ok = true then s else if s.dp = 0 ∧ Ends d then ⟨s.n, s.dp, true⟩ else ⟨s.n + pw d, dn d.k s.dp, false⟩
theorem stB_ok {s : Sc} (h : s.ok = true) (r : List Dc) : r.foldl stB s = s := by
  induction r with
  | nil => rfl
  | cons d r ih => rw [List.foldl_cons]; have : stB s d = s := by unfold stB; rw [if_pos h]
                   rw [this]; exact ih
theorem stH_ok {s : Sc} (h : s.ok = true) (r : List Dc) : r.foldl stH s = s := by
  induction r with
  | nil => rfl
  | cons d r ih => rw [List.foldl_cons]; have : stH s d = s := by unfold stH; rw [if_pos h]
                   rw [this]; exact ih
theorem stB_le (r : List Dc) : ∀ s : Sc, s.n ≤ (r.foldl stB s).n := by
  induction r with
  | nil => intro s; exact Nat.le_refl _
  | cons d r ih =>
    intro s
    rw [List.foldl_cons]
    refine Nat.le_trans ?_ (ih _)
    unfold stB
    split
    · exact Nat.le_refl _
    · split
      · exact Nat.le_refl _
      · exact Nat.le_add_right _ _
theorem stH_le (r : List Dc) : ∀ s : Sc, s.n ≤ (r.foldl stH s).n := by
  induction r with
  | nil => intro s; exact Nat.le_refl _
  | cons d r ih =>
    intro s
    rw [List.foldl_cons]
    refine Nat.le_trans ?_ (ih _)
    unfold stH
    split
    · exact Nat.le_refl _
    · split
      · exact Nat.le_refl _
      · exact Nat.le_add_right _ _
def pws (l : List Dc) : Nat := (l.map pw).sum
theorem pws_cons (d : Dc) (r : List Dc) : pws (d :: r) = pw d + pws r := by simp [pws]
theorem pws_snoc (l : List Dc) (d : Dc) : pws (l ++ [d]) = pws l + pw d := by simp [pws]
theorem stB_sum : ∀ (r : List Dc) (n dp : Nat), (r.foldl stB ⟨n, dp, false⟩).ok = false → (r.foldl stB ⟨n, dp, false⟩).n = n + pws r
  | [], n, dp, _ => rfl
  | d :: r, n, dp, h => by
    rw [List.foldl_cons] at h ⊢
    by_cases h0 : dn d.k dp = 0
    · have e : stB ⟨n, dp, false⟩ d = ⟨n, dp, true⟩ := by simp [stB, h0]
      rw [e, stB_ok rfl] at h; cases h
    · have e : stB ⟨n, dp, false⟩ d = ⟨n + pw d, dn d.k dp, false⟩ := by simp [stB, h0]
      rw [e] at h ⊢
      rw [stB_sum r _ _ h, pws_cons]; omega
theorem stH_sum : ∀ (r : List Dc) (n dp : Nat), (r.foldl stH ⟨n, dp, false⟩).ok = false → (r.foldl stH ⟨n, dp, false⟩).n = n + pws r
  | [], n, dp, _ => rfl
  | d :: r, n, dp, h => by
    rw [List.foldl_cons] at h ⊢
    by_cases h0 : dp = 0 ∧ Ends d
    · have e : stH ⟨n, dp, false⟩ d = ⟨n, dp, true⟩ := by simp [stH, h0]
      rw [e, stH_ok rfl] at h; cases h
    · have e : stH ⟨n, dp, false⟩ d = ⟨n + pw d, dn d.k dp, false⟩ := by simp only [stH, Bool.false_eq_true, if_false, if_neg h0]
      rw [e] at h ⊢
      rw [stH_sum r _ _ h, pws_cons]; omega
theorem stB_top : ∀ (r : List Dc) (n dp : Nat), (r.foldl stB ⟨n, dp, false⟩).n ≤ n + pws r
  | [], n, dp => Nat.le_refl _
  | d :: r, n, dp => by
    rw [List.foldl_cons, pws_cons]
    by_cases h0 : dn d.k dp = 0
    · have e : stB ⟨n, dp, false⟩ d = ⟨n, dp, true⟩ := by simp [stB, h0]
      rw [e, stB_ok rfl]; exact Nat.le_add_right _ _
    · have e : stB ⟨n, dp, false⟩ d = ⟨n + pw d, dn d.k dp, false⟩ := by simp [stB, h0]
      rw [e]
      have := stB_top r (n + pw d) (dn d.k dp)
      omega
theorem stH_top : ∀ (r : List Dc) (n dp : Nat), (r.foldl stH ⟨n, dp, false⟩).n ≤ n + pws r
  | [], n, dp => Nat.le_refl _
  | d :: r, n, dp => by
    rw [List.foldl_cons, pws_cons]
    by_cases h0 : dp = 0 ∧ Ends d
    · have e : stH ⟨n, dp, false⟩ d = ⟨n, dp, true⟩ := by simp [stH, h0]
      rw [e, stH_ok rfl]; exact Nat.le_add_right _ _
    · have e : stH ⟨n, dp, false⟩ d = ⟨n + pw d, dn d.k dp, false⟩ := by simp only [stH, Bool.false_eq_true, if_false, if_neg h0]
      rw [e]
      have := stH_top r (n + pw d) (dn d.k dp)
      omega
theorem scB_iff (R : Int) : ∀ (r : List Dc) (n dp : Nat), (((scB R n dp r).1 : Int) ≤ R ↔ ((r.foldl stB ⟨n, dp, false⟩).n : Int) ≤ R)
  | [], n, dp => Iff.rfl
  | d :: r, n, dp => by
    rw [scB, List.foldl_cons]
    by_cases h0 : dn d.k dp = 0
    · have e : stB ⟨n, dp, false⟩ d = ⟨n, dp, true⟩ := by simp [stB, h0]
      rw [if_pos h0, e, stB_ok rfl]
    · have e : stB ⟨n, dp, false⟩ d = ⟨n + pw d, dn d.k dp, false⟩ := by simp [stB, h0]
      rw [if_neg h0, e]
      by_cases h1 : R < ((n + pw d : Nat) : Int)
      · rw [if_pos h1]
        have := stB_le r ⟨n + pw d, dn d.k dp, false⟩
        simp only at this ⊢
        omega
      · rw [if_neg h1]; exact scB_iff R r _ _
theorem scB_two (R : Int) : ∀ (r : List Dc) (n dp : Nat), (n : Int) ≤ R → ((scB R n dp r).2 = true ↔ ((r.foldl stB ⟨n, dp, false⟩).ok = true ∨ R < ((r.foldl stB ⟨n, dp, false⟩).n : Int)))
  | [], n, dp, h => by simp only [scB, List.foldl_nil, Bool.false_eq_true, false_or, false_iff]; omega
  | d :: r, n, dp, h => by
    rw [scB, List.foldl_cons]
    by_cases h0 : dn d.k dp = 0
    · have e : stB ⟨n, dp, false⟩ d = ⟨n, dp, true⟩ := by simp [stB, h0]
      rw [if_pos h0, e, stB_ok rfl]; simp
    · have e : stB ⟨n, dp, false⟩ d = ⟨n + pw d, dn d.k dp, false⟩ := by simp [stB, h0]
      rw [if_neg h0, e]
      by_cases h1 : R < ((n + pw d : Nat) : Int)
      · rw [if_pos h1]
        have := stB_le r ⟨n + pw d, dn d.k dp, false⟩
        simp only at this
        simp only [true_iff]
        exact .inr (by omega)
      · rw [if_neg h1]; exact scB_two R r _ _ (by omega)
theorem scH_iff (R : Int) : ∀ (r : List Dc) (n dp : Nat), (((scH R n dp r).1 : Int) ≤ R ↔ ((r.foldl stH ⟨n, dp, false⟩).n : Int) ≤ R)
  | [], n, dp => Iff.rfl
  | d :: r, n, dp => by
    rw [scH, List.foldl_cons]
    by_cases h1 : R < (n : Int)
    · rw [if_pos h1]
      have := stH_le (d :: r) ⟨n, dp, false⟩
      rw [List.foldl_cons] at this
      simp only at this ⊢
      omega
    · rw [if_neg h1]
      by_cases h0 : dp = 0 ∧ Ends d
      · have e : stH ⟨n, dp, false⟩ d = ⟨n, dp, true⟩ := by simp [stH, h0]
        rw [if_pos h0, e, stH_ok rfl]
      · have e : stH ⟨n, dp, false⟩ d = ⟨n + pw d, dn d.k dp, false⟩ := by simp only [stH, Bool.false_eq_true, if_false, if_neg h0]
        rw [if_neg h0, e]
        exact scH_iff R r _ _
theorem scH_two (R : Int) : ∀ (r : List Dc) (n dp : Nat), ((scH R n dp r).2 = true ↔ ((r.foldl stH ⟨n, dp, false⟩).ok = true ∨ R < ((r.foldl stH ⟨n, dp, false⟩).n : Int)))
  | [], n, dp => by simp only [scH, List.foldl_nil, Bool.false_eq_true, false_or, decide_eq_true_eq]
  | d :: r, n, dp => by
    rw [scH, List.foldl_cons]
    by_cases h1 : R < (n : Int)
    · rw [if_pos h1]
      have := stH_le (d :: r) ⟨n, dp, false⟩
      rw [List.foldl_cons] at this
      simp only at this
      simp only [true_iff]
      exact .inr (by omega)
    · rw [if_neg h1]
      by_cases h0 : dp = 0 ∧ Ends d
      · have e : stH ⟨n, dp, false⟩ d = ⟨n, dp, true⟩ := by simp [stH, h0]
        rw [if_pos h0, e, stH_ok rfl]; simp
      · have e : stH ⟨n, dp, false⟩ d = ⟨n + pw d, dn d.k dp, false⟩ := by simp only [stH, Bool.false_eq_true, if_false, if_neg h0]
        rw [if_neg h0, e]
        exact scH_two R r _ _
/-- What is known of a piece, the pieces r behind it. -/
def sc (d : Dc) (r : List Dc) : Sc := if d.k = 6 then r.foldl stB ⟨0, 1, false⟩ else if d.k = 3 then r.foldl stH ⟨d.b.toNat, 0, false⟩ else ⟨0, 0, false⟩
theorem sc_top (d : Dc) (r : List Dc) : (sc d r).n ≤ pws (d :: r) := by
  unfold sc
  rw [pws_cons]
  split
  · have := stB_top r 0 1; omega
  · split
    · rename_i h6 h3
      have := stH_top r d.b.toNat 0
      have e : pw d = d.b.toNat := by unfold pw; rw [if_neg (by omega), if_neg (by omega), if_pos h3]
      omega
    · exact Nat.zero_le _
theorem sc_sum (d : Dc) (r : List Dc) (hk : d.k = 6 ∨ d.k = 3) (h : (sc d r).ok = false) : (sc d r).n = pws (d :: r) := by
  unfold sc at h ⊢
  rw [pws_cons]
  split at h
  · rename_i h6
    rw [if_pos h6, stB_sum r 0 1 h, pw_0 (.inl h6)]
  · rename_i h6
    have h3 : d.k = 3 := by omega
    rw [if_neg h6]
    rw [if_pos h3] at h ⊢
    have e : pw d = d.b.toNat := by unfold pw; rw [if_neg (by omega), if_neg (by omega), if_pos h3]
    rw [stH_sum r _ 0 h, e]

/-! A block that fits has been ended. -/
def hit : Nat → List Dc → Prop
  | _, [] => False
  | dp, d :: r => dn d.k dp = 0 ∨ hit (dn d.k dp) r
theorem hit_app : ∀ (r u : List Dc) (dp : Nat), hit dp r → hit dp (r ++ u)
  | [], u, dp, h => h.elim
  | d :: r, u, dp, h => by
    rw [List.cons_append]
    rcases h with h | h
    · exact .inl h
    · exact .inr (hit_app r u _ h)
theorem hit_B : ∀ (r : List Dc) (n dp : Nat), (r.foldl stB ⟨n, dp, false⟩).ok = true → hit dp r
  | [], n, dp, h => by cases h
  | d :: r, n, dp, h => by
    rw [List.foldl_cons] at h
    by_cases h0 : dn d.k dp = 0
    · exact .inl h0
    · have e : stB ⟨n, dp, false⟩ d = ⟨n + pw d, dn d.k dp, false⟩ := by simp [stB, h0]
      rw [e] at h
      exact .inr (hit_B r _ _ h)
theorem hit_H : ∀ (r : List Dc) (n dp : Nat), hit (dp + 1) r → (r.foldl stH ⟨n, dp, false⟩).ok = true
  | [], n, dp, h => h.elim
  | d :: r, n, dp, h => by
    rw [List.foldl_cons]
    by_cases h0 : dp = 0 ∧ Ends d
    · have e : stH ⟨n, dp, false⟩ d = ⟨n, dp, true⟩ := by simp [stH, h0]
      rw [e, stH_ok rfl]
    · have e : stH ⟨n, dp, false⟩ d = ⟨n + pw d, dn d.k dp, false⟩ := by simp only [stH, Bool.false_eq_true, if_false, if_neg h0]
      rw [e]
      have h7 : d.k = 7 → 0 < dp := fun h7 => by
        rcases Nat.eq_zero_or_pos dp with h1 | h1
        · exact absurd ⟨h1, .inr (.inr (.inr h7))⟩ h0
        · exact h1
      have e1 : dn d.k (dp + 1) = dn d.k dp + 1 := by
        unfold dn
        by_cases k6 : d.k = 6
        · rw [if_pos k6, if_pos k6]
        · rw [if_neg k6, if_neg k6]
          by_cases k7 : d.k = 7
          · have := h7 k7
            rw [if_pos k7, if_pos k7]; omega
          · rw [if_neg k7, if_neg k7]
      rcases h with h | h
      · omega
      · rw [e1] at h; exact hit_H r _ _ h
def Fe (p : Pr) (v : List Dc) : Prop := ∀ (m : Nat) (b : Bk), (p.bl :: p.ar)[m]? = some b → b.ft = true → hit (m + 1) v
theorem fe0 (v : List Dc) : Fe pr0 v := by
  intro m b h e
  have : b ∈ [pr0.bl] := List.mem_of_getElem? h
  simp at this; subst this; cases e
theorem Fe.app {p : Pr} {v : List Dc} (h : Fe p v) (u : List Dc) : Fe p (v ++ u) := fun m b hm hf => hit_app v u _ (h m b hm hf)
theorem Fe.same {p p' : Pr} {d : Dc} {r : List Dc} (h : Fe p (d :: r)) (hk : d.k ≠ 6 ∧ d.k ≠ 7) (hb : p'.bl = p.bl) (ha : p'.ar = p.ar) : Fe p' r := by
  intro m b hm hf
  rw [hb, ha] at hm
  have e : dn d.k (m + 1) = m + 1 := by unfold dn; rw [if_neg hk.1, if_neg hk.2]
  rcases h m b hm hf with h1 | h1
  · omega
  · rw [e] at h1; exact h1
theorem fe_put {N n : Nat} {p : Pr} {d : Dc} {r : List Dc} (h : Fe p (d :: r)) (hd : rt d = true) (h7 : d.k = 7 → p.ar ≠ []) (h6 : d.k = 6 → p.fits N n = true → hit 1 r) : Fe (put N d n p) r := by
  cases rt_of hd with
  | text t hq => exact h.same ⟨by simp, by simp⟩ rfl rfl
  | brk m hq =>
    have e : put N ⟨3, bE, m, 0, false⟩ n p = if p.brk N n then p.endl else p.hold m.toNat := by simp [put]
    rw [e]
    split
    · exact h.same ⟨by simp, by simp⟩ (endl_bl p).1 (endl_bl p).2
    · exact h.same ⟨by simp, by simp⟩ (hold_at p m.toNat).2.1 (hold_at p m.toNat).2.2
  | beg m e hq =>
    have ep : put N ⟨6, bE, 0, m, e⟩ n p = { p with ar := p.bl :: p.ar, bl := ⟨min (p.bl.ind + m.toNat) 1000, e, p.fits N n⟩ } := by simp [put]
    rw [ep]
    intro k b hk hf
    cases k with
    | zero =>
      simp at hk
      subst hk
      exact h6 rfl hf
    | succ k =>
      rcases h k b (by simpa using hk) hf with h1 | h1
      · exact absurd h1 (by simp [dn])
      · exact h1
  | blank =>
    have e : put N ⟨2, bE, 0, 0, false⟩ n p = p.hold 1 := by simp [put]
    rw [e]
    exact h.same ⟨by simp, by simp⟩ (hold_at p 1).2.1 (hold_at p 1).2.2
  | hard =>
    have e : put N ⟨4, bE, 0, 0, false⟩ n p = p.endl := by simp [put]
    rw [e]
    exact h.same ⟨by simp, by simp⟩ (endl_bl p).1 (endl_bl p).2
  | empty =>
    have e : put N ⟨5, bE, 0, 0, false⟩ n p = if p.en then { p with sk := p.sk.empty, en := false } else p := by simp [put]
    rw [e]
    split
    · exact h.same ⟨by simp, by simp⟩ rfl rfl
    · exact h.same ⟨by simp, by simp⟩ rfl rfl
  | «end» =>
    obtain ⟨b0, r0, har⟩ : ∃ b r, p.ar = b :: r := by
      cases ha : p.ar with
      | nil => exact absurd ha (h7 rfl)
      | cons b r => exact ⟨b, r, rfl⟩
    have ep : put N ⟨7, bE, 0, 0, false⟩ n p = { p with bl := b0, ar := r0 } := by simp [put, har]
    rw [ep]
    intro k b hk hf
    rcases h (k + 1) b (by rw [har]; simpa using hk) hf with h1 | h1
    · exact absurd h1 (by simp [dn])
    · exact h1

/-! What the code prints. -/
def csr (N : Nat) (p : Pr) (d : Dc) (ok : Bool) (n : Nat) : Bool := !(decide (d.k = 6 ∨ d.k = 3) && !ok) || !p.fits N n || (decide (d.k = 3) && (p.sk.fresh || p.bl.ev))
theorem fits_room {N n : Nat} {p : Pr} : p.fits N n = decide ((n : Int) ≤ (N : Int) - (p.at : Nat)) := by
  unfold Pr.fits; rw [decide_eq_decide]; omega
theorem sur_csr {N : Nat} {p : Pr} {d : Dc} {r : List Dc} (h : Fe p (d :: r)) : (sur N p (d :: r)).2 = csr N p d (sc d r).ok (sc d r).n := by
  unfold csr
  by_cases h6 : d.k = 6
  · have e : sur N p (d :: r) = if (N : Int) - (p.at : Nat) < 0 then (0, true) else scB ((N : Int) - (p.at : Nat)) 0 1 r := by simp only [sur, if_pos h6]
    have es : sc d r = r.foldl stB ⟨0, 1, false⟩ := by unfold sc; rw [if_pos h6]
    rw [e, es, fits_room]
    have h3 : ¬ d.k = 3 := by omega
    simp only [h6, h3]
    by_cases hR : (N : Int) - (p.at : Nat) < 0
    · rw [if_pos hR]
      have : ¬ ((((r.foldl stB ⟨0, 1, false⟩).n : Nat) : Int) ≤ (N : Int) - (p.at : Nat)) := by omega
      simp [this]
    · rw [if_neg hR]
      have := scB_two ((N : Int) - (p.at : Nat)) r 0 1 (by omega)
      rw [Bool.eq_iff_iff, this]
      simp
  · by_cases h3 : d.k = 3
    · have e : sur N p (d :: r) = if p.sk.fresh || p.bl.ev || p.bl.ft then (0, true) else scH ((N : Int) - (p.at : Nat)) d.b.toNat 0 r := by simp only [sur, if_neg h6, if_pos h3]
      have es : sc d r = r.foldl stH ⟨d.b.toNat, 0, false⟩ := by unfold sc; rw [if_neg h6, if_pos h3]
      rw [e, es, fits_room]
      cases hf : p.sk.fresh
      · cases he : p.bl.ev
        · cases ht : p.bl.ft
          · have := scH_two ((N : Int) - (p.at : Nat)) r d.b.toNat 0
            simp only [Bool.or_self, Bool.false_eq_true, if_false]
            rw [Bool.eq_iff_iff, this]
            simp [h3]
          · have h1 := h 0 p.bl rfl ht
            have hdn : dn d.k 1 = 1 := by unfold dn; rw [if_neg h6, if_neg (by omega)]
            have h2 : hit 1 r := by
              rcases h1 with h1 | h1
              · rw [show (0 : Nat) + 1 = 1 from rfl, hdn] at h1; omega
              · rw [show (0 : Nat) + 1 = 1 from rfl, hdn] at h1; exact h1
            have := hit_H r d.b.toNat 0 h2
            simp [this]
        · simp [h3]
      · simp [h3]
    · have e : sur N p (d :: r) = (0, true) := by simp only [sur, if_neg h6, if_neg h3]
      rw [e]
      simp [h6, h3]
theorem stH_cum {rest : List Dc} : ∀ (v : List Dc) (n dp : Nat), (v.foldl stH ⟨n, dp, false⟩).ok = true → min (v.foldl stH ⟨n, dp, false⟩).n 4097 = min (n + cumH dp (nds (v ++ rest)).2.1 (nds (v ++ rest)).2.2) 4097
  | [], n, dp, h => by cases h
  | d :: r, n, dp, h => by
    rw [List.foldl_cons] at h ⊢
    by_cases h0 : dp = 0 ∧ Ends d
    · have e : stH ⟨n, dp, false⟩ d = ⟨n, dp, true⟩ := by simp [stH, h0]
      rw [e, stH_ok rfl]
      obtain ⟨rfl, h0⟩ := h0
      rw [List.cons_append, cumH_end _ _ h0, Nat.add_zero]
    · have e : stH ⟨n, dp, false⟩ d = ⟨n + pw d, dn d.k dp, false⟩ := by simp only [stH, Bool.false_eq_true, if_false, if_neg h0]
      rw [e] at h ⊢
      have ih := stH_cum (rest := rest) r _ _ h
      have hc := cumH_at d (r ++ rest) dp h0
      rw [ih, List.cons_append]
      omega
/-- The code's need does as well as the document's. -/
theorem put_csr {N : Nat} (hN : N ≤ 4096) {p : Pr} {d : Dc} {r rest : List Dc} (hI : Ft N p (nds (d :: (r ++ rest))).2.1 (nds (d :: (r ++ rest))).2.2) (h : Fe p (d :: r)) : put N d (sc d r).n p = put N d (sur N p (d :: r)).1 p := by
  refine put_same ⟨fun h6 => ?_, fun h3 => ?_⟩
  · have e : sur N p (d :: r) = if (N : Int) - (p.at : Nat) < 0 then (0, true) else scB ((N : Int) - (p.at : Nat)) 0 1 r := by simp only [sur, if_pos h6]
    have es : sc d r = r.foldl stB ⟨0, 1, false⟩ := by unfold sc; rw [if_pos h6]
    rw [e, es, fits_room, fits_room, decide_eq_decide]
    by_cases hR : (N : Int) - (p.at : Nat) < 0
    · rw [if_pos hR]; simp only; omega
    · rw [if_neg hR]; exact (scB_iff _ r 0 1).symm
  · have h6 : ¬ d.k = 6 := by omega
    have e : sur N p (d :: r) = if p.sk.fresh || p.bl.ev || p.bl.ft then (0, true) else scH ((N : Int) - (p.at : Nat)) d.b.toNat 0 r := by simp only [sur, if_neg h6, if_pos h3]
    have es : sc d r = r.foldl stH ⟨d.b.toNat, 0, false⟩ := by unfold sc; rw [if_neg h6, if_pos h3]
    by_cases hf : p.sk.fresh = true
    · exact .inl hf
    by_cases he : p.bl.ev = true
    · exact .inr (.inl he)
    refine .inr (.inr ?_)
    rw [es, fits_room, fits_room, decide_eq_decide]
    by_cases ht : p.bl.ft = true
    · rw [e, if_pos (by simp [ht])]
      have h1 := h 0 p.bl rfl ht
      have hdn : dn d.k 1 = 1 := by unfold dn; rw [if_neg h6, if_neg (by omega)]
      have h2 : hit 1 r := by
        rcases h1 with h1 | h1
        · rw [show (0 : Nat) + 1 = 1 from rfl, hdn] at h1; omega
        · rw [show (0 : Nat) + 1 = 1 from rfl, hdn] at h1; exact h1
      have h3' := stH_cum (rest := rest) r d.b.toNat 0 (hit_H r d.b.toNat 0 h2)
      have k1 := hI.ft 0 p.bl rfl ht
      have k2 := cumA_at d (r ++ rest) 0 (by omega)
      have k3 : dn d.k 0 = 0 := by unfold dn; rw [if_neg h6, if_neg (by omega)]
      have epw : pw d = d.b.toNat := by unfold pw; rw [if_neg (by omega), if_neg (by omega), if_pos h3]
      rw [k3, epw] at k2
      have k4 : (nds (r ++ rest)).2.1.hang ≤ (nds (r ++ rest)).2.1.all := (nds_ok (r ++ rest)).1
      have k5 : cumA 0 (nds (r ++ rest)).2.1 (nds (r ++ rest)).2.2 = (nds (r ++ rest)).2.1.all := rfl
      have k6 : cumH 0 (nds (r ++ rest)).2.1 (nds (r ++ rest)).2.2 = (nds (r ++ rest)).2.1.hang := rfl
      simp only
      omega
    · rw [e, if_neg (by simp [hf, he, ht])]
      exact (scH_iff _ r _ 0).symm
end Go.Proofs.YtmjhfabdbajchaaGreatDoor
set_option linter.unusedVariables false
set_option linter.unusedSimpArgs false
namespace Go.Proofs.YtmjhfabdbajchaaGreatDoor
open Go.RowKit

/-! The code's pieces (none of a dump). -/
abbrev wr (x : Int) : Int := IntKind.i64.wrap x
structure Px where
  d : Dc
  ah : Int
  st : Bool
  nd : Int
def lks (d : Dc) : Bool := decide (d.k = 6 ∨ d.k = 3)
def Px.need (tot : Int) (x : Px) : Int := if lks x.d && !x.st then wr (tot - x.ah) else x.nd
def Px.settle (tot : Int) (x : Px) : Px := ⟨x.d, x.ah, true, x.need tot⟩
abbrev Pm := Nat → Option Px
def upx (m : Pm) (b : Nat) (x : Px) : Pm := fun k => if k = b then some x else m k
theorem upx_self (m : Pm) (b : Nat) (x : Px) : upx m b x b = some x := if_pos rfl
theorem upx_ne (m : Pm) {b k : Nat} (x : Px) (h : k ≠ b) : upx m b x k = m k := if_neg h
/-- What settle does to those that wait, the last one first. -/
def sett (tot e : Int) : Pm → List Nat → Pm × List Nat
  | m, [] => (m, [])
  | m, b :: r => match m b with
    | none => (m, b :: r)
    | some x => if x.d.k = 3 then sett tot e (upx m b (x.settle tot)) r else if e = 7 then (upx m b (x.settle tot), r) else (m, b :: r)
def settk (tot e : Int) (m : Pm) (rl : List Nat) : Pm × List Nat := if e = 1 ∨ e = 2 ∨ e = 6 then (m, rl) else sett tot e m rl
/-- What is printed. -/
def cdr (N : Nat) (tot : Int) (m : Pm) : Pr → List Nat → Pr × List Nat
  | p, [] => (p, [])
  | p, b :: r => match m b with
    | none => (p, b :: r)
    | some x => if csr N p x.d x.st (x.need tot).toNat = true then cdr N tot m (put N x.d (x.need tot).toNat p) r else (p, b :: r)

def HI (m : Pm) (tot : Int) : List Nat → List Dc → Prop
  | [], [] => True
  | b :: bs, d :: r => (∃ ah, m b = some ⟨d, ah, (sc d r).ok, if (sc d r).ok then ((sc d r).n : Int) else 0⟩ ∧ wr (tot - ah) = ((pws (d :: r) : Nat) : Int)) ∧ HI m tot bs r
  | _, _ => False
def At9 : List Nat → List Dc → Nat → Dc → List Dc → Prop
  | b' :: bs, d' :: r', b, d, r => (b' = b ∧ d' = d ∧ r' = r) ∨ At9 bs r' b d r
  | _, _, _, _, _ => False
theorem HI.len {m : Pm} {tot : Int} : ∀ {hl : List Nat} {v : List Dc}, HI m tot hl v → hl.length = v.length
  | [], [], _ => rfl
  | b :: bs, d :: r, h => by rw [List.length_cons, List.length_cons, h.2.len]
  | [], d :: r, h => h.elim
  | b :: bs, [], h => h.elim
theorem HI.of {m : Pm} {tot : Int} : ∀ {hl : List Nat} {v : List Dc} {b : Nat} {d : Dc} {r : List Dc}, HI m tot hl v → At9 hl v b d r → (∃ ah, m b = some ⟨d, ah, (sc d r).ok, if (sc d r).ok then ((sc d r).n : Int) else 0⟩ ∧ wr (tot - ah) = ((pws (d :: r) : Nat) : Int))
  | b' :: bs, d' :: r', b, d, r, h, ha => by
    rcases ha with ⟨rfl, rfl, rfl⟩ | ha
    · exact h.1
    · exact h.2.of ha
  | [], [], _, _, _, _, ha => ha.elim
  | [], _ :: _, _, _, _, _, ha => ha.elim
  | _ :: _, [], _, _, _, _, ha => ha.elim
theorem At9.mem : ∀ {hl : List Nat} {v : List Dc} {b : Nat} {d : Dc} {r : List Dc}, At9 hl v b d r → b ∈ hl
  | b' :: bs, d' :: r', b, d, r, ha => by
    rcases ha with ⟨rfl, rfl, rfl⟩ | ha
    · exact List.mem_cons_self
    · exact List.mem_cons_of_mem _ ha.mem
  | [], [], _, _, _, ha => ha.elim
  | [], _ :: _, _, _, _, ha => ha.elim
  | _ :: _, [], _, _, _, ha => ha.elim
theorem At9.snoc {nb : Nat} {x : Dc} : ∀ {hl : List Nat} {v : List Dc} {b : Nat} {d : Dc} {r' : List Dc}, hl.length = v.length → At9 (hl ++ [nb]) (v ++ [x]) b d r' → (∃ r, r' = r ++ [x] ∧ At9 hl v b d r) ∨ (b = nb ∧ d = x ∧ r' = [])
  | [], [], b, d, r', _, h => by
    rcases h with ⟨rfl, rfl, rfl⟩ | h
    · exact .inr ⟨rfl, rfl, rfl⟩
    · exact h.elim
  | b' :: bs, d' :: rs, b, d, r', hl, h => by
    rcases h with ⟨rfl, rfl, h⟩ | h
    · exact .inl ⟨rs, h.symm, .inl ⟨rfl, rfl, rfl⟩⟩
    · rcases At9.snoc (by simpa using hl) h with ⟨r, h1, h2⟩ | h1
      · exact .inl ⟨r, h1, .inr h2⟩
      · exact .inr h1
  | [], d' :: rs, _, _, _, hl, _ => by simp at hl
  | b' :: bs, [], _, _, _, hl, _ => by simp at hl
/-- A piece's need. -/
theorem px_need {tot ah : Int} {d : Dc} {r : List Dc} (h : wr (tot - ah) = ((pws (d :: r) : Nat) : Int)) : Px.need tot ⟨d, ah, (sc d r).ok, if (sc d r).ok then ((sc d r).n : Int) else 0⟩ = (((sc d r).n : Nat) : Int) := by
  unfold Px.need
  cases ho : (sc d r).ok
  · by_cases hk : d.k = 6 ∨ d.k = 3
    · have : lks d = true := decide_eq_true hk
      simp only [this, Bool.not_false, Bool.and_self, if_true, h, sc_sum d r hk ho]
    · have : lks d = false := decide_eq_false hk
      have e : sc d r = ⟨0, 0, false⟩ := by unfold sc; rw [if_neg (by omega), if_neg (by omega)]
      simp [this, e]
  · simp
def WR (m : Pm) (hl : List Nat) (v : List Dc) (D : Nat) : Nat → List Nat → Prop
  | l, [] => l = D
  | l, b :: rl => ∃ x, m b = some x ∧ x.st = false ∧ ((x.d.k = 6 ∧ (∀ d r, At9 hl v b d r → (sc d r).dp = l + 1) ∧ WR m hl v D (l + 1) rl) ∨ (x.d.k = 3 ∧ (∀ d r, At9 hl v b d r → (sc d r).dp = l) ∧ (∀ b' r', rl = b' :: r' → ∃ x', m b' = some x' ∧ x'.d.k = 6) ∧ WR m hl v D l rl))
structure WI (m : Pm) (tot : Int) (hl rl : List Nat) (v : List Dc) (D : Nat) : Prop where
  hi : HI m tot hl v
  wr : WR m hl v D 0 rl
  cm : ∀ b d r, At9 hl v b d r → (d.k = 6 ∨ d.k = 3) → (sc d r).ok = false → b ∈ rl
  nh : hl.Nodup
  nw : rl.Nodup
theorem wi0 (tot : Int) : WI (fun _ => none) tot [] [] [] 0 := ⟨trivial, rfl, fun _ _ _ h => h.elim, List.nodup_nil, List.nodup_nil⟩
theorem WR.tail {m : Pm} {b0 : Nat} {d0 : Dc} {hl : List Nat} {v : List Dc} {D : Nat} : ∀ {l : Nat} {rl : List Nat}, WR m (b0 :: hl) (d0 :: v) D l rl → WR m hl v D l rl
  | l, [], h => h
  | l, b :: rl, h => by
    obtain ⟨x, h1, h2, h3⟩ := h
    refine ⟨x, h1, h2, ?_⟩
    rcases h3 with ⟨k1, k2, k3⟩ | ⟨k1, k2, k3, k4⟩
    · exact .inl ⟨k1, fun d r ha => k2 d r (.inr ha), k3.tail⟩
    · exact .inr ⟨k1, fun d r ha => k2 d r (.inr ha), k3, k4.tail⟩
/-- The first one that is held is held no more. -/
theorem WI.tail {m : Pm} {tot : Int} {b0 : Nat} {hl rl : List Nat} {d0 : Dc} {v : List Dc} {D : Nat} (h : WI m tot (b0 :: hl) rl (d0 :: v) D) : WI m tot hl rl v D :=
  ⟨h.hi.2, h.wr.tail, fun b d r ha hk ho => h.cm b d r (.inr ha) hk ho, (List.nodup_cons.1 h.nh).2, h.nw⟩
theorem WR.le {m : Pm} {hl : List Nat} {v : List Dc} {D : Nat} : ∀ {l : Nat} {rl : List Nat}, WR m hl v D l rl → l ≤ D ∧ rl.length ≤ 2 * (D - l) + 1 ∧ ((∀ b' r', rl = b' :: r' → ∃ x', m b' = some x' ∧ x'.d.k = 6) → rl.length ≤ 2 * (D - l))
  | l, [], h => by have : l = D := h; subst this; exact ⟨Nat.le_refl _, by simp, fun _ => by simp⟩
  | l, b :: rl, h => by
    obtain ⟨x, h1, h2, h3⟩ := h
    rcases h3 with ⟨k1, k2, k3⟩ | ⟨k1, k2, k3, k4⟩
    · obtain ⟨i1, i2, i3⟩ := k3.le
      rw [List.length_cons]
      exact ⟨by omega, by omega, fun _ => by omega⟩
    · obtain ⟨i1, i2, i3⟩ := k4.le
      have := i3 k3
      rw [List.length_cons]
      refine ⟨i1, by omega, fun h => ?_⟩
      obtain ⟨x', e1, e2⟩ := h b rl rfl
      rw [h1] at e1; cases e1
      omega
theorem WR.mem {m : Pm} {hl : List Nat} {v : List Dc} {D : Nat} : ∀ {l : Nat} {rl : List Nat}, WR m hl v D l rl → ∀ b ∈ rl, ∃ x, m b = some x ∧ x.st = false ∧ (x.d.k = 6 ∨ x.d.k = 3) ∧ ∀ d r, At9 hl v b d r → l ≤ (sc d r).dp ∧ (x.d.k = 6 → l + 1 ≤ (sc d r).dp)
  | l, [], h, b, hb => nomatch hb
  | l, b0 :: rl, h, b, hb => by
    obtain ⟨x, h1, h2, h3⟩ := h
    rcases List.mem_cons.1 hb with rfl | hb
    · rcases h3 with ⟨k1, k2, k3⟩ | ⟨k1, k2, k3, k4⟩
      · exact ⟨x, h1, h2, .inl k1, fun d r ha => by rw [k2 d r ha]; exact ⟨by omega, fun _ => Nat.le_refl _⟩⟩
      · exact ⟨x, h1, h2, .inr k1, fun d r ha => by rw [k2 d r ha]; exact ⟨Nat.le_refl _, fun e => by omega⟩⟩
    · rcases h3 with ⟨k1, k2, k3⟩ | ⟨k1, k2, k3, k4⟩
      · obtain ⟨x', e1, e2, e3, e4⟩ := k3.mem b hb
        exact ⟨x', e1, e2, e3, fun d r ha => ⟨by have := (e4 d r ha).1; omega, fun e => by have := (e4 d r ha).2 e; omega⟩⟩
      · exact k4.mem b hb
theorem sc_snoc (d : Dc) (r : List Dc) (x : Dc) : sc d (r ++ [x]) = if d.k = 6 then stB (sc d r) x else if d.k = 3 then stH (sc d r) x else sc d r := by
  unfold sc
  split
  · rw [List.foldl_append]; rfl
  · split
    · rw [List.foldl_append]; rfl
    · rfl
/-- What is not ended goes on. -/
theorem sc_on {d : Dc} {r : List Dc} {x : Dc} (hk : d.k = 6 ∨ d.k = 3) (ho : (sc d r).ok = false) (h6 : d.k = 6 → dn x.k (sc d r).dp ≠ 0) (h3 : d.k = 3 → ¬ ((sc d r).dp = 0 ∧ Ends x)) : (sc d (r ++ [x])).ok = false ∧ (sc d (r ++ [x])).dp = dn x.k (sc d r).dp := by
  rw [sc_snoc]
  by_cases k6 : d.k = 6
  · rw [if_pos k6]
    unfold stB
    rw [if_neg (by rw [ho]; simp), if_neg (h6 k6)]
    exact ⟨rfl, rfl⟩
  · have k3 : d.k = 3 := by omega
    rw [if_neg k6, if_pos k3]
    unfold stH
    rw [if_neg (by rw [ho]; simp), if_neg (h3 k3)]
    exact ⟨rfl, rfl⟩
theorem sc_off {d : Dc} {r : List Dc} {x : Dc} (ho : (sc d r).ok = false) (h : (d.k = 6 ∧ dn x.k (sc d r).dp = 0) ∨ (d.k = 3 ∧ (sc d r).dp = 0 ∧ Ends x)) : (sc d (r ++ [x])).ok = true ∧ (sc d (r ++ [x])).n = (sc d r).n := by
  rw [sc_snoc]
  rcases h with ⟨k6, h⟩ | ⟨k3, h⟩
  · rw [if_pos k6]
    unfold stB
    rw [if_neg (by rw [ho]; simp), if_pos h]
    exact ⟨rfl, rfl⟩
  · rw [if_neg (by omega), if_pos k3]
    unfold stH
    rw [if_neg (by rw [ho]; simp), if_pos h]
    exact ⟨rfl, rfl⟩
theorem sc_stay {d : Dc} {r : List Dc} {x : Dc} (h : (sc d r).ok = true ∨ ¬ (d.k = 6 ∨ d.k = 3)) : sc d (r ++ [x]) = sc d r := by
  rw [sc_snoc]
  rcases h with h | h
  · split
    · unfold stB; rw [if_pos h]
    · split
      · unfold stH; rw [if_pos h]
      · rfl
  · rw [if_neg (by omega), if_neg (by omega)]
theorem dn_succ {k : Int} {l : Nat} (h : k = 7 → 1 ≤ l) : dn k (l + 1) = dn k l + 1 := by
  unfold dn
  by_cases k6 : k = 6
  · rw [if_pos k6, if_pos k6]
  · rw [if_neg k6, if_neg k6]
    by_cases k7 : k = 7
    · have := h k7
      rw [if_pos k7, if_pos k7]; omega
    · rw [if_neg k7, if_neg k7]
theorem dn_ge {k : Int} {l : Nat} : l - 1 ≤ dn k l ∧ (k ≠ 7 → l ≤ dn k l) := by
  unfold dn
  by_cases k6 : k = 6
  · rw [if_pos k6]; exact ⟨by omega, fun _ => by omega⟩
  · rw [if_neg k6]
    by_cases k7 : k = 7
    · rw [if_pos k7]; exact ⟨Nat.le_refl _, fun h => absurd k7 h⟩
    · rw [if_neg k7]; exact ⟨by omega, fun _ => Nat.le_refl _⟩
/-- Those that still wait. -/
theorem WR.shift {m m' : Pm} {tot : Int} {hl : List Nat} {v : List Dc} {D nb : Nat} {x : Dc} (hi : HI m tot hl v) : ∀ {l : Nat} {rl : List Nat}, WR m hl v D l rl → (∀ b ∈ rl, m' b = m b ∧ b ≠ nb) → (x.k = 7 → 1 ≤ l) → (Ends x → 1 ≤ l ∨ (∀ b' r', rl = b' :: r' → ∃ x', m b' = some x' ∧ x'.d.k = 6)) → WR m' (hl ++ [nb]) (v ++ [x]) (dn x.k D) (dn x.k l) rl
  | l, [], h, _, _, _ => by have : l = D := h; subst this; exact rfl
  | l, b :: rl, h, hm, h7, hE => by
    have hw := h
    obtain ⟨y, h1, h2, h3⟩ := h
    have hat : ∀ d r', At9 (hl ++ [nb]) (v ++ [x]) b d r' → ∃ r, r' = r ++ [x] ∧ At9 hl v b d r ∧ d = y.d ∧ (sc d r).ok = false := by
      intro d r' ha
      rcases At9.snoc hi.len ha with ⟨r, e1, e2⟩ | ⟨e1, _, _⟩
      · obtain ⟨ah, e3, _⟩ := hi.of e2
        rw [h1] at e3
        cases e3
        exact ⟨r, e1, e2, rfl, h2⟩
      · exact absurd e1 (hm b List.mem_cons_self).2
    refine ⟨y, (hm b List.mem_cons_self).1.trans h1, h2, ?_⟩
    rcases h3 with ⟨k1, k2, k3⟩ | ⟨k1, k2, k3, k4⟩
    · refine .inl ⟨k1, fun d r' ha => ?_, ?_⟩
      · obtain ⟨r, rfl, e2, rfl, e4⟩ := hat d r' ha
        have hd := k2 _ r e2
        have hs := dn_succ (k := x.k) h7
        have := sc_on (x := x) (.inl k1) e4 (fun _ => by rw [hd, hs]; omega) (fun e => by omega)
        rw [this.2, hd, hs]
      · have hs := dn_succ (k := x.k) h7
        rw [← hs]
        exact k3.shift hi (fun b hb => hm b (List.mem_cons_of_mem _ hb)) (fun _ => by omega) (fun _ => .inl (by omega))
    · have hl1 : Ends x → 1 ≤ l := fun e => by
        rcases hE e with h | h
        · exact h
        · obtain ⟨x', e1, e2⟩ := h b rl rfl
          rw [h1] at e1; cases e1; omega
      refine .inr ⟨k1, fun d r' ha => ?_, fun b' r' e => ?_, ?_⟩
      · obtain ⟨r, rfl, e2, rfl, e4⟩ := hat d r' ha
        have hd := k2 _ r e2
        have := sc_on (x := x) (.inr k1) e4 (fun e => by omega) (fun _ => by rw [hd]; exact fun h => by have := hl1 h.2; omega)
        rw [this.2, hd]
      · obtain ⟨x', e1, e2⟩ := k3 b' r' e
        exact ⟨x', by rw [(hm b' (by rw [e]; exact List.mem_cons_of_mem _ List.mem_cons_self)).1]; exact e1, e2⟩
      · exact k4.shift hi (fun b hb => hm b (List.mem_cons_of_mem _ hb)) h7 (fun e => .inl (hl1 e))
/-- What is held, one more behind it. -/
theorem HI.snoc {m m' : Pm} {tot tot' : Int} {nb : Nat} {x : Dc} (hx : m' nb = some ⟨x, tot, false, 0⟩) (ht : tot' = wr (tot + (pw x : Nat))) : ∀ {hl : List Nat} {v : List Dc}, HI m tot hl v → pws v + pw x < 4611686018427387904 → (∀ b d r, At9 hl v b d r → ∀ ah, m b = some ⟨d, ah, (sc d r).ok, if (sc d r).ok then ((sc d r).n : Int) else 0⟩ → wr (tot - ah) = ((pws (d :: r) : Nat) : Int) → m' b = some ⟨d, ah, (sc d (r ++ [x])).ok, if (sc d (r ++ [x])).ok then ((sc d (r ++ [x])).n : Int) else 0⟩) → HI m' tot' (hl ++ [nb]) (v ++ [x])
  | [], [], _, hb, _ => by
    refine ⟨⟨tot, ?_, ?_⟩, trivial⟩
    · have e : (sc x []).ok = false := by unfold sc; split; rfl; split <;> rfl
      rw [e]; exact hx
    · rw [ht, pws_cons]
      have : pws [] = 0 := rfl
      rw [this] at hb ⊢
      unfold wr
      rw [IntKind.wrap_i64, IntKind.wrap_i64]
      omega
  | b :: bs, d :: r, h, hb, hA => by
    obtain ⟨⟨ah, h1, h2⟩, h3⟩ := h
    rw [pws_cons] at hb
    refine ⟨⟨ah, hA b d r (.inl ⟨rfl, rfl, rfl⟩) ah h1 h2, ?_⟩, HI.snoc hx ht h3 (by omega) (fun b' d' r' ha => hA b' d' r' (.inr ha))⟩
    have e : d :: (r ++ [x]) = (d :: r) ++ [x] := rfl
    show wr (tot' - ah) = ((pws (d :: (r ++ [x])) : Nat) : Int)
    rw [e, pws_snoc, ht]
    rw [pws_cons] at h2 ⊢
    unfold wr at h2 ⊢
    rw [IntKind.wrap_i64] at h2 ⊢
    rw [IntKind.wrap_i64]
    omega
  | [], _ :: _, h, _, _ => h.elim
  | _ :: _, [], h, _, _ => h.elim
end Go.Proofs.YtmjhfabdbajchaaGreatDoor
set_option linter.unusedVariables false
set_option linter.unusedSimpArgs false
namespace Go.Proofs.YtmjhfabdbajchaaGreatDoor
open Go.RowKit

theorem sin_step {N : Nat} (hN : N ≤ 4096) {l : List Dc} {p : Pr} {d : Dc} {r : List Dc} {dp : Nat} (h : Sin N l ⟨p, d :: r, dp, false⟩) (hs : (sur N p (d :: r)).2 = true) : Sin N l ⟨put N d (sur N p (d :: r)).1 p, r, dp, false⟩ := by
  have hlen : r.length + 1 ≤ l.length := h.len
  have hwt : d :: r = l.drop (l.length - (r.length + 1)) := h.wt
  refine ⟨h.op, rfl, by show r.length ≤ l.length; omega, ?_, ?_⟩
  · show r = l.drop (l.length - r.length)
    have e : l.length - r.length = (l.length - (r.length + 1)) + 1 := by omega
    rw [e, ← List.drop_drop, ← hwt]; rfl
  · intro rest hf
    have hp : p = pst N (l ++ rest) (l.length - (r.length + 1)) := h.pr rest hf
    have hdr : (l ++ rest).drop (l.length - (r.length + 1)) = d :: (r ++ rest) := by
      rw [List.drop_append_of_le_length (by omega), ← hwt]; rfl
    have := (sur_pst hN hf hdr (.inl (by rw [← hp]; exact hs))).1
    rw [← hp] at this
    show put N d (sur N p (d :: r)).1 p = pst N (l ++ rest) (l.length - r.length)
    rw [this]
    congr 1; omega
theorem sin_ft {N : Nat} (hN : N ≤ 4096) {l : List Dc} {p : Pr} {v : List Dc} {dp : Nat} (h : Sin N l ⟨p, v, dp, false⟩) : ∃ rest, Ft N p (nds (v ++ rest)).2.1 (nds (v ++ rest)).2.2 ∧ (∀ d ∈ v, rt d = true) ∧ ∀ d r, v = d :: r → d.k = 7 → p.ar ≠ [] := by
  have hf : frm 0 0 (l ++ List.replicate dp (dK 7)) = none := by
    rw [frm_app l _ 0 _ 0 h.op]; exact frm_ends _ _
  have hlen : v.length ≤ l.length := h.len
  have hwt : v = l.drop (l.length - v.length) := h.wt
  have hp : p = pst N (l ++ List.replicate dp (dK 7)) (l.length - v.length) := h.pr _ hf
  have hdr : (l ++ List.replicate dp (dK 7)).drop (l.length - v.length) = v ++ List.replicate dp (dK 7) := by
    rw [List.drop_append_of_le_length (by omega), ← hwt]
  have := ft_pst hN hf (l.length - v.length) (by rw [List.length_append]; omega)
  rw [← hp, hdr] at this
  refine ⟨_, this, fun d hd => frm_rt _ 0 0 hf d (List.mem_append_left _ ?_), fun d r hv h7 => ?_⟩
  · rw [hwt] at hd; exact List.mem_of_mem_drop hd
  · have hd : (l ++ List.replicate dp (dK 7))[l.length - v.length]? = some d := by
      have e : ((l ++ List.replicate dp (dK 7)).drop (l.length - v.length))[0]? = some d := by rw [hdr, hv]; rfl
      rw [List.getElem?_drop] at e; simpa using e
    rw [hp]
    exact pst_seven hf hd h7
/-- What the code prints is what the document prints. -/
theorem cdr_drn {N : Nat} (hN : N ≤ 4096) {l : List Dc} {m : Pm} {tot : Int} {dp D : Nat} {rl : List Nat} : ∀ (hl : List Nat) (v : List Dc) (p : Pr), WI m tot hl rl v D → Sin N l ⟨p, v, dp, false⟩ → Fe p v → (cdr N tot m p hl).1 = (drn N p v).1 ∧ WI m tot (cdr N tot m p hl).2 rl (drn N p v).2 D ∧ Sin N l ⟨(drn N p v).1, (drn N p v).2, dp, false⟩ ∧ Fe (drn N p v).1 (drn N p v).2
  | [], [], p, hw, hS, hF => ⟨rfl, hw, hS, hF⟩
  | [], _ :: _, p, hw, hS, hF => hw.hi.elim
  | _ :: _, [], p, hw, hS, hF => hw.hi.elim
  | b :: bs, d :: r, p, hw, hS, hF => by
    obtain ⟨⟨ah, h1, h2⟩, _⟩ := hw.hi
    have hn := px_need h2
    have e1 : cdr N tot m p (b :: bs) = if csr N p d (sc d r).ok (sc d r).n = true then cdr N tot m (put N d (sc d r).n p) bs else (p, b :: bs) := by
      rw [cdr, h1]
      simp only [hn, Int.toNat_natCast]
    have hs := sur_csr (N := N) hF
    obtain ⟨rest, hft, hrt, h7⟩ := sin_ft hN hS
    have hp := put_csr hN (r := r) (rest := rest) hft hF
    rw [e1, drn, hs]
    by_cases hc : csr N p d (sc d r).ok (sc d r).n = true
    · rw [if_pos hc, if_pos hc, ← hp]
      have hS' := sin_step hN hS (hs.trans hc)
      rw [← hp] at hS'
      refine cdr_drn hN bs r _ hw.tail hS' (fe_put hF (hrt d List.mem_cons_self) (h7 d r rfl) (fun h6 hfit => ?_))
      have h3 : ¬ d.k = 3 := by omega
      unfold csr at hc
      simp [hfit, h6] at hc
      have es : sc d r = r.foldl stB ⟨0, 1, false⟩ := by unfold sc; rw [if_pos h6]
      rw [es] at hc
      exact hit_B r 0 1 hc
    · rw [if_neg hc, if_neg hc]
      exact ⟨rfl, hw, hS, hF⟩

def HC (m : Pm) : List Nat → List Dc → Prop
  | [], [] => True
  | b :: bs, d :: r => (∃ ah st, m b = some ⟨d, ah, st, ((sc d r).n : Int)⟩ ∧ (lks d = true → st = true)) ∧ HC m bs r
  | _, _ => False
theorem cdr_cls {N : Nat} (hN : N ≤ 4096) {l : List Dc} (hf : frm 0 0 l = none) {m : Pm} {tot : Int} : ∀ (hl : List Nat) (v : List Dc) (k : Nat), HC m hl v → k ≤ l.length → l.drop k = v → Fe (pst N l k) v → cdr N tot m (pst N l k) hl = (cls N (pst N l k) v, [])
  | [], [], k, _, _, _, _ => rfl
  | [], _ :: _, k, h, _, _, _ => h.elim
  | _ :: _, [], k, h, _, _, _ => h.elim
  | b :: bs, d :: r, k, h, hk, hd, hF => by
    obtain ⟨⟨ah, st, h1, h2⟩, h3⟩ := h
    have hft := ft_pst hN hf k hk
    rw [hd] at hft
    have hp := put_csr hN (r := r) (rest := []) (by rw [List.append_nil]; exact hft) hF
    obtain ⟨e1, e2⟩ := sur_pst hN hf (r := r) (rest := []) (by rw [List.append_nil]; exact hd) (.inr rfl)
    rw [List.append_nil] at e2
    have hlt : k < l.length := by
      rcases Nat.lt_or_ge k l.length with h | h
      · exact h
      · rw [List.drop_eq_nil_of_le h] at hd; cases hd
    have hn : Px.need tot ⟨d, ah, st, ((sc d r).n : Int)⟩ = (((sc d r).n : Nat) : Int) := by
      unfold Px.need
      cases hl : lks d
      · simp
      · simp [h2 hl]
    have hc : csr N (pst N l k) d st (sc d r).n = true := by
      unfold csr
      cases hl : lks d
      · have : decide (d.k = 6 ∨ d.k = 3) = false := hl
        rw [this]; simp
      · rw [h2 hl]; simp
    have e3 : cdr N tot m (pst N l k) (b :: bs) = cdr N tot m (put N d (sc d r).n (pst N l k)) bs := by
      rw [cdr, h1]
      simp only [hn, Int.toNat_natCast]
      rw [if_pos hc]
    rw [e3, cls, hp, e1]
    have hdm : l[k]? = some d := by
      have e : (l.drop k)[0]? = some d := by rw [hd]; rfl
      rw [List.getElem?_drop] at e; simpa using e
    have hF' : Fe (put N d (sc d r).n (pst N l k)) r := by
      refine fe_put hF (frm_rt l 0 0 hf d (List.mem_of_getElem? hdm)) (pst_seven hf hdm) (fun h6 hfit => ?_)
      obtain ⟨o, h0, _, _, ho⟩ := pst_deep (n := N) hf k hk
      rw [hd] at ho
      simp only [frm] at ho
      split at ho
      · rw [show dep d.k = 1 by unfold dep; rw [if_pos h6]] at ho
        rw [fits_room, decide_eq_true_eq] at hfit
        have es : sc d r = r.foldl stB ⟨0, 1, false⟩ := by unfold sc; rw [if_pos h6]
        rw [es] at hfit
        have c1 := scB_close (R := (N : Int) - ((pst N l k).at : Nat)) r 0 1 _ _ (Nat.le_refl _) (by omega) ho
        rcases (scB_two ((N : Int) - ((pst N l k).at : Nat)) r 0 1 (by omega)).1 c1 with c2 | c2
        · exact hit_B r 0 1 c2
        · omega
      · cases ho
    rw [hp, e1] at hF'
    exact cdr_cls hN hf bs r (k + 1) h3 (by omega) e2 hF'
theorem HI.hc {m m' : Pm} {tot : Int} : ∀ {hl : List Nat} {v : List Dc}, HI m tot hl v → (∀ b d r, At9 hl v b d r → ∀ ah, m b = some ⟨d, ah, (sc d r).ok, if (sc d r).ok then ((sc d r).n : Int) else 0⟩ → wr (tot - ah) = ((pws (d :: r) : Nat) : Int) → ∃ ah st, m' b = some ⟨d, ah, st, ((sc d r).n : Int)⟩ ∧ (lks d = true → st = true)) → HC m' hl v
  | [], [], _, _ => trivial
  | b :: bs, d :: r, h, hA => by
    obtain ⟨⟨ah, h1, h2⟩, h3⟩ := h
    exact ⟨hA b d r (.inl ⟨rfl, rfl, rfl⟩) ah h1 h2, h3.hc (fun b' d' r' ha => hA b' d' r' (.inr ha))⟩
  | [], _ :: _, h, _ => h.elim
  | _ :: _, [], h, _ => h.elim
theorem sc_0 {d : Dc} {r : List Dc} (h : ¬ (d.k = 6 ∨ d.k = 3)) : sc d r = ⟨0, 0, false⟩ := by unfold sc; rw [if_neg (by omega), if_neg (by omega)]
/-- All is settled. -/
theorem WI.close {m : Pm} {tot : Int} {hl rl : List Nat} {v : List Dc} (h : WI m tot hl rl v 0) : HC (sett tot 7 m rl).1 hl v ∧ (sett tot 7 m rl).2 = [] := by
  have hstay : ∀ (b : Nat) (d : Dc) (r : List Dc) (ah : Int), m b = some ⟨d, ah, (sc d r).ok, if (sc d r).ok then ((sc d r).n : Int) else 0⟩ → (lks d = true → (sc d r).ok = true) → ∃ ah st, m b = some ⟨d, ah, st, ((sc d r).n : Int)⟩ ∧ (lks d = true → st = true) := by
    intro b d r ah h1 h2
    refine ⟨ah, (sc d r).ok, ?_, h2⟩
    rw [h1]
    cases ho : (sc d r).ok
    · have : ¬ (d.k = 6 ∨ d.k = 3) := fun hk => by
        have := h2 (decide_eq_true hk)
        rw [ho] at this; cases this
      rw [sc_0 this]; rfl
    · rfl
  have hw := h.wr
  cases rl with
  | nil =>
    refine ⟨h.hi.hc (fun b d r ha ah h1 h2 => ?_), rfl⟩
    refine hstay b d r ah h1 (fun hk => ?_)
    cases ho : (sc d r).ok
    · exact nomatch h.cm b d r ha (of_decide_eq_true hk) ho
    · rfl
  | cons c rest =>
    obtain ⟨x, e1, e2, e3⟩ := hw
    rcases e3 with ⟨k1, k2, k3⟩ | ⟨k1, k2, k3, k4⟩
    · have := k3.le.1; omega
    · have hr : rest = [] := by
        cases rest with
        | nil => rfl
        | cons b' r' =>
          obtain ⟨x', f1, f2⟩ := k3 b' r' rfl
          obtain ⟨x2, g1, g2, g3⟩ := k4
          rcases g3 with ⟨_, _, g3⟩ | ⟨g3, _⟩
          · have := g3.le.1; omega
          · rw [f1] at g1; cases g1; omega
      subst hr
      have es : sett tot 7 m [c] = (upx m c (x.settle tot), []) := by
        rw [sett, e1]
        simp only [k1, if_true]
        rfl
      rw [es]
      refine ⟨h.hi.hc (fun b d r ha ah h1 h2 => ?_), rfl⟩
      by_cases hb : b = c
      · subst hb
        rw [h1] at e1
        cases e1
        have ho : (sc d r).ok = false := e2
        refine ⟨ah, true, (upx_self _ _ _).trans ?_, fun _ => rfl⟩
        unfold Px.settle
        rw [px_need h2]
      · obtain ⟨ah', st, i1, i2⟩ := hstay b d r ah h1 (fun hk => by
          cases ho : (sc d r).ok
          · have := h.cm b d r ha (of_decide_eq_true hk) ho
            simp at this; exact absurd this hb
          · rfl)
        exact ⟨ah', st, (upx_ne _ _ hb).trans i1, i2⟩
theorem WR.on {m : Pm} {tot : Int} {hl : List Nat} {v : List Dc} {D : Nat} {x : Dc} (hi : HI m tot hl v) : ∀ {l : Nat} {rl : List Nat}, WR m hl v D l rl → (x.k = 7 → 1 ≤ l) → (Ends x → 1 ≤ l ∨ (∀ b' r', rl = b' :: r' → ∃ x', m b' = some x' ∧ x'.d.k = 6)) → ∀ b ∈ rl, ∀ d r, At9 hl v b d r → (sc d (r ++ [x])).ok = false
  | l, [], h, _, _, b, hb, _, _, _ => nomatch hb
  | l, b0 :: rl, h, h7, hE, b, hb, d, r, ha => by
    obtain ⟨y, h1, h2, h3⟩ := h
    have hl1 : y.d.k = 3 → Ends x → 1 ≤ l := fun k e => by
      rcases hE e with h | h
      · exact h
      · obtain ⟨x', e1, e2⟩ := h b0 rl rfl
        rw [h1] at e1; cases e1; omega
    rcases List.mem_cons.1 hb with rfl | hb
    · obtain ⟨ah, e3, _⟩ := hi.of ha
      rw [h1] at e3
      cases e3
      have h2' : (sc d r).ok = false := h2
      rcases h3 with ⟨k1, k2, k3⟩ | ⟨k1, k2, k3, k4⟩
      · have hd := k2 d r ha
        have hs := dn_succ (k := x.k) h7
        exact (sc_on (x := x) (.inl k1) h2' (fun _ => by rw [hd, hs]; omega) (fun e => by have : d.k = 6 := k1; omega)).1
      · have hd := k2 d r ha
        exact (sc_on (x := x) (.inr k1) h2' (fun e => by have : d.k = 3 := k1; omega) (fun _ => by rw [hd]; exact fun h => by have := hl1 k1 h.2; omega)).1
    · rcases h3 with ⟨k1, k2, k3⟩ | ⟨k1, k2, k3, k4⟩
      · exact k3.on hi (fun _ => by omega) (fun _ => .inl (by omega)) b hb d r ha
      · exact k4.on hi h7 (fun e => .inl (hl1 k1 e)) b hb d r ha
/-- What settle leaves. -/
theorem WI.sett {m : Pm} {tot : Int} {hl rl : List Nat} {v : List Dc} {D : Nat} (h : WI m tot hl rl v D) {x : Dc} (hx : rt x = true) (h7 : ¬ (x.k = 7 ∧ D = 0)) : ∃ P l, rl = P ++ (settk tot x.k m rl).2 ∧ (∀ b ∈ P, ∃ y, m b = some y ∧ y.st = false ∧ lks y.d = true ∧ (settk tot x.k m rl).1 b = some (y.settle tot) ∧ ∀ d r, At9 hl v b d r → (sc d (r ++ [x])).ok = true ∧ (sc d (r ++ [x])).n = (sc d r).n) ∧ (∀ b, b ∉ P → (settk tot x.k m rl).1 b = m b) ∧ WR m hl v D l (settk tot x.k m rl).2 ∧ (x.k = 7 → l = 1) ∧ (x.k ≠ 7 → l = 0) ∧ (Ends x → 1 ≤ l ∨ (∀ b' r', (settk tot x.k m rl).2 = b' :: r' → ∃ x', m b' = some x' ∧ x'.d.k = 6)) := by
  have hw := h.wr
  have hk7 : x.k = 1 ∨ x.k = 2 ∨ x.k = 3 ∨ x.k = 4 ∨ x.k = 5 ∨ x.k = 6 ∨ x.k = 7 := by cases rt_of hx <;> simp
  by_cases hq : x.k = 1 ∨ x.k = 2 ∨ x.k = 6
  · have e : settk tot x.k m rl = (m, rl) := by unfold settk; rw [if_pos hq]
    rw [e]
    exact ⟨[], 0, rfl, fun b hb => (nomatch hb), fun _ _ => rfl, hw, fun h => by omega, fun _ => rfl, fun h => by unfold Ends at h; omega⟩
  · have e : settk tot x.k m rl = Go.Proofs.YtmjhfabdbajchaaGreatDoor.sett tot x.k m rl := by unfold settk; rw [if_neg hq]
    have hE : Ends x := by unfold Ends; omega
    rw [e]
    clear e
    have hok : ∀ (b : Nat) (y : Px) (d : Dc) (r : List Dc), m b = some y → y.st = false → At9 hl v b d r → d = y.d ∧ (sc d r).ok = false := fun b y d r h1 h2 ha => by
      obtain ⟨ah, e3, _⟩ := h.hi.of ha
      rw [h1] at e3
      cases e3
      exact ⟨rfl, h2⟩
    -- a Begin that waits comes next
    have hbeg : ∀ (m' : Pm) (b : Nat) (y : Px) (r2 : List Nat), m b = some y → m' b = m b → y.st = false → y.d.k = 6 → (∀ d r, At9 hl v b d r → (sc d r).dp = 0 + 1) → WR m hl v D (0 + 1) r2 →
        ∃ P l, b :: r2 = P ++ (Go.Proofs.YtmjhfabdbajchaaGreatDoor.sett tot x.k m' (b :: r2)).2 ∧ (∀ c ∈ P, c = b ∧ lks y.d = true ∧ (Go.Proofs.YtmjhfabdbajchaaGreatDoor.sett tot x.k m' (b :: r2)).1 c = some (y.settle tot) ∧ ∀ d r, At9 hl v c d r → (sc d (r ++ [x])).ok = true ∧ (sc d (r ++ [x])).n = (sc d r).n) ∧ (∀ c, c ∉ P → (Go.Proofs.YtmjhfabdbajchaaGreatDoor.sett tot x.k m' (b :: r2)).1 c = m' c) ∧ WR m hl v D l (Go.Proofs.YtmjhfabdbajchaaGreatDoor.sett tot x.k m' (b :: r2)).2 ∧ (x.k = 7 → l = 1) ∧ (x.k ≠ 7 → l = 0) ∧ (1 ≤ l ∨ (∀ b' r', (Go.Proofs.YtmjhfabdbajchaaGreatDoor.sett tot x.k m' (b :: r2)).2 = b' :: r' → ∃ x', m b' = some x' ∧ x'.d.k = 6)) := by
      intro m' b y r2 h1 hm h2 k1 k2 k3
      have n3 : ¬ y.d.k = 3 := by omega
      by_cases hx7 : x.k = 7
      · have es : Go.Proofs.YtmjhfabdbajchaaGreatDoor.sett tot x.k m' (b :: r2) = (upx m' b (y.settle tot), r2) := by
          rw [Go.Proofs.YtmjhfabdbajchaaGreatDoor.sett, hm, h1]
          simp only [n3, hx7, if_true, if_false]
        rw [es]
        refine ⟨[b], 1, rfl, fun c hc => ?_, fun c hc => upx_ne _ _ (by simpa using hc), k3, fun _ => rfl, fun h => absurd hx7 h, .inl (Nat.le_refl _)⟩
        obtain rfl : c = b := by simpa using hc
        refine ⟨rfl, decide_eq_true (.inl k1), upx_self _ _ _, fun d r ha => ?_⟩
        obtain ⟨rfl, ho⟩ := hok c y d r h1 h2 ha
        refine sc_off ho (.inl ⟨k1, ?_⟩)
        rw [k2 _ r ha, hx7]; rfl
      · have es : Go.Proofs.YtmjhfabdbajchaaGreatDoor.sett tot x.k m' (b :: r2) = (m', b :: r2) := by
          rw [Go.Proofs.YtmjhfabdbajchaaGreatDoor.sett, hm, h1]
          simp only [n3, hx7, if_false]
        rw [es]
        exact ⟨[], 0, rfl, fun c hc => (nomatch hc), fun _ _ => rfl, ⟨y, h1, h2, .inl ⟨k1, k2, k3⟩⟩, fun h => absurd h hx7, fun _ => rfl, .inr fun b' r' e => by cases e; exact ⟨y, h1, k1⟩⟩
    cases rl with
    | nil =>
      have hD : 0 = D := hw
      have es : Go.Proofs.YtmjhfabdbajchaaGreatDoor.sett tot x.k m [] = (m, []) := rfl
      rw [es]
      exact ⟨[], 0, rfl, fun b hb => (nomatch hb), fun _ _ => rfl, hw, fun e => absurd ⟨e, hD.symm⟩ h7, fun _ => rfl, fun _ => .inr fun b' r' e => by cases e⟩
    | cons c rest =>
      obtain ⟨y, h1, h2, h3⟩ := hw
      rcases h3 with ⟨k1, k2, k3⟩ | ⟨k1, k2, k3, k4⟩
      · obtain ⟨P, l, i1, i2, i3, i4, i5, i6, i7⟩ := hbeg m c y rest h1 rfl h2 k1 k2 k3
        refine ⟨P, l, i1, fun b hb => ?_, i3, i4, i5, i6, fun _ => i7⟩
        obtain ⟨rfl, j1, j2, j3⟩ := i2 b hb
        exact ⟨y, h1, h2, j1, j2, j3⟩
      · have es : Go.Proofs.YtmjhfabdbajchaaGreatDoor.sett tot x.k m (c :: rest) = Go.Proofs.YtmjhfabdbajchaaGreatDoor.sett tot x.k (upx m c (y.settle tot)) rest := by
          rw [Go.Proofs.YtmjhfabdbajchaaGreatDoor.sett, h1]
          simp only [k1, if_true]
        rw [es]
        have hc : ∀ d r, At9 hl v c d r → (sc d (r ++ [x])).ok = true ∧ (sc d (r ++ [x])).n = (sc d r).n := fun d r ha => by
          obtain ⟨rfl, ho⟩ := hok c y d r h1 h2 ha
          exact sc_off ho (.inr ⟨k1, k2 _ r ha, hE⟩)
        have hnc : c ∉ rest := (List.nodup_cons.1 h.nw).1
        cases rest with
        | nil =>
          have hD : 0 = D := k4
          have es2 : Go.Proofs.YtmjhfabdbajchaaGreatDoor.sett tot x.k (upx m c (y.settle tot)) [] = (upx m c (y.settle tot), []) := rfl
          rw [es2]
          refine ⟨[c], 0, rfl, fun b hb => ?_, fun b hb => upx_ne _ _ (by simpa using hb), k4, fun e => absurd ⟨e, hD.symm⟩ h7, fun _ => rfl, fun _ => .inr fun b' r' e => by cases e⟩
          obtain rfl : b = c := by simpa using hb
          exact ⟨y, h1, h2, decide_eq_true (.inr k1), upx_self _ _ _, hc⟩
        | cons b2 r2 =>
          obtain ⟨x', f1, f2⟩ := k3 b2 r2 rfl
          obtain ⟨y2, g1, g2, g3⟩ := k4
          rw [f1] at g1
          cases g1
          rcases g3 with ⟨g3, g4, g5⟩ | ⟨g3, _⟩
          · have hne : b2 ≠ c := fun e => hnc (by rw [← e]; exact List.mem_cons_self)
            obtain ⟨P, l, i1, i2, i3, i4, i5, i6, i7⟩ := hbeg (upx m c (y.settle tot)) b2 x' r2 f1 (upx_ne _ _ hne) g2 g3 g4 g5
            have hcP : c ∉ P := fun hc => hne (i2 c hc).1.symm
            refine ⟨c :: P, l, by rw [List.cons_append, ← i1], fun b hb => ?_, fun b hb => ?_, i4, i5, i6, fun _ => i7⟩
            · rcases List.mem_cons.1 hb with rfl | hb
              · exact ⟨y, h1, h2, decide_eq_true (.inr k1), by rw [i3 b hcP, upx_self], hc⟩
              · obtain ⟨rfl, j1, j2, j3⟩ := i2 b hb
                exact ⟨x', f1, g2, j1, j2, j3⟩
            · rw [i3 b (fun hb' => hb (List.mem_cons_of_mem _ hb')), upx_ne _ _ (fun e => hb (by rw [e]; exact List.mem_cons_self))]
          · omega
theorem HI.mem {m : Pm} {tot : Int} : ∀ {hl : List Nat} {v : List Dc}, HI m tot hl v → ∀ b ∈ hl, ∃ y, m b = some y
  | [], [], _, b, hb => nomatch hb
  | b0 :: bs, d :: r, h, b, hb => by
    obtain ⟨⟨ah, h1, h2⟩, h3⟩ := h
    rcases List.mem_cons.1 hb with rfl | hb
    · exact ⟨_, h1⟩
    · exact h3.mem b hb
  | [], _ :: _, h, _, _ => h.elim
  | _ :: _, [], h, _, _ => h.elim
/-- One more piece. -/
theorem WI.take {m : Pm} {tot : Int} {hl rl : List Nat} {v : List Dc} {D : Nat} (h : WI m tot hl rl v D) {x : Dc} (hx : rt x = true) (h7 : ¬ (x.k = 7 ∧ D = 0)) {nb : Nat} (hnb : m nb = none) (hb : pws v + pw x < 4611686018427387904) :
    WI (upx (settk tot x.k m rl).1 nb ⟨x, tot, false, 0⟩) (Go.Proofs.YtmjhfabdbajchaaGreatDoor.wr (tot + (pw x : Nat))) (hl ++ [nb]) (if lks x = true then nb :: (settk tot x.k m rl).2 else (settk tot x.k m rl).2) (v ++ [x]) (dn x.k D) := by
  obtain ⟨P, l, i1, i2, i3, i4, i5, i6, i7⟩ := h.sett hx h7
  generalize hm1 : (settk tot x.k m rl).1 = m1 at *
  generalize hr1 : (settk tot x.k m rl).2 = rl1 at *
  have hsub : ∀ b ∈ rl1, b ∈ rl := fun b hb => by rw [i1]; exact List.mem_append_right _ hb
  have hnd : (P ++ rl1).Nodup := by rw [← i1]; exact h.nw
  have hdis : ∀ b ∈ rl1, b ∉ P := fun b hb hp => (List.nodup_append.1 hnd).2.2 b hp b hb rfl
  have hnr : ∀ b ∈ rl1, b ≠ nb := fun b hb e => by
    obtain ⟨y, e1, _⟩ := i4.mem b hb
    rw [e, hnb] at e1; cases e1
  have hnh : ∀ b ∈ hl, b ≠ nb := fun b hb e => by
    obtain ⟨y, e1⟩ := h.hi.mem b hb
    rw [e, hnb] at e1; cases e1
  have h7l : x.k = 7 → 1 ≤ l := fun e => by rw [i5 e]; exact Nat.le_refl _
  have hmm : ∀ b ∈ rl1, upx m1 nb ⟨x, tot, false, 0⟩ b = m b ∧ b ≠ nb := fun b hb => ⟨by rw [upx_ne _ _ (hnr b hb), i3 b (hdis b hb)], hnr b hb⟩
  have hsh := i4.shift (m' := upx m1 nb ⟨x, tot, false, 0⟩) (nb := nb) (x := x) h.hi hmm h7l i7
  have hon := i4.on (x := x) h.hi h7l i7
  have hnew : ∀ d r', At9 (hl ++ [nb]) (v ++ [x]) nb d r' → d = x ∧ r' = [] := fun d r' ha => by
    rcases At9.snoc h.hi.len ha with ⟨r, e1, e2⟩ | ⟨_, e1, e2⟩
    · exact absurd rfl (hnh nb e2.mem)
    · exact ⟨e1, e2⟩
  refine ⟨?_, ?_, ?_, ?_, ?_⟩
  · refine HI.snoc (m := m) (upx_self _ _ _) rfl h.hi hb (fun b d r ha ah h1 h2 => ?_)
    rw [upx_ne _ _ (hnh b ha.mem)]
    by_cases hbP : b ∈ P
    · obtain ⟨y, j1, j2, j3, j4, j5⟩ := i2 b hbP
      rw [h1] at j1
      cases j1
      obtain ⟨q1, q2⟩ := j5 d r ha
      have ho : (sc d r).ok = false := j2
      rw [j4, q1, q2]
      unfold Px.settle
      rw [px_need h2]
      simp
    · rw [i3 b hbP, h1]
      by_cases hs : (sc d r).ok = true ∨ ¬ (d.k = 6 ∨ d.k = 3)
      · rw [sc_stay hs]
      · have ho : (sc d r).ok = false := by
          cases ho : (sc d r).ok
          · rfl
          · exact absurd (.inl ho) hs
        have hk : d.k = 6 ∨ d.k = 3 := Decidable.byContradiction fun hk => hs (.inr hk)
        have hin := h.cm b d r ha hk ho
        rw [i1] at hin
        rcases List.mem_append.1 hin with hin | hin
        · exact absurd hin hbP
        · rw [hon b hin d r ha, ho]; rfl
  · cases hlk : lks x
    · simp only [Bool.false_eq_true, if_false]
      have hd0 : dn x.k l = 0 := by
        by_cases e7 : x.k = 7
        · rw [i5 e7, e7]; rfl
        · have h6 : x.k ≠ 6 := fun e => by have := of_decide_eq_false hlk; omega
          rw [i6 e7]; unfold dn; rw [if_neg h6, if_neg e7]
      rw [hd0] at hsh
      exact hsh
    · simp only [if_true]
      have hkk := of_decide_eq_true hlk
      have hl0 : l = 0 := i6 (by omega)
      rcases hkk with h6 | h3
      · have hd1 : dn x.k l = 0 + 1 := by rw [hl0, h6]; rfl
        rw [hd1] at hsh
        refine ⟨⟨x, tot, false, 0⟩, upx_self _ _ _, rfl, .inl ⟨h6, fun d r ha => ?_, hsh⟩⟩
        obtain ⟨rfl, rfl⟩ := hnew d r ha
        unfold sc; rw [if_pos h6]; rfl
      · have hd1 : dn x.k l = 0 := by rw [hl0, h3]; rfl
        rw [hd1] at hsh
        refine ⟨⟨x, tot, false, 0⟩, upx_self _ _ _, rfl, .inr ⟨h3, fun d r ha => ?_, fun b' r' e => ?_, hsh⟩⟩
        · obtain ⟨rfl, rfl⟩ := hnew d r ha
          unfold sc; rw [if_neg (by omega), if_pos h3]; rfl
        · rcases i7 (.inl h3) with h | h
          · omega
          · obtain ⟨x', e1, e2⟩ := h b' r' e
            exact ⟨x', by rw [(hmm b' (by rw [e]; exact List.mem_cons_self)).1]; exact e1, e2⟩
  · intro b d r' ha hk ho
    rcases At9.snoc h.hi.len ha with ⟨r, rfl, e2⟩ | ⟨rfl, rfl, rfl⟩
    · have ho' : (sc d r).ok = false := by
        cases h0 : (sc d r).ok
        · rfl
        · rw [sc_stay (.inl h0), h0] at ho; cases ho
      have hin := h.cm b d r e2 hk ho'
      rw [i1] at hin
      rcases List.mem_append.1 hin with hin | hin
      · obtain ⟨y, _, _, _, _, j5⟩ := i2 b hin
        rw [(j5 d r e2).1] at ho; cases ho
      · split
        · exact List.mem_cons_of_mem _ hin
        · exact hin
    · have : lks d = true := decide_eq_true hk
      rw [if_pos this]; exact List.mem_cons_self
  · rw [List.nodup_append]
    exact ⟨h.nh, List.nodup_cons.2 ⟨by simp, List.nodup_nil⟩, fun a ha b hb => by rw [List.mem_singleton.1 hb]; exact hnh a ha⟩
  · have h1 : rl1.Nodup := (List.nodup_append.1 hnd).2.1
    split
    · exact List.nodup_cons.2 ⟨fun hb => hnr nb hb rfl, h1⟩
    · exact h1
end Go.Proofs.YtmjhfabdbajchaaGreatDoor
