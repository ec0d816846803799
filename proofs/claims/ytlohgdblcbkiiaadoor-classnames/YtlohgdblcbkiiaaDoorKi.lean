import Derived.Test.YtlohgdblcbkiiaaDoorKe
import Derived.Test.YtlohgdblcbkiiaaDoorKg
import Derived.Test.YtlohgdblcbkiiaaDoorTe
import Derived.Test.YtlohgdblcbkiiaaDoorBack0
set_option linter.unusedVariables false
set_option linter.unusedSimpArgs false
namespace Go.Proofs.YtlohgdblcbkiiaaDoor
open Go.RowKit Go.Deep

theorem pts_rb_app (l : List Nat) (h : ∀ c ∈ l, pt c) (b : ByteArray) : pts (rb l ++ b) = l ++ pts b := by
  induction l with
  | nil =>
    have e : rb [] ++ b = b := by simp [rb]
    rw [e]; rfl
  | cons c l ih =>
    have hc := h c (by simp)
    rw [rb_cons, ByteArray.append_assoc]
    unfold pts
    rw [cons_dp _ _ c (dec_enc c hc _) (enc_pos c hc)]
    have := ih (fun x hx => h x (by simp [hx]))
    unfold pts at this
    rw [this]; rfl
theorem pts_pt (s : ByteArray) : ∀ c ∈ pts s, pt c := by
  intro c hc
  obtain ⟨i, _, rfl⟩ := List.mem_map.1 hc
  exact dp_pt s i
theorem pts_app_good (s b : ByteArray) (h : vl s = true) : pts (s ++ b) = pts s ++ pts b := by
  have e : rb (pts s) = s := (rb_iff s).2 h
  have := pts_rb_app (pts s) (pts_pt s) b
  rwa [e] at this

theorem keys_nmL : ∀ x ∈ wordL, nmL (pts x) = true := by
  have h : (wordL.all fun x => nmL (pts x)) = true := by decide +kernel
  exact fun x hx => List.all_eq_true.1 h x hx
theorem ky_nmL (s : ByteArray) (h : ky s = true) : nmL (pts s) = true := by
  unfold ky at h
  obtain ⟨x, hx, e⟩ := List.any_eq_true.1 h
  rw [of_decide_eq_true e]; exact keys_nmL x hx
theorem nm_or_ky (s : ByteArray) : (nm s || ky s) = nmL (pts s) := by
  unfold nm
  cases hk : ky s
  · simp
  · rw [ky_nmL s hk]; rfl
theorem nmL_snoc (l : List Nat) (c : Nat) (h : nmL l = true) : nmL (l ++ [c]) = pr' c := by
  cases l with
  | nil => cases h
  | cons p r =>
    have h1 : lt' p = true ∧ (r.all fun q => pr' q) = true := by simpa [nmL] using h
    show (lt' p && (r ++ [c]).all fun q => pr' q) = pr' c
    rw [h1.1, List.all_append, h1.2]; simp

theorem rn_pt (n : Int) : ∃ c : Nat, rn n = c ∧ pt c := by
  unfold rn
  split
  · exact ⟨65533, rfl, by unfold pt; omega⟩
  · exact ⟨n.toNat, by omega, by unfold pt; omega⟩

theorem one_text (n : Int) : ∃ c : Nat, rn n = c ∧ pts (runesBytes [rn n]) = [c] ∧ (runesBytes [rn n]).size ≤ 4 := by
  obtain ⟨c, hc, hp⟩ := rn_pt n
  refine ⟨c, hc, ?_, ?_⟩
  · rw [hc]
    have := runes_rb [c]
    rw [show [c].map (fun i : Nat => (i : Int)) = [(c : Int)] from rfl] at this
    rw [this]
    exact (rb_points [c] (by intro x hx; simp at hx; subst hx; exact hp)).1
  · rw [hc]
    have := runes_rb [c]
    rw [show [c].map (fun i : Nat => (i : Int)) = [(c : Int)] from rfl] at this
    rw [this, rb_cons, size_app]
    have h2 := enc_size c hp
    have h3 : (rb []).size = 0 := rfl
    rw [h3, h2]
    split <;> (try split) <;> (try split) <;> omega

theorem tw_first (s : ByteArray) (h : nmL (pts s) = true) : 1 ≤ tw s := by
  unfold tw
  cases hl : pts s with
  | nil => rw [hl] at h; cases h
  | cons p r =>
    rw [hl] at h
    have h1 : lt' p = true ∧ (r.all fun q => pr' q) = true := by simpa [nmL] using h
    have := lt_wd p h1.1
    have := (cl_bd r).1
    simp only [cl]; omega

theorem ff_pts : pts ⟨#[255]⟩ = [65533] := by decide +kernel
theorem ff_no : pr' ((65533 : Nat) : Int) = false := by decide +kernel

theorem names_core (s : ByteArray) (n : Int) (hL : nmL (pts s) = true) : vl s = true ∧ 1 ≤ tw s ∧ 0 < (P s).length ∧ lt' (dp s (st s 0)) = true ∧ (∀ k, k < (P s).length → pr' (dp s (st s k)) = true) ∧
    (runesBytes [rn n]).size ≤ 4 ∧ (nm (s ++ runesBytes [rn n]) || ky (s ++ runesBytes [rn n])) = pr' (rn n) ∧ nm (s ++ ⟨#[255]⟩) = false := by
  have hv := vl_of_nmL s hL
  obtain ⟨hne, hall⟩ := (nmL_iff _).1 hL
  have h0 : 0 < (P s).length := by
    rw [← pts_len]
    exact List.length_pos_iff.2 hne
  obtain ⟨c, hc, hE, hz⟩ := one_text n
  refine ⟨hv, tw_first s hL, h0, ?_, fun k hk => ?_, hz, ?_, ?_⟩
  · have := (hall 0 (by rw [pts_len]; exact h0)).2 rfl
    rwa [pts_getD s 0 h0] at this
  · have := (hall k (by rw [pts_len]; exact hk)).1
    rwa [pts_getD s k hk] at this
  · rw [nm_or_ky, pts_app_good s _ hv, hE, nmL_snoc _ c hL, hc]
  · have : nmL (pts (s ++ ⟨#[255]⟩)) = false := by
      rw [pts_app_good s _ hv, ff_pts, nmL_snoc _ _ hL]; exact ff_no
    unfold nm
    rw [this]; rfl
end Go.Proofs.YtlohgdblcbkiiaaDoor
