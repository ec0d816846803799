import Derived.Test.YtojjfbnpjhjidaaGreatDoorM10
set_option linter.unusedVariables false
set_option linter.unusedSimpArgs false
namespace Go.Proofs.YtojjfbnpjhjidaaGreatDoor.Lx
open Go.RowKit
theorem chr_asc (s : ByteArray) (i : Nat) (h : by8 s i < 128) : dw s i = 1 ∧ dp s i = by8 s i ∧ gd s i = true := by
  have e : Utf8.decode s i = (by8 s i, 1) := by rw [decode_eq]; unfold D; rw [if_pos h]
  unfold gd dw dp
  rw [e]
  refine ⟨rfl, rfl, ?_⟩
  show gdb (by8 s i : Int) 1 = true
  have hn : ((by8 s i : Int) != 65533) = true := by simp; omega
  unfold gdb; rw [hn]; rfl
theorem dp_asc (s : ByteArray) (i : Nat) (h : dp s i < 128) : by8 s i = dp s i := by
  by_cases h8 : by8 s i < 128
  · exact (chr_asc s i h8).2.1.symm
  · exfalso
    unfold dp at h
    rw [decode_eq] at h
    unfold D at h
    rw [if_neg h8] at h
    repeat' split at h
    all_goals first | (rename_i h2; simp only [ge_iff_le, Bool.and_eq_true, decide_eq_true_eq] at h2; omega) | (simp only [] at h; omega) | (exact absurd h (by decide))
theorem dp_eq (s : ByteArray) (i c : Nat) (hc : c < 128) : dp s i = c ↔ by8 s i = c := by
  constructor
  · intro h; rw [dp_asc s i (by omega), h]
  · intro h; rw [(chr_asc s i (by omega)).2.1, h]
theorem bd_asc (s : ByteArray) (j : Nat) (hj : j < s.size) (h : by8 s j < 128) : bd s j ∧ bd s (j + 1) := by
  obtain ⟨m, h1, h2, h3, h4, h5⟩ := st_cover s j (P s).length (by rw [st_end s _ (Nat.le_refl _)]; exact hj)
  have e : st s m = j := by
    apply Classical.byContradiction; intro hne
    have := (dec_inner s (st s m) (j - st s m) (by omega) (by omega)).2
    rw [show st s m + (j - st s m) = j by omega] at this
    omega
  refine ⟨⟨m, by omega, e⟩, ⟨m + 1, by omega, ?_⟩⟩
  rw [st_succ s m h2, e, (chr_asc s j h).1]
theorem bd_next {s : ByteArray} {a : Nat} (h : bd s a) (ha : a < s.size) : bd s (a + dw s a) := by
  obtain ⟨k, hk, rfl⟩ := h
  have hk2 := (st_lt s k).1 ha
  exact ⟨k + 1, by omega, st_succ s k hk2⟩
theorem bd_head {s : ByteArray} {a b : Nat} (ha : bd s a) (hb : bd s b) (hab : a ≤ b) : bd (s.extract 0 b) a := by
  obtain ⟨i, hi, rfl⟩ := ha
  obtain ⟨j, hj, rfl⟩ := hb
  have hij : i ≤ j := by
    apply Classical.byContradiction; intro h
    have := st_strict s j i (by omega) hi; omega
  have e := st_hd s j hj i hij
  have e2 := P_hd s j hj
  unfold hd at e e2
  exact ⟨i, by omega, e⟩
def pL (s : ByteArray) (a : Nat) : Int := aLine 1 (s.extract 0 a)
def pC (s : ByteArray) (a : Nat) : Int := aCol 1 (s.extract 0 a)
theorem p_zero (s : ByteArray) : pL s 0 = 1 ∧ pC s 0 = 1 := by
  have e : s.extract 0 0 = ByteArray.empty := by
    have hz : (s.extract 0 0).size = 0 := by rw [size_ext s 0 0 (Nat.zero_le _)]
    exact by8_ext _ _ (by rw [hz]; rfl) (fun j hj => by omega)
  unfold pL pC
  rw [e]
  have z : ByteArray.empty.size = 0 := rfl
  have hp : (P (ByteArray.empty.extract (lf ByteArray.empty 0) 0)).length = 0 := by
    have h1 := P_len (ByteArray.empty.extract (lf ByteArray.empty 0) 0)
    have h2 := size_ext ByteArray.empty (lf ByteArray.empty 0) 0 (Nat.zero_le _)
    omega
  constructor
  · unfold aLine
    rw [z]
    show wrap64 (1 + ((0 : Nat) : Int)) = 1
    unfold wrap64; omega
  · unfold aCol
    rw [z, hp]
    show wrap64 (1 + ((0 : Nat) : Int)) = 1
    unfold wrap64; omega
theorem adv_join {s : ByteArray} {a b : Nat} (ha : bd s a) (hb : bd s b) (hab : a ≤ b) (hs : s.size ≤ 2147483647) :
    aAt a (s.extract a b) = b ∧ aLine (pL s a) (s.extract a b) = pL s b ∧ aCol (pC s a) (s.extract a b) = pC s b := by
  have hb2 := bd_le hb
  have z : (s.extract 0 b).size = b := by rw [size_ext s 0 b hb2]; rfl
  have e1 : (s.extract 0 b).extract 0 a = s.extract 0 a := by
    rw [ext_ext s 0 b 0 a hb2 (by omega) (Nat.zero_le _), Nat.zero_add, Nat.zero_add]
  have e2 : (s.extract 0 b).extract a b = s.extract a b := by
    rw [ext_ext s 0 b a b hb2 (by omega) hab, Nat.zero_add, Nat.zero_add]
  refine ⟨?_, ?_, ?_⟩
  · unfold aAt; rw [size_ext s a b hb2]; unfold wrap64; omega
  · have h := line_join (s.extract 0 b) a (by omega) 1
    rw [z, e1, e2] at h
    exact h
  · have h := col_join (s.extract 0 b) a (bd_head ha hb hab) 1
    rw [z, e1, e2] at h
    exact h
theorem p_rng (s : ByteArray) (a : Nat) : -9223372036854775808 ≤ pL s a ∧ pL s a ≤ 9223372036854775807 := by
  unfold pL aLine wrap64; omega
theorem sign_asc : ∀ x ∈ signL, (x.size = 1 ∨ x.size = 2) ∧ by8 x (x.size - 1) < 128 := by decide
theorem end_bd {s : ByteArray} {a k p e : Nat} (hs : bd s a) (ha : a < s.size) (hk : tkBgn s a = k) (h0 : k ≠ 0) (h : tkEnd s a k = (p, e)) : bd s p := by
  have hQ : ∀ q o, q < 128 → by8 s a = q → run (gQuo s a q o) s.size (a + 1) 0 = (p, e) → bd s p := by
    intro q o hq hq2 h
    have := run_ind (gQuo_on s a q o) (fun b _ => bd s b) (fun r => bd s r.1) (by
      intro b m x e hb hI hx
      unfold gQuo at hx
      split at hx
      · cases hx; exact hs
      · rename_i h1
        split at hx
        · cases hx; exact hs
        · split at hx
          · rename_i h3
            cases hx
            exact (bd_asc s b (by omega) (by omega)).2
          · split at hx
            · cases hx; exact hI
            · cases hx) (by
      intro b m n hb hI hx
      unfold gQuo at hx
      split at hx
      · cases hx
      · rename_i h1
        split at hx
        · cases hx
        · split at hx
          · cases hx
          · split at hx
            · cases hx
            · cases hx; exact bd_next hI (by omega)) _ (a + 1) 0 (Nat.le_refl _) (by omega) (bd_asc s a ha (by omega)).2
    rw [h] at this
    exact this
  have hC : ∀ o, run (gCom s a o) s.size a 0 = (p, e) → bd s p := by
    intro o h
    have := run_ind (gCom_on s a o) (fun _ _ => True) (fun r => bd s r.1) (by
      intro b m x e hb hI hx
      unfold gCom at hx
      split at hx
      · split at hx
        · cases hx; exact hs
        · cases hx
          rw [show b = s.size by omega]; exact bd_size s
      · split at hx
        · rename_i h3
          cases hx
          exact (bd_ten s b h3.2).1
        · split at hx
          · cases hx; exact hs
          · split at hx
            · rename_i h3
              cases hx
              exact (bd_asc s b (by omega) (by omega)).2
            · cases hx) (by intros; trivial) _ a 0 (Nat.le_refl _) (by omega) trivial
    rw [h] at this
    exact this
  have hR : ∀ k, run (gRow s a k) s.size a 0 = (p, e) → bd s p := by
    intro k h
    have := run_ind (gRow_on s a k) (fun b _ => bd s b) (fun r => bd s r.1) (by
      intro b m x e hb hI hx
      unfold gRow at hx
      split at hx
      · cases hx; exact hI
      · split at hx
        · cases hx; exact hI
        · split at hx
          · cases hx; exact hs
          · cases hx) (by
      intro b m n hb hI hx
      unfold gRow at hx
      split at hx
      · cases hx
      · split at hx
        · cases hx
        · split at hx
          · cases hx
          · cases hx; exact bd_next hI (by omega)) _ a 0 (Nat.le_refl _) (by omega) hs
    rw [h] at this
    exact this
  unfold tkEnd at h
  by_cases k4 : k = 4
  · rw [if_pos k4] at h
    refine hQ 34 _ (by decide) ?_ h
    rw [k4] at hk
    unfold tkBgn at hk
    repeat' split at hk
    all_goals first | assumption | (cases hk; done)
  · rw [if_neg k4] at h
    by_cases k5 : k = 5
    · rw [if_pos k5] at h
      refine hQ 39 _ (by decide) ?_ h
      rw [k5] at hk
      unfold tkBgn at hk
      repeat' split at hk
      all_goals first | assumption | (cases hk; done)
    · rw [if_neg k5] at h
      by_cases k7 : k = 7
      · rw [if_pos k7] at h; exact hC _ h
      · rw [if_neg k7] at h
        by_cases k8 : k = 8
        · rw [if_pos k8] at h; exact hC _ h
        · rw [if_neg k8] at h
          by_cases k6 : k = 6
          · rw [if_pos k6] at h
            cases h
            have hsz : (sg s a).size ≠ 0 := by
              rw [k6] at hk
              unfold tkBgn at hk
              repeat' split at hk
              all_goals first | assumption | (cases hk; done)
            obtain ⟨g1, g2, g3⟩ := sg_in s a hsz
            obtain ⟨g4, g5⟩ := sign_asc _ g3
            have e1 : by8 s (a + ((sg s a).size - 1)) < 128 := by
              rw [← g2] at g5
              rw [size_ext s _ _ g1, by8_ext' s a _ _ (by omega)] at g5
              rw [show a + ((sg s a).size - 1) = a + (a + (sg s a).size - a - 1) by omega]
              exact g5
            have := (bd_asc s _ (by omega) e1).2
            rw [show a + ((sg s a).size - 1) + 1 = a + (sg s a).size by omega] at this
            exact this
          · rw [if_neg k6] at h; exact hR _ h
theorem bl_asc {c : Nat} (h : tkBl c = true) : c < 128 := by
  unfold tkBl at h
  simp at h
  omega
theorem fnd_bd (s : ByteArray) : ∀ (d a f : Nat), s.size - a ≤ d → bd s a → (∀ t ∈ (fnd s a f).1, bd s t.a) ∧ ((fnd s a f).2.1 ≠ 0 → bd s (fnd s a f).2.2)
  | d, a, f, hd, hb => by
    by_cases h : a < s.size
    · rw [fnd_step s a f h]
      cases d with
      | zero => omega
      | succ d =>
        by_cases h1 : by8 s a = 10
        · rw [if_pos h1]; exact fnd_bd s d (a + 1) (f + 1) (by omega) (bd_asc s a h (by omega)).2
        · rw [if_neg h1]
          by_cases h2 : tkBl (by8 s a) = true
          · rw [if_pos h2]; exact fnd_bd s d (a + 1) f (by omega) (bd_asc s a h (bl_asc h2)).2
          · rw [if_neg h2]
            by_cases h3 : tkBgn s a = 0
            · rw [if_pos h3]; exact ⟨fun t ht => (by cases ht), fun _ => hb⟩
            · rw [if_neg h3]
              have h6 : bd s (tkEnd s a (tkBgn s a)).1 := end_bd hb h rfl h3 rfl
              by_cases h4 : (tkEnd s a (tkBgn s a)).2 ≠ 0
              · rw [if_pos h4]; exact ⟨fun t ht => (by cases ht), fun _ => h6⟩
              · rw [if_neg h4]
                have h5 := tkEnd_ok s a (tkBgn s a) (tkEnd s a (tkBgn s a)).1 h rfl h3 (Prod.ext rfl (by simpa using h4))
                have ih := fnd_bd s d (tkEnd s a (tkBgn s a)).1 0 (by omega) h6
                refine ⟨fun t ht => ?_, ih.2⟩
                rcases List.mem_cons.1 ht with rfl | ht
                · exact hb
                · exact ih.1 t ht
    · rw [fnd_end s a f (by omega)]
      exact ⟨fun t ht => (by cases ht), fun h => absurd rfl h⟩
def gap (s : ByteArray) (a b n : Nat) : Prop := a ≤ b ∧ b ≤ s.size ∧ (∀ i, a ≤ i → i < b → by8 s i = 10 ∨ tkBl (by8 s i) = true) ∧ cn s b = cn s a + n
theorem gap_refl (s : ByteArray) (a : Nat) (h : a ≤ s.size) : gap s a a 0 := ⟨Nat.le_refl _, h, fun i h1 h2 => by omega, rfl⟩
theorem gap_feed {s : ByteArray} {a b n : Nat} (h : gap s a b n) (hb : b < s.size) (h10 : by8 s b = 10) : gap s a (b + 1) (n + 1) := by
  obtain ⟨h1, h2, h3, h4⟩ := h
  refine ⟨by omega, by omega, fun i hi hi2 => ?_, ?_⟩
  · by_cases e : i = b
    · rw [e]; exact .inl h10
    · exact h3 i hi (by omega)
  · rcases cn_step s b with ⟨_, e⟩ | ⟨e, _⟩
    · rw [e, h4]; omega
    · exact absurd h10 e
theorem gap_blank {s : ByteArray} {a b n : Nat} (h : gap s a b n) (hb : b < s.size) (h10 : by8 s b ≠ 10) (hbl : tkBl (by8 s b) = true) : gap s a (b + 1) n := by
  obtain ⟨h1, h2, h3, h4⟩ := h
  refine ⟨by omega, by omega, fun i hi hi2 => ?_, ?_⟩
  · by_cases e : i = b
    · rw [e]; exact .inr hbl
    · exact h3 i hi (by omega)
  · rcases cn_step s b with ⟨e, _⟩ | ⟨_, e⟩
    · exact absurd e h10
    · rw [e, h4]
theorem bl_ten : tkBl 10 = false := by decide
theorem gap_trim (s : ByteArray) (p : Nat) (hp : p ≤ s.size) : gap s (tkTrim s p) p 0 := by
  have h1 := tkTrim_le s p
  have h2 := tkTrim_gap s p
  refine ⟨h1, hp, fun i hi hi2 => .inr (h2 i hi hi2), ?_⟩
  have := cn_const' s h1 (fun k hk hk2 e => by have := h2 k hk hk2; rw [e, bl_ten] at this; cases this)
  rw [this]; rfl
def Cov (s : ByteArray) : Nat → List Tk → Nat → Prop
  | a, [], z => z = a
  | a, t :: l, z => gap s a t.a t.f ∧ t.a < t.e ∧ t.e ≤ s.size ∧ Cov s t.e l z
theorem end_err {s : ByteArray} {a k p e : Nat} (ha : a < s.size) (h : tkEnd s a k = (p, e)) (he : e ≠ 0) : (p = a ∧ (e = 101 ∨ e = 103)) ∨ (e = 102 ∧ a < p ∧ p ≤ s.size) := by
  have hQ : ∀ q o, run (gQuo s a q o) s.size (a + 1) 0 = (p, e) → (p = a ∧ (e = 101 ∨ e = 103)) ∨ (e = 102 ∧ a < p ∧ p ≤ s.size) := by
    intro q o h
    have := run_ind (gQuo_on s a q o) (fun b _ => a < b) (fun r => r.2 ≠ 0 → (r.1 = a ∧ (r.2 = 101 ∨ r.2 = 103)) ∨ (r.2 = 102 ∧ a < r.1 ∧ r.1 ≤ s.size)) (by
      intro b m x e hb hI hx he
      unfold gQuo at hx
      split at hx
      · cases hx; exact .inl ⟨rfl, .inl rfl⟩
      · split at hx
        · cases hx; exact .inl ⟨rfl, .inr rfl⟩
        · split at hx
          · cases hx; exact absurd rfl he
          · split at hx
            · cases hx; exact .inr ⟨rfl, hI, hb⟩
            · cases hx) (by intro b m n hb hI hx; show a < b + n; omega) _ (a + 1) 0 (Nat.le_refl _) (by omega) (by show a < a + 1; omega)
    rw [h] at this
    exact this he
  have hC : ∀ o, run (gCom s a o) s.size a 0 = (p, e) → p = a ∧ (e = 101 ∨ e = 103) := by
    intro o h
    have := run_ind (gCom_on s a o) (fun _ _ => True) (fun r => r.2 ≠ 0 → r.1 = a ∧ (r.2 = 101 ∨ r.2 = 103)) (by
      intro b m x e hb hI hx he
      unfold gCom at hx
      split at hx
      · split at hx
        · cases hx; exact ⟨rfl, .inl rfl⟩
        · cases hx; exact absurd rfl he
      · split at hx
        · cases hx; exact absurd rfl he
        · split at hx
          · cases hx; exact ⟨rfl, .inr rfl⟩
          · split at hx
            · cases hx; exact absurd rfl he
            · cases hx) (by intros; trivial) _ a 0 (Nat.le_refl _) (by omega) trivial
    rw [h] at this
    exact this he
  have hR : ∀ k, run (gRow s a k) s.size a 0 = (p, e) → p = a ∧ (e = 101 ∨ e = 103) := by
    intro k h
    have := run_ind (gRow_on s a k) (fun _ _ => True) (fun r => r.2 ≠ 0 → r.1 = a ∧ (r.2 = 101 ∨ r.2 = 103)) (by
      intro b m x e hb hI hx he
      unfold gRow at hx
      split at hx
      · cases hx; exact absurd rfl he
      · split at hx
        · cases hx; exact absurd rfl he
        · split at hx
          · cases hx; exact ⟨rfl, .inr rfl⟩
          · cases hx) (by intros; trivial) _ a 0 (Nat.le_refl _) (by omega) trivial
    rw [h] at this
    exact this he
  unfold tkEnd at h
  split at h
  · exact hQ _ _ h
  · split at h
    · exact hQ _ _ h
    · split at h
      · exact .inl (hC _ h)
      · split at h
        · exact .inl (hC _ h)
        · split at h
          · cases h; exact absurd rfl he
          · exact .inl (hR _ h)
theorem fnd_cov (s : ByteArray) : ∀ (d a f u : Nat), s.size - a ≤ d → gap s u a f → ∃ z, Cov s u (fnd s a f).1 z ∧ ((fnd s a f).2.1 = 0 → ∃ n, gap s z s.size n) ∧
    ((fnd s a f).2.1 ≠ 0 → (∃ n, gap s z (fnd s a f).2.2 n) ∨ ((fnd s a f).2.1 = 102 ∧ z < (fnd s a f).2.2 ∧ (fnd s a f).2.2 ≤ s.size))
  | d, a, f, u, hd, hg => by
    by_cases h : a < s.size
    · rw [fnd_step s a f h]
      cases d with
      | zero => omega
      | succ d =>
        by_cases h1 : by8 s a = 10
        · rw [if_pos h1]; exact fnd_cov s d (a + 1) (f + 1) u (by omega) (gap_feed hg h h1)
        · rw [if_neg h1]
          by_cases h2 : tkBl (by8 s a) = true
          · rw [if_pos h2]; exact fnd_cov s d (a + 1) f u (by omega) (gap_blank hg h h1 h2)
          · rw [if_neg h2]
            by_cases h3 : tkBgn s a = 0
            · rw [if_pos h3]
              exact ⟨u, rfl, fun h => (by cases h), fun _ => .inl ⟨f, hg⟩⟩
            · rw [if_neg h3]
              by_cases h4 : (tkEnd s a (tkBgn s a)).2 ≠ 0
              · rw [if_pos h4]
                refine ⟨u, rfl, fun h => absurd h h4, fun _ => ?_⟩
                rcases end_err (p := (tkEnd s a (tkBgn s a)).1) (e := (tkEnd s a (tkBgn s a)).2) h rfl h4 with ⟨h5, _⟩ | ⟨h5, h6, h7⟩
                · left; exact ⟨f, by show gap s u (tkEnd s a (tkBgn s a)).1 f; rw [h5]; exact hg⟩
                · right; exact ⟨h5, Nat.lt_of_le_of_lt hg.1 h6, h7⟩
              · rw [if_neg h4]
                have h5 := tkEnd_ok s a (tkBgn s a) (tkEnd s a (tkBgn s a)).1 h rfl h3 (Prod.ext rfl (by simpa using h4))
                have h2' : tkBl (by8 s a) = false := by simpa using h2
                have hE : gap s (tkTok s (tkBgn s a) a (tkEnd s a (tkBgn s a)).1 f).e (tkEnd s a (tkBgn s a)).1 0 ∧ a < (tkTok s (tkBgn s a) a (tkEnd s a (tkBgn s a)).1 f).e ∧ (tkTok s (tkBgn s a) a (tkEnd s a (tkBgn s a)).1 f).e ≤ s.size := by
                  show gap s (if _ then _ else _) _ 0 ∧ a < (if _ then _ else _) ∧ (if _ then _ else _) ≤ s.size
                  split
                  · exact ⟨gap_trim s _ h5.2, tkTrim_ge s a h2' _ h5.1, Nat.le_trans (tkTrim_le s _) h5.2⟩
                  · exact ⟨gap_refl s _ h5.2, h5.1, h5.2⟩
                obtain ⟨z, z1, z2⟩ := fnd_cov s d (tkEnd s a (tkBgn s a)).1 0 _ (by omega) hE.1
                exact ⟨z, ⟨hg, hE.2.1, hE.2.2, z1⟩, z2⟩
    · rw [fnd_end s a f (by omega)]
      refine ⟨u, rfl, fun _ => ⟨f, ?_⟩, fun h => absurd rfl h⟩
      have := hg.2.1
      rw [show s.size = a by omega]
      exact hg
theorem scn_cov (s : ByteArray) : ∃ z, Cov s 0 (scn s).1 z ∧ ((scn s).2.1 = 0 → ∃ n, gap s z s.size n) ∧
    ((scn s).2.1 ≠ 0 → (∃ n, gap s z (scn s).2.2 n) ∨ ((scn s).2.1 = 102 ∧ z < (scn s).2.2 ∧ (scn s).2.2 ≤ s.size)) :=
  fnd_cov s _ 0 0 0 (Nat.le_refl _) (gap_refl s 0 (Nat.zero_le _))
theorem scn_bd (s : ByteArray) : (∀ t ∈ (scn s).1, bd s t.a) ∧ ((scn s).2.1 ≠ 0 → bd s (scn s).2.2) := fnd_bd s _ 0 0 (Nat.le_refl _) (bd_zero s)
def tv (s : ByteArray) (t : Tk) : Tv := ⟨t.k, s.extract t.a t.e, t.a, pL s t.a, pC s t.a, t.f⟩
def AV (w : World) (s : ByteArray) (e : Ending) (w' : World) : Prop :=
  (∃ v, e = .returned (.tuple #[v, .int .i64 (scn s).2.1, .agg #[.int .i64 (if (scn s).2.1 = 0 then 0 else (scn s).2.2), .int .i64 (if (scn s).2.1 = 0 then 0 else pL s (scn s).2.2), .int .i64 (if (scn s).2.1 = 0 then 0 else pC s (scn s).2.2)]]) ∧ Rt w.heap.size w' v ((scn s).1.map (tv s))) ∧ Below w.heap.size w w'
end Go.Proofs.YtojjfbnpjhjidaaGreatDoor.Lx
