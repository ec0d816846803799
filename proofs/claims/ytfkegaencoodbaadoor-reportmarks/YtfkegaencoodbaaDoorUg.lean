import Derived.Test.YtfkegaencoodbaaDoorUf
import Derived.Test.YtfkegaencoodbaaDoorBack0
import Derived.Test.YtfkegaencoodbaaDoorPk
set_option linter.unusedVariables false
set_option linter.unusedSimpArgs false
namespace Go.Proofs.YtfkegaencoodbaaDoor
open Go.RowKit

/-! Texts of good points: no byte below 20 but line ends; how many (no memory). -/
def lc (t : ByteArray) : Nat → Nat
  | 0 => 0
  | i + 1 => lc t i + (if by8 t i = 10 then 1 else 0)
theorem lc_app_l (a b : ByteArray) : ∀ i, i ≤ a.size → lc (a ++ b) i = lc a i
  | 0, _ => rfl
  | i + 1, h => by
    have e : by8 (a ++ b) i = by8 a i := by rw [by8_app, if_pos (by omega)]
    show lc (a ++ b) i + (if by8 (a ++ b) i = 10 then 1 else 0) = lc a i + _
    rw [lc_app_l a b i (by omega), e]
theorem lc_app_r (a b : ByteArray) : ∀ i, lc (a ++ b) (a.size + i) = lc a a.size + lc b i
  | 0 => lc_app_l a b a.size (Nat.le_refl _)
  | i + 1 => by
    have e : by8 (a ++ b) (a.size + i) = by8 b i := by rw [by8_app, if_neg (by omega), Nat.add_sub_cancel_left]
    show lc (a ++ b) (a.size + i) + (if by8 (a ++ b) (a.size + i) = 10 then 1 else 0) = lc a a.size + (lc b i + _)
    rw [lc_app_r a b i, e, Nat.add_assoc]
theorem rb_app : ∀ (l m : List Nat), rb (l ++ m) = rb l ++ rb m
  | [], m => by
    show rb m = ByteArray.empty ++ rb m
    rw [ByteArray.empty_append]
  | c :: l, m => by
    show Utf8.encode (c : Int) ++ rb (l ++ m) = Utf8.encode (c : Int) ++ rb l ++ rb m
    rw [rb_app l m, ByteArray.append_assoc]
/-- A text of good points, with so many line ends and no other byte below 20. -/
structure Gt (t : ByteArray) (n : Nat) : Prop where
  pts : ∃ L, (∀ c ∈ L, pt c) ∧ t = rb L
  low : ∀ j, j < t.size → by8 t j < 32 → by8 t j = 10
  lns : lc t t.size = n
theorem Gt.app {a b : ByteArray} {n m : Nat} (h : Gt a n) (k : Gt b m) : Gt (a ++ b) (n + m) := by
  obtain ⟨L, h1, h2⟩ := h.pts
  obtain ⟨M, k1, k2⟩ := k.pts
  refine ⟨⟨L ++ M, fun c hc => ?_, by rw [rb_app, ← h2, ← k2]⟩, fun j hj => ?_, ?_⟩
  · rcases List.mem_append.1 hc with hc | hc
    · exact h1 c hc
    · exact k1 c hc
  · rw [size_app] at hj
    rw [by8_app]
    split
    · exact h.low j (by assumption)
    · exact k.low (j - a.size) (by omega)
  · rw [size_app, lc_app_r, h.lns, k.lns]
theorem Gt.nil : Gt ⟨#[]⟩ 0 := ⟨⟨[], by simp, rfl⟩, (fun j h => absurd h (Nat.not_lt_zero j)), rfl⟩
theorem lc_none (t : ByteArray) : ∀ i, (∀ j, j < i → by8 t j ≠ 10) → lc t i = 0
  | 0, _ => rfl
  | i + 1, h => by
    show lc t i + _ = 0
    rw [lc_none t i (fun j hj => h j (by omega)), if_neg (h i (by omega))]
theorem enc_low (c : Nat) (h : pt c) (h2 : 128 ≤ c) (j : Nat) (hj : j < (Utf8.encode (c : Int)).size) : 128 ≤ by8 (Utf8.encode (c : Int)) j := by
  have hz := enc_size c h
  have b0 := enc_b0 c h
  have b1 := enc_b1 c h h2
  rw [hz] at hj
  have hj4 : j = 0 ∨ j = 1 ∨ j = 2 ∨ j = 3 := by
    split at hj
    · omega
    · split at hj
      · omega
      · split at hj <;> omega
  rcases hj4 with rfl | rfl | rfl | rfl
  · rw [b0]
    split
    · omega
    · split
      · omega
      · split <;> omega
  · rw [b1]
    split
    · omega
    · split <;> omega
  · have h3 : 2048 ≤ c := by
      rcases Nat.lt_or_ge c 2048 with h9 | h9
      · rw [if_neg (by omega), if_pos h9] at hj; omega
      · exact h9
    rw [enc_b2 c h h3]
    split <;> omega
  · have h3 : 65536 ≤ c := by
      rcases Nat.lt_or_ge c 65536 with h9 | h9
      · rw [if_neg (by omega)] at hj
        split at hj
        · omega
        · first
          | omega
          | (split at hj <;> omega)
      · exact h9
    rw [enc_b3 c h h3]
    omega
theorem Gt.enc {c : Nat} (h : pt c) (h2 : 32 ≤ c) : Gt (Utf8.encode (c : Int)) 0 := by
  have key : ∀ j, j < (Utf8.encode (c : Int)).size → 32 ≤ by8 (Utf8.encode (c : Int)) j := fun j hj => by
    rcases Nat.lt_or_ge c 128 with h3 | h3
    · have hz := enc_size c h
      rw [if_pos h3] at hz
      obtain rfl : j = 0 := by omega
      rw [enc_b0 c h, if_pos h3]
      exact h2
    · have := enc_low c h h3 j hj
      omega
  refine ⟨⟨[c], by simpa using h, ?_⟩, fun j hj h9 => ?_, lc_none _ _ (fun j hj e => ?_)⟩
  · show _ = Utf8.encode (c : Int) ++ ByteArray.empty
    rw [ByteArray.append_empty]
  · have := key j hj; omega
  · have := key j hj; omega
theorem Gt.feed : Gt ⟨#[10]⟩ 1 := ⟨⟨[10], by intro c hc; simp at hc; subst hc; unfold pt; omega, by kernel_rfl⟩, fun j hj _ => by
  have : j = 0 := by have : j < 1 := hj; omega
  subst this
  rfl, by kernel_rfl⟩
theorem asc_enc (b : UInt8) (h : b.toNat < 128) : (⟨#[b]⟩ : ByteArray) = Utf8.encode ((b.toNat : Nat) : Int) := by
  have hp : pt b.toNat := by unfold pt; omega
  refine by8_ext _ _ ?_ (fun i hi => ?_)
  · rw [enc_size _ hp, if_pos h]; rfl
  · have : i = 0 := by have : i < 1 := hi; omega
    subst this
    rw [enc_b0 _ hp, if_pos h]
    rfl
theorem Gt.asc : ∀ (l : List UInt8), (∀ b ∈ l, 32 ≤ b.toNat ∧ b.toNat < 128) → Gt ⟨l.toArray⟩ 0
  | [], _ => Gt.nil
  | b :: l, h => by
    have h1 := h b (List.mem_cons_self ..)
    have e : (⟨(b :: l).toArray⟩ : ByteArray) = ⟨#[b]⟩ ++ ⟨l.toArray⟩ := by
      rw [ByteArray.mk_append_mk]
      simp
    rw [e, asc_enc b h1.2]
    exact (Gt.enc (by unfold pt; omega) h1.1).app (Gt.asc l (fun x hx => h x (List.mem_cons_of_mem _ hx)))
theorem Gt.lit (t : ByteArray) (h : t.data.toList.all (fun b => decide (32 ≤ b.toNat ∧ b.toNat < 128)) = true) : Gt t 0 := by
  have := Gt.asc t.data.toList (fun b hb => of_decide_eq_true (List.all_eq_true.1 h b hb))
  exact this
theorem Gt.vl {t : ByteArray} {n : Nat} (h : Gt t n) : vl t = true := by
  obtain ⟨L, h1, h2⟩ := h.pts
  rw [h2]
  exact (rb_points L h1).2
theorem dg_bd (u j : Nat) : 48 ≤ (Lib.dg u j).toNat ∧ (Lib.dg u j).toNat < 58 := by
  unfold Lib.dg
  have : u / 10 ^ j % 10 < 10 := Nat.mod_lt _ (by decide)
  generalize u / 10 ^ j % 10 = d at *
  have h9 : (UInt8.ofNat (48 + d)).toNat = 48 + d := by
    show (48 + d) % 256 = _
    omega
  rw [h9]
  omega
theorem Gt.itB (n : Int) : Gt (itB n) 0 := by
  have hd : ∀ u, ∀ b ∈ Lib.decDigits u, 32 ≤ b.toNat ∧ b.toNat < 128 := fun u b hb => by
    rw [Lib.decDigits_eq] at hb
    obtain ⟨j, _, rfl⟩ := List.mem_map.1 hb
    have := dg_bd u (Lib.nDigits u - 1 - j)
    omega
  refine Gt.asc _ (fun b hb => ?_)
  unfold Lib.itoa at hb
  split at hb
  · rcases List.mem_cons.1 hb with rfl | hb
    · decide
    · exact hd _ b hb
  · exact hd _ b hb
theorem Gt.chB (s : ByteArray) (a : Nat) (ha : a < s.size) : Gt (chB s a) 0 := by
  unfold Go.Proofs.YtfkegaencoodbaaDoor.chB
  split
  · have e : (⟨#[239, 191, 189]⟩ : ByteArray) = Utf8.encode ((65533 : Nat) : Int) := by kernel_rfl
    rw [e]
    exact Gt.enc (by unfold pt; omega) (by omega)
  · rename_i hg
    split
    · exact Gt.lit _ (by decide)
    · rename_i hd
      rw [← enc_dec s a ha (by simpa using hg)]
      exact Gt.enc (dp_pt s a) (by omega)
theorem Gt.shB (s : ByteArray) : ∀ k, k ≤ (P s).length → Gt (shB s k) 0
  | 0, _ => Gt.nil
  | k + 1, h => (Gt.shB s k (by omega)).app (Gt.chB s _ ((st_lt s k).2 (by omega)))
theorem Gt.blk (n : Nat) : Gt (blk8 n) 0 := Gt.asc _ (fun b hb => by
  rw [List.eq_of_mem_replicate hb]
  decide)
theorem Gt.hdB (c y z : Int) : Gt (hdB ⟨#[]⟩ c y z) 1 := by
  have h := (((((((Gt.nil).app (Gt.lit ⟨#[58, 32]⟩ (by decide))).app (Gt.itB y)).app (Gt.lit ⟨#[58]⟩ (by decide))).app (Gt.itB z)).app (Gt.lit ⟨#[58, 32, 101, 114, 114, 111, 114, 32]⟩ (by decide))).app (Gt.itB c)).app Gt.feed
  exact h
/-- What is shown of a place with a mark. -/
theorem mark_gt {s : ByteArray} {c y z : Int} (h : mkd s y z) : Gt (rshB ⟨#[]⟩ s c y z) 3 ∧ 2 ≤ (rshB ⟨#[]⟩ s c y z).size ∧ by8 (rshB ⟨#[]⟩ s c y z) ((rshB ⟨#[]⟩ s c y z).size - 2) = 94 := by
  have e : rshB ⟨#[]⟩ s c y z = hdB ⟨#[]⟩ c y z ++ ⟨#[32, 32]⟩ ++ shB (lineS s y) (P (lineS s y)).length ++ ⟨#[10, 32, 32]⟩ ++ blk8 (cfB (lineS s y) (z - 1)).toNat ++ ⟨#[94, 10]⟩ := if_pos h
  rw [e]
  have e1 : (⟨#[10, 32, 32]⟩ : ByteArray) = ⟨#[10]⟩ ++ ⟨#[32, 32]⟩ := by kernel_rfl
  have e2 : (⟨#[94, 10]⟩ : ByteArray) = ⟨#[94]⟩ ++ ⟨#[10]⟩ := by kernel_rfl
  have g1 : Gt ⟨#[10, 32, 32]⟩ 1 := by rw [e1]; exact Gt.feed.app (Gt.lit _ (by decide))
  have g2 : Gt ⟨#[94, 10]⟩ 1 := by rw [e2]; exact (Gt.lit ⟨#[94]⟩ (by decide)).app Gt.feed
  refine ⟨((((Gt.hdB c y z).app (Gt.lit ⟨#[32, 32]⟩ (by decide))).app (Gt.shB (lineS s y) _ (Nat.le_refl _))).app g1).app (Gt.blk _) |>.app g2, ?_, ?_⟩
  · rw [size_app]
    show 2 ≤ _ + 2
    omega
  · rw [size_app, by8_app]
    rw [show (⟨#[94, 10]⟩ : ByteArray).size = 2 from rfl, Nat.add_sub_cancel, if_neg (by omega), Nat.sub_self]
    rfl
/-- Every place of a source has a mark. -/
theorem mark_at (s : ByteArray) (k : Nat) (hk : k ≤ (P s).length) : mkd s (pLn s k : Int) (pCl s k : Int) := by
  have he := st_le s k
  have hc := cn_mono' s he
  have hb : 1 ≤ ((pLn s k : Nat) : Int) ∧ ((pLn s k : Nat) : Int) ≤ LN s := by unfold pLn LN; omega
  have hn := nl_facts s (st s k) he
  have hls : lineS s (pLn s k : Int) = s.extract (lf s (st s k)) (nl s (st s k)) := by
    unfold lineS
    rw [if_pos hb, show (((pLn s k : Nat) : Int) - 1).toNat = cn s (st s k) by unfold pLn; omega]
    unfold ln
    rw [bg_lf s _ he, nl_lf s _ he]
  have h1 := cnt_join (bd_lf s (st s k)) (bd_st s k hk) (bd_nl s (st s k) he) (lf_facts s (st s k)).1 (by omega)
  refine ⟨decide_eq_true hb, ?_, ?_⟩
  · unfold pCl; omega
  · rw [hls]
    unfold pCl
    omega
theorem place_at9 (s : ByteArray) (k : Nat) (hs : s.size ≤ 100000000) : aAt 0 (s.extract 0 (st s k)) = (st s k : Int) ∧ aLine 1 (s.extract 0 (st s k)) = (pLn s k : Int) ∧ aCol 1 (s.extract 0 (st s k)) = (pCl s k : Int) := by
  have he := st_le s k
  have z := size_ext s 0 (st s k) he
  have hc := cn_le s (st s k)
  have hp := cnt_le s (lf s (st s k)) (st s k) he
  have f := lf_facts s (st s k)
  unfold aAt aLine aCol pLn pCl
  rw [z, Nat.sub_zero, cn_head s _ _ (Nat.le_refl _), lf_head s _ _ (Nat.le_refl _), ext_ext s 0 (st s k) _ _ he (by omega) f.1, Nat.zero_add, Nat.zero_add]
  refine ⟨?_, ?_, ?_⟩
  · rw [wrap_ok _ (by omega)]; simp
  · rw [wrap_ok _ (by omega)]; simp
  · have : (if cn s (st s k) = 0 then (1 : Int) else 1) = 1 := by split <;> rfl
    rw [this, wrap_ok _ (by omega)]; simp

end Go.Proofs.YtfkegaencoodbaaDoor
