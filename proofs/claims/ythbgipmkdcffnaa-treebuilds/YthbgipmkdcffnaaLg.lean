import Derived.Test.YthbgipmkdcffnaaDc
import Derived.Test.YthbgipmkdcffnaaLf
import Derived.ArgAppend
set_option linter.unusedVariables false
set_option linter.unusedSimpArgs false
namespace Go.Proofs.Ythbgipmkdcffnaa
open Go.RowKit

/-! The law's spoil: what it writes are leaves, in the tree's own blocks. -/
def slotIs (cur : Array Value) (j : Nat) (k : Int) (d : Tv) (s : Value) : Prop := ∀ (i : Nat) (u : Value), (nc (.mk k d []) s)[i]? = some u → cur[j * 8 + i]? = some u
structure LW (S : Nat → Prop) (W W' : World) : Prop where
  kp : Kp S W W'
  blk : ∀ b cur, S b → W.heap[b]? = some (.cells cur 35 (0, 0)) → ∃ cur', W'.heap[b]? = some (.cells cur' 35 (0, 0)) ∧ cur'.size = cur.size ∧ ∀ j, (j + 1) * 8 ≤ cur.size → (∀ i, i < 8 → cur'[j * 8 + i]? = cur[j * 8 + i]?) ∨ ∃ k d, slotIs cur' j k d (.slice none 0 0)
theorem LW.of_below {S : Nat → Prop} {W W' : World} (h : Below W.heap.size W W') : LW S W W' :=
  ⟨Kp.of_below h, fun b cur hS hb => ⟨cur, blk_below hb h, rfl, fun j hj => .inl (fun i hi => rfl)⟩⟩
theorem slot_same {cur cur' : Array Value} {j : Nat} {k : Int} {d : Tv} {s : Value} (h : slotIs cur j k d s) (he : ∀ i, i < 8 → cur'[j * 8 + i]? = cur[j * 8 + i]?) : slotIs cur' j k d s := fun i u hu => by
  have hi : i < 8 := by
    have := (List.getElem?_eq_some_iff.1 hu).1
    simpa [nc] using this
  rw [he i hi]
  exact h i u hu
theorem LW.trans {S : Nat → Prop} {a b c : World} (h : LW S a b) (k : LW S b c) : LW S a c := by
  refine ⟨h.kp.trans k.kp, fun q cur hS hq => ?_⟩
  obtain ⟨cur1, h1, h2, h3⟩ := h.blk q cur hS hq
  obtain ⟨cur2, k1, k2, k3⟩ := k.blk q cur1 hS h1
  refine ⟨cur2, k1, k2.trans h2, fun j hj => ?_⟩
  rcases k3 j (by omega) with e | e
  · rcases h3 j hj with e' | ⟨k', d', e'⟩
    · exact .inl (fun i hi => (e i hi).trans (e' i hi))
    · exact .inr ⟨k', d', slot_same e' e⟩
  · exact .inr e
/-- A leaf is written into a slot. -/
theorem LW.leaf {S : Nat → Prop} {W : World} {b : Nat} {cur : Array Value} (hb : W.heap[b]? = some (.cells cur 35 (0, 0))) (hS : S b) (m : Nat) (hm : (m + 1) * 8 ≤ cur.size) (k : Int) (d : Tv) : LW S W (W.setCells b (m * 8) (nc (.mk k d []) (.slice none 0 0))) := by
  have ks := sets_kp b (nc (.mk k d []) (.slice none 0 0)) (m * 8) W
  refine ⟨ks.sub (fun q e => by subst e; exact hS), fun q cu hq hcu => ?_⟩
  by_cases hqb : q = b
  · subst hqb
    rw [hb] at hcu
    cases hcu
    obtain ⟨cur', e1, e2, e3, e4⟩ := sets_blk q (nc (.mk k d []) (.slice none 0 0)) (m * 8) W cur hb
    have hl8 : (nc (.mk k d []) (.slice none 0 0)).length = 8 := rfl
    refine ⟨cur', e1, e2, fun j hj => ?_⟩
    by_cases hjm : j = m
    · subst hjm
      exact .inr ⟨k, d, fun i u hu => e4 (by omega) i u hu⟩
    · exact .inl (fun i hi => e3 _ (by omega))
  · exact ⟨cu, ks.blk hcu hqb, rfl, fun j hj => .inl (fun i hi => rfl)⟩
/-- A leaf's kind is written. -/
theorem LW.kind {S : Nat → Prop} {W : World} {q : Nat} {cur : Array Value} (hb : W.heap[q]? = some (.cells cur 35 (0, 0))) (m : Nat) (hm : (m + 1) * 8 ≤ cur.size) (k k' : Int) (d : Tv) (hl : slotIs cur m k d (.slice none 0 0)) : LW S W (W.setCell ⟨q, m * 8, none⟩ (.int .u8 k')) ∨ ¬ S q := by
  by_cases hS : S q
  · left
    have ks := Kp.set W q (m * 8) (.int .u8 k')
    refine ⟨ks.sub (fun j e => by subst e; exact hS), fun b cu hq hcu => ?_⟩
    by_cases hqb : b = q
    · subst hqb
      rw [hb] at hcu
      cases hcu
      refine ⟨_, blk_set hb (m * 8) _, by simp, fun j hj => ?_⟩
      by_cases hjm : j = m
      · subst hjm
        refine .inr ⟨k', d, fun i u hu => ?_⟩
        have hi : i < 8 := by
          have := (List.getElem?_eq_some_iff.1 hu).1
          simpa [nc] using this
        match i, hi with
        | 0, _ =>
          simp [nc, Nd.k] at hu
          subst hu
          rw [Nat.add_zero, Array.getElem?_setIfInBounds_self_of_lt (by omega)]
        | i + 1, _ =>
          rw [Array.getElem?_setIfInBounds_ne (by omega)]
          refine hl (i + 1) u ?_
          simpa [nc, Nd.d] using hu
      · exact .inl (fun i hi => by rw [Array.getElem?_setIfInBounds_ne (by omega)])
    · exact ⟨cu, ks.blk hcu hqb, rfl, fun j hj => .inl (fun i hi => rfl)⟩
  · exact .inr hS
theorem LW.new {S : Nat → Prop} {W w8 : World} {q : Nat} (h : LW S W w8) (hq : W.heap.size ≤ q) (hS : ¬ S q) (i : Nat) (v : Value) : LW S W (w8.setCell ⟨q, i, none⟩ v) := by
  refine ⟨h.kp.step (Kp.set _ _ _ _) (fun j hj e => by omega), fun b cur hb hcb => ?_⟩
  obtain ⟨cur', e1, e2, e3⟩ := h.blk b cur hb hcb
  exact ⟨cur', blk_other e1 (fun e => by subst e; exact hS hb) _, e2, e3⟩
/-- A tree that may be spoilt: so high, all its blocks of S. -/
def SP (S : Nat → Prop) (W : World) : Nat → Value → Prop
  | 0, sv => sv = .slice none 0 0
  | h + 1, sv => sv = .slice none 0 0 ∨ ∃ b len cap cur, sv = .slice (some ⟨b, 0, none⟩) len cap ∧ S b ∧ len ≤ cap ∧ cap ≤ maxLen ∧ len ≤ 1000000000 ∧ W.heap[b]? = some (.cells cur 35 (0, 0)) ∧ cur.size = cap * 8 ∧ ∀ j, j < len → ∃ k d s, slotIs cur j k d s ∧ SP S W h s
theorem SP.nil (S : Nat → Prop) (W : World) : ∀ h, SP S W h (.slice none 0 0)
  | 0 => rfl
  | h + 1 => .inl rfl
theorem SP.lw {S : Nat → Prop} {W W' : World} (hl : LW S W W') : ∀ (h : Nat) (sv : Value), SP S W h sv → SP S W' h sv
  | 0, sv, hs => hs
  | h + 1, sv, hs => by
    rcases hs with rfl | ⟨b, len, cap, cur, h1, h2, h3, h4, h5, h6, h7, h8⟩
    · exact .inl rfl
    · obtain ⟨cur', e1, e2, e3⟩ := hl.blk b cur h2 h6
      refine .inr ⟨b, len, cap, cur', h1, h2, h3, h4, h5, e1, e2.trans h7, fun j hj => ?_⟩
      rcases e3 j (by omega) with e | ⟨k, d, e⟩
      · obtain ⟨k, d, s, a1, a2⟩ := h8 j hj
        exact ⟨k, d, s, slot_same a1 e, SP.lw hl h s a2⟩
      · exact ⟨k, d, _, e, SP.nil S W' h⟩
theorem SP.shape {S : Nat → Prop} {W : World} {h : Nat} {sv : Value} (hs : SP S W h sv) : ∃ p n c, sv = .slice p n c := by
  cases h with
  | zero => exact ⟨_, _, _, hs⟩
  | succ h =>
    rcases hs with rfl | ⟨b, len, cap, cur, h1, _⟩
    · exact ⟨_, _, _, rfl⟩
    · exact ⟨_, _, _, h1⟩
mutual
/-- How high a tree is, tokens too. -/
def hgt : Nd → Nat
  | .mk _ _ c => hgtL c + 1
def hgtL : List Nd → Nat
  | [] => 0
  | n :: r => max (hgt n) (hgtL r)
end
theorem hgt_kid {c : List Nd} {j : Nat} {m : Nd} (h : c[j]? = some m) : hgt m ≤ hgtL c := by
  induction c generalizing j with
  | nil => simp at h
  | cons x r ih =>
    simp only [hgtL]
    cases j with
    | zero => simp at h; subst h; omega
    | succ j => have := ih (j := j) (by simpa using h); omega
theorem TN.sp {S : Nat → Prop} {W : World} (h : Nat) : ∀ (n : Nd) (x : Value), hgt n ≤ h → nsz n ≤ 1000000000 → TN S W n x → SP S W h x := by
  induction h with
  | zero =>
    intro n x hh _ _
    obtain ⟨k, d, c⟩ := n
    simp [hgt] at hh
  | succ h ih =>
    intro n x hh hz ht
    have hlc : n.c.length ≤ 1000000000 := by
      obtain ⟨k, d, c⟩ := n
      have key : ∀ c : List Nd, c.length ≤ nszL c := by
        intro c
        induction c with
        | nil => simp
        | cons x r ih =>
          have : 0 < nsz x := by obtain ⟨a, b, e⟩ := x; simp [nsz]
          simp only [nszL, List.length_cons]
          omega
      have := key c
      simp only [nsz] at hz
      show c.length ≤ _
      omega
    obtain ⟨k, d, c⟩ := n
    rw [TN] at ht
    obtain ⟨vs, h1, h2, h3⟩ := ht
    rcases h1.2.2 with ⟨e1, e2⟩ | ⟨b, cap, cur, e1, _, e3, e4, e5, e6, e7⟩
    · exact .inl e1
    · refine .inr ⟨b, c.length, cap, cur, e1, h2 b (by rw [e1]; rfl), e4, e5, hlc, e3, e6, fun j hj => ?_⟩
      obtain ⟨m, hm⟩ : ∃ m, c[j]? = some m := ⟨_, List.getElem?_eq_getElem hj⟩
      obtain ⟨y, hy, hty⟩ := TL.at h3 hm
      refine ⟨m.k, m.d, y, fun i u hu => ?_, ih m y (by have := hgt_kid hm; simp only [hgt] at hh; omega) (by have := nsz_kid (n := .mk k d c) (m := m) (List.mem_of_getElem? hm); omega) hty⟩
      have hc := h1.cell e1 hm hy (i := i) (u := u) hu
      simp only [World.cell?, e3] at hc
      simpa using hc

end Go.Proofs.Ythbgipmkdcffnaa
