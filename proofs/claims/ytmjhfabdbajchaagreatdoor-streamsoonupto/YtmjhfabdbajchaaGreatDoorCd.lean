import Derived.Test.YtmjhfabdbajchaaGreatDoorHb4
import Derived.Test.YtmjhfabdbajchaaGreatDoorHb5
set_option linter.unusedVariables false
set_option linter.unusedSimpArgs false
namespace Go.Proofs.YtmjhfabdbajchaaGreatDoor
open Go.RowKit

theorem clf_uds : ∀ (l : List Dc) (o : Nat), uds (clf o l).1 ≤ uds l
  | [], o => Nat.le_refl _
  | d :: r, o => by
    have e : ∀ x : List Dc, uds (d :: x) = ud d + uds x := fun x => by simp [uds]
    rw [clf]
    split
    · show uds (d :: (clf (dn d.k o) r).1) ≤ _
      rw [e, e]
      have := clf_uds r (dn d.k o)
      omega
    · rw [e]
      have := clf_uds r o
      omega
theorem uds_ends : ∀ n, uds (List.replicate n (dK 7)) = 0
  | 0 => rfl
  | n + 1 => by
    have e : uds (dK 7 :: List.replicate n (dK 7)) = ud (dK 7) + uds (List.replicate n (dK 7)) := by simp [uds]
    rw [List.replicate_succ, e, uds_ends n]; rfl
theorem clo_bd (l : List Dc) : uds (clo l) ≤ uds l ∧ (clo l).length ≤ 2 * l.length := by
  unfold clo
  have h1 := clf_uds l 0
  have h2 := clf_len l 0
  rw [uds_app, uds_ends, List.length_append, List.length_replicate]
  omega
theorem app_strG {W : World} {ops : Array Oper} {rest : List Oper} {o : Oper} {a : Act} {Q : Exit → Act → World → Prop} (hgd : o.guard = none) (s x : Operand)
    (ho : o.op = .call { callee := .builtin .append, args := #[s, x], argTypes := #[46, 9] }) (B : Nat) (v : Value) (l : List UInt8) (t : ByteArray) (hs : a.eval s = v) (hr : Br B W v l)
    (hx : a.eval x = .string t) (hl : l.length + t.size ≤ 1073741824) (hB : B ≤ W.heap.size)
    (h : ∀ v' w', Br B w' v' (l ++ lsb t) → W.grownBy w' v.ownBlock → (v'.ownBlock = v.ownBlock ∨ v'.ownBlock = some W.heap.size) → wpList Tryz.prog ops Q rest (a.put o.dst v') w') : wpList Tryz.prog ops Q (o :: rest) a W := by
  obtain ⟨i0, hi, hz0, hz1, hz2⟩ := info_parts Tryz.info5
  refine wpList_append_string_at (P := Tryz.prog) (w := W) hgd s x 46 9 ho B 5 i0 Tryz.underlying46 Tryz.underlying9 hi hz0 hz1 hz2 v _ _ hs hr t hx (by unfold maxLen; omega) (by omega) hB ?_
  intro v' w' h1 h2 h3
  refine h v' w' ?_ h2 h3
  unfold Br
  rw [List.length_append, bc_app, ls_len]
  exact h1
/-- The printer, the bytes that it told, and the pieces. -/
structure W9 (R : (Nat → Prop) → World → Nat → Nat → S9 → Prop) (W0 V : World) (own : Nat → Nat) (g N : Nat) (s : S9) (vb : Value) (out : List UInt8) (va : Value) (A : List Dc) : Prop where
  a9 : A9 R W0 V own g N s
  rb : Br W0.heap.size V vb out
  lb : ∀ q, vb.ownBlock = some q → own q = 0
  ra : Rp W0.heap.size V va A
  la : ∀ q, va.ownBlock = some q → own q = 0
section
variable {R : (Nat → Prop) → World → Nat → Nat → S9 → Prop} {W0 V : World} {own : Nat → Nat} {g N : Nat} {s : S9} {vb va : Value} {out : List UInt8} {A : List Dc}
theorem row_sd {own own' : Nat → Nat} {V w' : World} {B e sz n : Nat} {v : Value} {xs : List Value} (hr : V.ownsRow B e sz v n xs) (hs : Sd own own' V w') (hl : ∀ q, v.ownBlock = some q → own q = 0) : w'.ownsRow B e sz v n xs ∧ ∀ q, v.ownBlock = some q → own' q = 0 := by
  refine ⟨⟨hr.1, ?_⟩, fun q hq => (hs q (World.ownsRow.lt hr q hq).2 (hl q hq)).2⟩
  rcases hr.2 with h | ⟨q, cap, cur, rfl, h2, h3, h4⟩
  · exact .inl h
  · exact .inr ⟨q, cap, cur, rfl, h2, (hs q (blk_lt h3) (hl q rfl)).1.trans h3, h4⟩
theorem W9.below (hC : Ctr R) (h : W9 R W0 V own g N s vb out va A) {V' : World} (hb : Below V.heap.size V V') : W9 R W0 V' own g N s vb out va A := ⟨h.a9.below hC hb, h.rb.below hb, h.lb, h.ra.below hb, h.la⟩
theorem W9.sd (h : W9 R W0 V own g N s vb out va A) {w' : World} {own' : Nat → Nat} {s' : S9} (h1 : A9 R W0 w' own' g N s') (h2 : Sd own own' V w') : W9 R W0 w' own' g N s' vb out va A := by
  obtain ⟨a1, a2⟩ := row_sd h.rb h2 h.lb
  obtain ⟨b1, b2⟩ := row_sd h.ra h2 h.la
  exact ⟨h1, a1, a2, b1, b2⟩
theorem W9.app (hC : Ctr R) (hT : Tab W0) (h : W9 R W0 V own g N s vb out va A) {w' : World} {vb' : Value} {out' : List UInt8} (hr : Br W0.heap.size w' vb' out') (hg : V.grownBy w' vb.ownBlock) (hat : vb'.ownBlock = vb.ownBlock ∨ vb'.ownBlock = some V.heap.size) : W9 R W0 w' own g N s vb' out' va A := by
  refine ⟨h.a9.grown hC hg hT (fun k e => ⟨h.lb k e, h.rb.own k e⟩), hr, ?_, row_apart h.ra h.rb (by decide) hg, h.la⟩
  intro q hq
  rcases hat with e | e
  · exact h.lb q (by rw [← e]; exact hq)
  · rw [e] at hq
    injection hq with hq
    exact h.a9.en.nf q (by omega)
end
theorem clo_at {A : List Dc} (hf : frm 0 0 A = none) {N k : Nat} {s : S9} (h : Sin N (A.take k) s) (hk : k ≤ A.length) : (k = A.length → s.dp = 0) ∧ ∀ d, A[k]? = some d → rt d = true ∧ ¬ (d.k = 7 ∧ s.dp = 0) := by
  have e := frm_app (A.take k) (A.drop k) 0 _ 0 h.op
  rw [List.take_append_drop, hf] at e
  constructor
  · intro hkl
    rw [hkl, List.drop_length] at e
    simp only [frm] at e
    split at e
    · cases e
    · omega
  · intro d hd
    have hlt := (List.getElem?_eq_some_iff.1 hd).1
    have ed : A.drop k = d :: A.drop (k + 1) := by
      rw [List.drop_eq_getElem_cons hlt]; congr 1; exact (List.getElem?_eq_some_iff.1 hd).2
    rw [ed] at e
    simp only [frm] at e
    split at e
    · rename_i hc
      exact ⟨hc.1, dep_dn hc.2⟩
    · cases e
/-- How it stands behind k pieces. -/
def I9 (R : (Nat → Prop) → World → Nat → Nat → S9 → Prop) (W0 V : World) (g N : Nat) (vb va : Value) (A : List Dc) (k : Nat) : Prop := ∃ own s, W9 R W0 V own g N s vb s.pr.sk.out va A ∧ Sin N (A.take k) s ∧ Bud s (uds (A.take k)) k
theorem uds_snoc (l : List Dc) (d : Dc) : uds (l ++ [d]) = uds l + ud d := by rw [uds_app]; simp [uds]
theorem Bud.outb {s : S9} {T C : Nat} (h : Bud s T C) : s.pr.sk.out.length ≤ T := by
  obtain ⟨U, h1, h2, _⟩ := h
  have := h1.out
  omega

end Go.Proofs.YtmjhfabdbajchaaGreatDoor
