import Derived.Test.YtojjfbnpjhjidaaGreatDoorM01
set_option linter.unusedVariables false
set_option linter.unusedSimpArgs false
namespace Go.Proofs.YtojjfbnpjhjidaaGreatDoor
open Go.RowKit
structure Rmk where
  n : Int
  t : ByteArray
  b : Bool
deriving DecidableEq
def Rmk.v (d : Rmk) : Value := .agg #[.int .i64 d.n, .string d.t, .bool d.b]
def Rmk.cs (d : Rmk) : List Value := [.int .i64 d.n, .string d.t, .bool d.b]
theorem Rmk.cs_len (d : Rmk) : d.cs.length = 3 := rfl
theorem Rmk.cs_one (d : Rmk) : ∀ u ∈ d.cs, u.oneCell' = true := by
  intro u hu
  simp only [Rmk.cs, List.mem_cons, List.not_mem_nil, or_false] at hu
  rcases hu with rfl | rfl | rfl <;> rfl
def mcs (l : List Rmk) : List Value := flat Rmk.cs l
theorem mcs_len (l : List Rmk) : (mcs l).length = l.length * 3 := flat_len Rmk.cs 3 Rmk.cs_len l
theorem mcs_one (l : List Rmk) : ∀ u ∈ mcs l, u.oneCell' = true := by
  intro u hu
  obtain ⟨d, _, h⟩ := List.mem_flatMap.1 hu
  exact d.cs_one u h
theorem mcs_app (a b : List Rmk) : mcs (a ++ b) = mcs a ++ mcs b := flat_append Rmk.cs a b
def Lm (w : World) (ao : Option Addr) (l : List Rmk) : Prop := ∀ j d, l[j]? = some d → ∃ b off, ao = some ⟨b, off, none⟩ ∧
  w.cell? ⟨b, off + j * 3, none⟩ = some (.int .i64 d.n) ∧ w.cell? ⟨b, off + j * 3 + 1, none⟩ = some (.string d.t) ∧ w.cell? ⟨b, off + j * 3 + 2, none⟩ = some (.bool d.b)
theorem Lm.kp {S : Nat → Prop} {w w' : World} {ao : Option Addr} {l : List Rmk} (h : Lm w ao l) (hb : Kp S w w') (hS : ∀ a, ao = some a → ¬ S a.block) : Lm w' ao l := by
  intro j a ha
  obtain ⟨b, off, h1, c0, c1, c2⟩ := h j a ha
  have hlt := World.block_lt_of_cell? _ _ c0
  have e : w'.heap[b]? = w.heap[b]? := hb.block b hlt (hS _ h1)
  exact ⟨b, off, h1, (World.cell?_of_block (a := ⟨b, _, none⟩) e).trans c0, (World.cell?_of_block (a := ⟨b, _, none⟩) e).trans c1, (World.cell?_of_block (a := ⟨b, _, none⟩) e).trans c2⟩
theorem Lm.below {w w' : World} {ao : Option Addr} {l : List Rmk} (h : Lm w ao l) (hb : Below w.heap.size w w') : Lm w' ao l := h.kp (Kp.of_below (S := fun _ => False) hb) (fun _ _ h => h)
def Rm (B : Nat) (w : World) (v : Value) (l : List Rmk) : Prop := w.ownsRow B 38 3 v l.length (mcs l)
theorem rm_nil (B : Nat) (w : World) : Rm B w (.slice none 0 0) [] := World.ownsRow_nil w B 38 3
theorem Rm.shape {B : Nat} {w : World} {v : Value} {l : List Rmk} (h : Rm B w v l) : ∃ p cap, v = .slice p l.length cap ∧ l.length ≤ cap ∧ cap ≤ maxLen := by
  rcases h.2 with ⟨rfl, h0⟩ | ⟨b, cap, cur, rfl, _, h3, h4, h5, _⟩
  · exact ⟨none, 0, by rw [h0], by omega, Nat.zero_le _⟩
  · exact ⟨_, cap, rfl, h4, h5⟩
theorem Rm.own {B : Nat} {w : World} {v : Value} {l : List Rmk} (h : Rm B w v l) : ∀ k, v.ownBlock = some k → B ≤ k := by
  intro k hk
  rcases h.2 with ⟨rfl, h0⟩ | ⟨b, cap, cur, rfl, hb, _⟩
  · cases hk
  · simp only [Value.ownBlock, Option.some.injEq] at hk
    omega
theorem Rm.below {B : Nat} {w w' : World} {v : Value} {l : List Rmk} (h : Rm B w v l) (hb : Below w.heap.size w w') : Rm B w' v l := by
  refine ⟨h.1, ?_⟩
  rcases h.2 with h1 | ⟨g, cap, cur, rfl, h2, h3, h4⟩
  · exact .inl h1
  · exact .inr ⟨g, cap, cur, rfl, h2, blk_below h3 hb, h4⟩
theorem Rm.kp {B : Nat} {S : Nat → Prop} {w w' : World} {v : Value} {l : List Rmk} (h : Rm B w v l) (hb : Kp S w w') (hS : ∀ k, v.ownBlock = some k → ¬ S k) : Rm B w' v l := by
  refine ⟨h.1, ?_⟩
  rcases h.2 with h1 | ⟨g, cap, cur, rfl, h2, h3, h4⟩
  · exact .inl h1
  · exact .inr ⟨g, cap, cur, rfl, h2, hb.blk h3 (hS g rfl), h4⟩
theorem Rm.ne {B : Nat} {w : World} {v : Value} {l : List Rmk} (h : Rm B w v l) {g : Nat} {cs : Array Value} {T : TypeId} {f : Nat × Nat} (hg : w.heap[g]? = some (.cells cs T f)) (hT : T ≠ 38) : ∀ k, v.ownBlock = some k → k ≠ g := by
  intro k hk e
  rcases h.2 with ⟨rfl, h0⟩ | ⟨b, cap, cur, rfl, hb, h3, _⟩
  · cases hk
  · simp only [Value.ownBlock, Option.some.injEq] at hk
    subst hk
    subst e
    rw [hg] at h3
    cases h3
    exact hT rfl
theorem Lm.row {w : World} {B : Nat} {v : Value} {l : List Rmk} (h : Rm B w v l) : ∃ ao cap, v = .slice ao l.length cap ∧ Lm w ao l ∧ (ao = none ∨ ∃ g, ao = some ⟨g, 0, none⟩ ∧ B ≤ g ∧ g < w.heap.size) ∧ l.length ≤ cap ∧ cap ≤ maxLen := by
  rcases h.2 with ⟨rfl, h0⟩ | ⟨g, cap, cur, rfl, hb, hg, h3, h4, h5, h6⟩
  · have : l = [] := List.eq_nil_of_length_eq_zero h0
    subst this
    exact ⟨none, 0, rfl, fun j d h => by simp at h, .inl rfl, Nat.zero_le _, Nat.zero_le _⟩
  · refine ⟨some ⟨g, 0, none⟩, cap, rfl, ?_, .inr ⟨g, rfl, hb, blk_lt hg⟩, h3, h4⟩
    intro j d hj
    have hc : ∀ (k : Nat) (u : Value), (mcs l)[k]? = some u → w.cell? ⟨g, k, none⟩ = some u := fun k u hu => by
      have := h.cells (g := g) rfl k u hu
      rw [Addr.add_lit, Nat.zero_add] at this
      exact this
    refine ⟨g, 0, rfl, ?_, ?_, ?_⟩
    · rw [Nat.zero_add]; exact hc _ _ (flat_at Rmk.cs 3 Rmk.cs_len l j 0 d _ hj rfl)
    · rw [Nat.zero_add]; exact hc _ _ (flat_at Rmk.cs 3 Rmk.cs_len l j 1 d _ hj rfl)
    · rw [Nat.zero_add]; exact hc _ _ (flat_at Rmk.cs 3 Rmk.cs_len l j 2 d _ hj rfl)
theorem Tryz.info38 : (Tryz.prog.info? 38).map (fun i => (i.zero, i.size, i.bytes)) = some (some (.agg #[.int .i64 0, .string ⟨#[]⟩, .bool false]), 3, 32) := by kernel_rfl
theorem app_rmk {W : World} {ops : Array Oper} {rest : List Oper} {o : Oper} {a : Act} {Q : Exit → Act → World → Prop} (hgd : o.guard = none) (s x : Operand)
    (ho : o.op = .call { callee := .builtin .append, args := #[s, x], argTypes := #[23, 23] }) (B : Nat) (v : Value) (l : List Rmk) (d : Rmk) (hs : a.eval s = v) (hr : Rm B W v l)
    (g c : Nat) (hx : a.eval x = .slice (some ⟨g, 0, none⟩) 1 c) (hg : W.heap[g]? = some (.cells #[.int .i64 d.n, .string d.t, .bool d.b] 38 (0, 0))) (hl : l.length ≤ 1000000000) (hB : B ≤ W.heap.size)
    (h : ∀ v' w', Rm B w' v' (l ++ [d]) → Below B W w' → W.grownBy w' v.ownBlock → (v'.ownBlock = v.ownBlock ∨ v'.ownBlock = some W.heap.size) → wpList Tryz.prog ops Q rest (a.put o.dst v') w') : wpList Tryz.prog ops Q (o :: rest) a W := by
  obtain ⟨i0, hi, hz0, hz1, hz2⟩ := info_parts Tryz.info38
  refine wpList_append_own_at (P := Tryz.prog) (w := W) hgd s x 23 ho B 38 i0 _ 3 32 Tryz.underlying23 hi hz0 hz1 hz2 rfl (by decide) v _ _ hs hr ⟨g, 0, none⟩ 1 c (mcs [d]) hx (by rw [mcs_len]; rfl) ?_ (mcs_one [d]) (by unfold maxLen; omega) (by omega) hB ?_
  · intro j u hu
    refine World.news_of_block hg j u ?_
    have e : mcs [d] = [.int .i64 d.n, .string d.t, .bool d.b] := by simp [mcs, flat, Rmk.cs]
    rw [e] at hu
    simpa using hu
  · intro v' w' h1 h2 _ h4
    refine h v' w' ?_ ((Below.refl B W).grown h2 hB hr.own) h2 h4
    unfold Rm
    rw [List.length_append, mcs_app]
    exact h1
def ntB (t : Tv) : Bool := t.k == 7 || t.k == 8
def bhB (i : Nat) (t : Tv) : Bool := decide (0 < i) && t.f == 0
def rmk : List Tv → Nat → Nat → List Rmk
  | [], _, _ => []
  | t :: r, i, n => if ntB t = true then ⟨n, t.t, bhB i t⟩ :: rmk r (i + 1) n else rmk r (i + 1) (n + 1)
theorem rmk_len : ∀ (l : List Tv) (i n : Nat), (rmk l i n).length ≤ l.length
  | [], _, _ => Nat.le_refl _
  | t :: r, i, n => by
    have h1 := rmk_len r (i + 1) n
    have h2 := rmk_len r (i + 1) (n + 1)
    unfold rmk
    split
    · simpa using h1
    · simp; omega
theorem rmk_drop {l : List Tv} {j : Nat} {t : Tv} (h : l[j]? = some t) (n : Nat) : rmk (l.drop j) j n = if ntB t = true then ⟨n, t.t, bhB j t⟩ :: rmk (l.drop (j + 1)) (j + 1) n else rmk (l.drop (j + 1)) (j + 1) (n + 1) := by
  have hlt := (List.getElem?_eq_some_iff.1 h).1
  have e : l.drop j = t :: l.drop (j + 1) := by
    rw [List.drop_eq_getElem_cons hlt]
    rw [List.getElem?_eq_getElem hlt] at h
    rw [Option.some.inj h]
  rw [e]
  rfl
theorem risn_any (t : Tv) (W : World) : Calls Tryz.prog 13 #[.agg #[.int .u8 t.k, .string t.t, .int .i64 t.a, .int .i64 t.l, .int .i64 t.c, .int .i64 t.f]] W fun r w' => r = .returned (.bool (ntB t)) ∧ Below W.heap.size W w' := by
  unfold ntB
  obtain ⟨b7, e7⟩ : ∃ b, (t.k == 7) = b := ⟨_, rfl⟩
  obtain ⟨b8, e8⟩ : ∃ b, (t.k == 8) = b := ⟨_, rfl⟩
  rw [e7, e8]
  cases b7 <;> cases b8
  all_goals (
    go_enter Tryz.func13, Tryz.ntmps13
    go_wp2_with fail
    go_ret
    exact ⟨rfl, (Below.refl _ _).alloc (Nat.le_refl _) _⟩)
theorem rbeh_any {l : List Tv} {j : Nat} {t : Tv} (ht : l[j]? = some t) {W : World} {ao : Option Addr} {c : Nat} (hL : Lt W ao l) (hl : l.length ≤ 1000000000) :
    Calls Tryz.prog 14 #[.slice ao l.length c, .int .i64 j] W fun r w' => r = .returned (.bool (bhB j t)) ∧ Below W.heap.size W w' := by
  have hlt := (List.getElem?_eq_some_iff.1 ht).1
  have q1 : (j : Int) < l.length := by omega
  have q0 : (0 : Int) ≤ j := by omega
  obtain ⟨b, off, rfl, x0, x1, x2, x3, x4, x5⟩ := hL j t ht
  unfold bhB
  clear hL ht
  by_cases hj : 0 < j
  case' pos =>
    have r0 : (0 : Int) < j := by omega
    have r2 : decide ((0 : Int) < (j : Int)) = true := decide_eq_true r0
    have r3 : decide (0 < j) = true := decide_eq_true hj
  case' neg =>
    have r0 : ¬ (0 : Int) < j := by omega
    have r2 : decide ((0 : Int) < (j : Int)) = false := decide_eq_false r0
    have r3 : decide (0 < j) = false := decide_eq_false hj
  all_goals (
    rw [r3]
    go_enter Tryz.func14, Tryz.ntmps14
    go_wp2_with fail
    go_ret
    exact ⟨rfl, Below.refl _ _⟩)
end Go.Proofs.YtojjfbnpjhjidaaGreatDoor
