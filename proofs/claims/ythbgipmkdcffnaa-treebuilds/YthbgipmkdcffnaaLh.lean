import Derived.Test.YthbgipmkdcffnaaLg2
set_option linter.unusedVariables false
set_option linter.unusedSimpArgs false
namespace Go.Proofs.Ythbgipmkdcffnaa
open Go.RowKit

/-! TreeBuilds. -/
def szS : List (Int × List Nd) → Nat
  | [] => 0
  | (_, c) :: S => nszL c + 1 + szS S
theorem nszL_app (a b : List Nd) : nszL (a ++ b) = nszL a + nszL b := by
  induction a with
  | nil => simp [nszL]
  | cons x r ih => simp only [List.cons_append, nszL, ih]; omega
theorem bld_nsz : ∀ (l : List Ev) (S : List (Int × List Nd)) (n : Nd), bld l S = some n → nsz n ≤ szS S + l.length
  | [], S, n, h => by simp [bld] at h
  | x :: l, S, n, h => by
    simp only [bld] at h
    by_cases h1 : x.k = 1
    · rw [if_pos h1] at h
      split at h
      · cases h
      · have := bld_nsz l _ n h
        simp only [szS, nszL, List.length_cons] at this ⊢
        omega
    · rw [if_neg h1] at h
      by_cases h3 : x.k = 3
      · rw [if_pos h3] at h
        cases S with
        | nil => cases h
        | cons y S' =>
          obtain ⟨k, c⟩ := y
          simp only at h
          split at h
          · cases S' with
            | nil =>
              simp only at h
              split at h
              · cases h
                simp only [nsz, szS, List.length_cons]
                omega
              · cases h
            | cons z S2 =>
              obtain ⟨k', c'⟩ := z
              have := bld_nsz l _ n h
              simp only [szS, nszL_app, nszL, nsz, List.length_cons] at this ⊢
              omega
          · cases h
      · rw [if_neg h3] at h
        split at h
        · cases S with
          | nil => cases h
          | cons y S' =>
            obtain ⟨k, c⟩ := y
            have := bld_nsz l _ n h
            simp only [szS, nszL_app, nszL, nsz, List.length_cons] at this ⊢
            omega
        · cases h
theorem bo_nsz (l : List Ev) : nsz (bo l).1 ≤ l.length + 1 := by
  unfold bo
  cases h : bld l [] with
  | none => simp [nsz, nszL]
  | some n =>
    have := bld_nsz l [] n h
    simp only [szS] at this
    show nsz n ≤ _
    omega
/-- The law's own row of events, with its marked room. -/
def InB (B : Nat) (l : List Ev) (V : World) : Prop := ∃ cur, V.heap[B]? = some (.cells cur 32 (0, 0)) ∧ cur.size = (l.length + 1) * 8 ∧ (∀ (k : Nat) (u : Value), (ecs l)[k]? = some u → cur[k]? = some u) ∧ cur[l.length * 8]? = some (.int .u8 99)
theorem InB.kp {S : Nat → Prop} {B : Nat} {l : List Ev} {V V' : World} (h : InB B l V) (hk : Kp S V V') (hS : ¬ S B) : InB B l V' := by
  obtain ⟨cur, h1, h2⟩ := h
  exact ⟨cur, hk.blk h1 hS, h2⟩
theorem InB.le {B : Nat} {l : List Ev} {V : World} (h : InB B l V) : Le V (some ⟨B, 0, none⟩) l := by
  obtain ⟨cur, h1, h2, h3, _⟩ := h
  exact le_of_blk h1 h3
theorem copy_ev {W : World} {ops : Array Oper} {rest : List Oper} {o : Oper} {a : Act} {Q : Exit → Act → World → Prop} (hgd : o.guard = none) (d s : Operand)
    (ho : o.op = .call { callee := .builtin .copy, args := #[d, s], argTypes := #[22, 22] }) (g dc sc : Nat) (ao : Option Addr) (l : List Ev) (cur : Array Value) (hd : a.eval d = .slice (some ⟨g, 0, none⟩) l.length dc) (hs : a.eval s = .slice ao l.length sc)
    (hg : W.heap[g]? = some (.cells cur 32 (0, 0))) (hz : l.length * 8 ≤ cur.size) (hle : Le W ao l)
    (h : ∀ w' cur', w'.heap[g]? = some (.cells cur' 32 (0, 0)) → cur'.size = cur.size → (∀ (k : Nat) (u : Value), (ecs l)[k]? = some u → cur'[k]? = some u) → Kp (fun k => k = g) W w' → wpList Try.prog ops Q rest (a.put o.dst (goInt l.length)) w') : wpList Try.prog ops Q (o :: rest) a W := by
  have hsz : (Try.prog.info? 32).map (·.size) = some 8 := by kernel_rfl
  refine wpList_plain hgd fun K hK => ?_
  by_cases h0 : l.length = 0
  · have hl : l = [] := List.eq_nil_of_length_eq_zero h0
    subst hl
    have hrun := run_copy_none_sized (P := Try.prog) W 22 22 o.type 32 8 (some ⟨g, 0, none⟩) ao 0 dc 0 sc Try.underlying22 hsz rfl
    unfold Oper.wp
    simp only [List.length_nil] at hd hs
    simp [execOp, ho, resolve, invoke, builtin, hd, hs, hrun, Result.andThen]
    exact hK _ _ (h W cur hg rfl (fun k u hu => by simp [ecs, flat] at hu) (Kp.refl _ _))
  · obtain ⟨e0, he0⟩ : ∃ e0, l[0]? = some e0 := ⟨_, List.getElem?_eq_getElem (by omega)⟩
    obtain ⟨b, off, rfl, _⟩ := hle 0 e0 he0
    have hsrc : ∀ j v, (ecs l)[j]? = some v → W.cell? ((⟨b, off, none⟩ : Addr).add j) = some v := by
      intro j v hj
      have hjl := (List.getElem?_eq_some_iff.1 hj).1
      rw [ecs_len] at hjl
      obtain ⟨e, he⟩ : ∃ e, l[j / 8]? = some e := ⟨_, List.getElem?_eq_getElem (by omega)⟩
      obtain ⟨b', off', eb, c0, c1, c2, c3, c4, c5, c6, c7⟩ := hle (j / 8) e he
      simp only [Option.some.injEq, Addr.mk.injEq, and_true] at eb
      obtain ⟨rfl, rfl⟩ := eb
      rw [Addr.add_lit]
      have hat : ∀ i u, e.cs[i]? = some u → (ecs l)[j / 8 * 8 + i]? = some u := fun i u hu => flat_at Ev.cs 8 Ev.cs_len l (j / 8) i e u he hu
      have key : ∀ i, j % 8 = i → ∀ u, e.cs[i]? = some u → W.cell? ⟨b, off + j / 8 * 8 + i, none⟩ = some u → W.cell? ⟨b, off + j, none⟩ = some v := by
        intro i hi u hu hc
        have h1 := hat i u hu
        rw [show j / 8 * 8 + i = j by omega, hj] at h1
        cases h1
        rw [show off + j = off + j / 8 * 8 + i by omega]
        exact hc
      have hlt : j % 8 < 8 := Nat.mod_lt _ (by omega)
      match hm : j % 8, hlt with
      | 0, _ => exact key 0 hm _ rfl c0
      | 1, _ => exact key 1 hm _ rfl c1
      | 2, _ => exact key 2 hm _ rfl c2
      | 3, _ => exact key 3 hm _ rfl c3
      | 4, _ => exact key 4 hm _ rfl c4
      | 5, _ => exact key 5 hm _ rfl c5
      | 6, _ => exact key 6 hm _ rfl c6
      | 7, _ => exact key 7 hm _ rfl c7
    have hrun := run_copy_sized (P := Try.prog) W 22 22 o.type 32 8 g 0 l.length dc ⟨b, off, none⟩ l.length sc cur 32 (ecs l) Try.underlying22 hsz hg (by rw [ecs_len]; simp) hsrc (by rw [ecs_len]; omega) (ecs_one l)
    unfold Oper.wp
    simp [execOp, ho, resolve, invoke, builtin, hd, hs, hrun, Result.andThen]
    have hfin := hK _ _ (h (W.setRow g (ecs l ++ cur.toList.drop (ecs l).length).toArray) (ecs l ++ cur.toList.drop (ecs l).length).toArray (setRow_heap W g _ _ _ _ hg) ?_ ?_ ?_)
    · exact hfin
    · simp [ecs_len]
      omega
    · intro k u hu
      rw [List.getElem?_toArray, List.getElem?_append_left (List.getElem?_eq_some_iff.1 hu).1]
      exact hu
    · have hb := below_setRow (Below.refl g W) (Nat.le_refl g) (ecs l ++ cur.toList.drop (ecs l).length).toArray
      refine ⟨hb.os, hb.tape, hb.output, hb.size, fun k hk hne => ?_⟩
      show (W.heap.modify g _)[k]? = _
      rw [Array.getElem?_modify]
      simp [Ne.symm hne]
theorem make_ev (N : Nat) (hN : N ≤ 100000000) : ∃ cur : Array Value, cur.size = (N + 1) * 8 ∧ ∀ w, (Instr.makeSlice 22 (.int .i64 (N : Int)) (.int .i64 ((N : Int) + 1))).run Try.prog w = .ok (.slice (some ⟨w.heap.size, 0, none⟩) N (N + 1)) (w.alloc (.cells cur 32)) := by
  obtain ⟨i0, hi, hz0, hz1, hz2⟩ := info_parts Try.info32
  refine ⟨madeCells (Value.cells (.agg #[.int .u8 0, .int .u8 0, .int .u8 0, .string ⟨#[]⟩, .int .i64 0, .int .i64 0, .int .i64 0, .int .i64 0])) ((N + 1) * i0.size), by rw [size_madeCells, hz1], fun w => ?_⟩
  have h := run_make (P := Try.prog) w 22 32 i0 _ Try.underlying22 hi hz0 .i64 .i64 (N : Int) ((N : Int) + 1) (by omega) (by omega) (by rw [hz2]; omega) (by omega)
  rw [h, show ((N : Int) + 1).toNat = N + 1 by omega, show (N : Int).toNat = N by omega]

end Go.Proofs.Ythbgipmkdcffnaa
