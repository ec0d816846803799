import Derived.Test.YtkigadnkclkopaaGreatU5
import Derived.Test.YtkigadnkclkopaaGreatL2
import Derived.Laws.CopyOwn
set_option linter.unusedVariables false
set_option linter.unusedSimpArgs false
namespace Go.Proofs.YtkigadnkclkopaaGreat
open Go.RowKit

/-! SyntaxProgram: what it makes. -/
def szS : List (Int × List Nd) → Nat
  | [] => 0
  | (_, c) :: S => nszL c + 1 + szS S
theorem nszL_app (a b : List Nd) : nszL (a ++ b) = nszL a + nszL b := by
  induction a with
  | nil => simp [nszL]
  | cons x r ih => simp only [List.cons_append, nszL, ih]; omega
theorem bld_nsz : ∀ (l : List Ev) (S : List (Int × List Nd)) (n : Nd), bld l S = some n → nsz n ≤ szS S + l.length
  | [], S, n, h => by simp [bld] at h
  | x :: l, S, n, h => by
    simp only [bld] at h
    by_cases h1 : x.k = 1
    · rw [if_pos h1] at h
      split at h
      · cases h
      · have := bld_nsz l _ n h
        simp only [szS, nszL, List.length_cons] at this ⊢
        omega
    · rw [if_neg h1] at h
      by_cases h3 : x.k = 3
      · rw [if_pos h3] at h
        cases S with
        | nil => cases h
        | cons y S' =>
          obtain ⟨k, c⟩ := y
          simp only at h
          split at h
          · cases S' with
            | nil =>
              simp only at h
              split at h
              · cases h
                simp only [nsz, szS, List.length_cons]
                omega
              · cases h
            | cons z S2 =>
              obtain ⟨k', c'⟩ := z
              have := bld_nsz l _ n h
              simp only [szS, nszL_app, nszL, nsz, List.length_cons] at this ⊢
              omega
          · cases h
      · rw [if_neg h3] at h
        split at h
        · cases S with
          | nil => cases h
          | cons y S' =>
            obtain ⟨k, c⟩ := y
            have := bld_nsz l _ n h
            simp only [szS, nszL_app, nszL, nsz, List.length_cons] at this ⊢
            omega
        · cases h
theorem lt_of_blk {w : World} {g : Nat} {l : List Tv} {cs : Array Value} {f : TypeId} (hg : w.heap[g]? = some (.cells cs f (0, 0))) (hc : ∀ (k : Nat) (u : Value), (tcs l)[k]? = some u → cs[k]? = some u) : Lt w (some ⟨g, 0, none⟩) l := by
  intro j d hj
  have hk : ∀ (i : Nat) (u : Value), d.cs[i]? = some u → w.cell? ⟨g, 0 + j * 6 + i, none⟩ = some u := fun i u hu => by
    rw [Nat.zero_add]
    exact blk_cell hg (hc _ _ (flat_at Tv.cs 6 Tv.cs_len l j i d _ hj hu))
  exact ⟨g, 0, rfl, hk 0 _ rfl, hk 1 _ rfl, hk 2 _ rfl, hk 3 _ rfl, hk 4 _ rfl, hk 5 _ rfl⟩
/-- The law's own row of events, with its marked room. -/
def InT (B : Nat) (l : List Tv) (V : World) : Prop := ∃ cur, V.heap[B]? = some (.cells cur 28 (0, 0)) ∧ cur.size = (l.length + 1) * 6 ∧ (∀ (k : Nat) (u : Value), (tcs l)[k]? = some u → cur[k]? = some u) ∧ cur[l.length * 6 + 1]? = some (.string ⟨#[109, 97, 114, 107]⟩)
theorem InT.kp {S : Nat → Prop} {B : Nat} {l : List Tv} {V V' : World} (h : InT B l V) (hk : Kp S V V') (hS : ¬ S B) : InT B l V' := by
  obtain ⟨cur, h1, h2⟩ := h
  exact ⟨cur, hk.blk h1 hS, h2⟩
theorem InT.lt {B : Nat} {l : List Tv} {V : World} (h : InT B l V) : Lt V (some ⟨B, 0, none⟩) l := by
  obtain ⟨cur, h1, h2, h3, _⟩ := h
  exact lt_of_blk h1 h3
theorem copy_tk {W : World} {ops : Array Oper} {rest : List Oper} {o : Oper} {a : Act} {Q : Exit → Act → World → Prop} (hgd : o.guard = none) (d s : Operand)
    (ho : o.op = .call { callee := .builtin .copy, args := #[d, s], argTypes := #[22, 22] }) (g dc sc : Nat) (ao : Option Addr) (l : List Tv) (cur : Array Value) (hd : a.eval d = .slice (some ⟨g, 0, none⟩) l.length dc) (hs : a.eval s = .slice ao l.length sc)
    (hg : W.heap[g]? = some (.cells cur 28 (0, 0))) (hz : l.length * 6 ≤ cur.size) (hle : Lt W ao l)
    (h : ∀ w' cur', w'.heap[g]? = some (.cells cur' 28 (0, 0)) → cur'.size = cur.size → (∀ (k : Nat) (u : Value), (tcs l)[k]? = some u → cur'[k]? = some u) → Kp (fun k => k = g) W w' → wpList Tryz.prog ops Q rest (a.put o.dst (goInt l.length)) w') : wpList Tryz.prog ops Q (o :: rest) a W := by
  have hsz : (Tryz.prog.info? 28).map (·.size) = some 6 := by kernel_rfl
  refine wpList_plain hgd fun K hK => ?_
  by_cases h0 : l.length = 0
  · have hl : l = [] := List.eq_nil_of_length_eq_zero h0
    subst hl
    have hrun := run_copy_none_sized (P := Tryz.prog) W 22 22 o.type 28 6 (some ⟨g, 0, none⟩) ao 0 dc 0 sc Tryz.underlying22 hsz rfl
    unfold Oper.wp
    simp only [List.length_nil] at hd hs
    simp [execOp, ho, resolve, invoke, builtin, hd, hs, hrun, Result.andThen]
    exact hK _ _ (h W cur hg rfl (fun k u hu => by simp [tcs, flat] at hu) (Kp.refl _ _))
  · obtain ⟨e0, he0⟩ : ∃ e0, l[0]? = some e0 := ⟨_, List.getElem?_eq_getElem (by omega)⟩
    obtain ⟨b, off, rfl, _⟩ := hle 0 e0 he0
    have hsrc : ∀ j v, (tcs l)[j]? = some v → W.cell? ((⟨b, off, none⟩ : Addr).add j) = some v := by
      intro j v hj
      have hjl := (List.getElem?_eq_some_iff.1 hj).1
      rw [tcs_len] at hjl
      obtain ⟨e, he⟩ : ∃ e, l[j / 6]? = some e := ⟨_, List.getElem?_eq_getElem (by omega)⟩
      obtain ⟨b', off', eb, c0, c1, c2, c3, c4, c5⟩ := hle (j / 6) e he
      simp only [Option.some.injEq, Addr.mk.injEq, and_true] at eb
      obtain ⟨rfl, rfl⟩ := eb
      rw [Addr.add_lit]
      have hat : ∀ i u, e.cs[i]? = some u → (tcs l)[j / 6 * 6 + i]? = some u := fun i u hu => flat_at Tv.cs 6 Tv.cs_len l (j / 6) i e u he hu
      have key : ∀ i, j % 6 = i → ∀ u, e.cs[i]? = some u → W.cell? ⟨b, off + j / 6 * 6 + i, none⟩ = some u → W.cell? ⟨b, off + j, none⟩ = some v := by
        intro i hi u hu hc
        have h1 := hat i u hu
        rw [show j / 6 * 6 + i = j by omega, hj] at h1
        cases h1
        rw [show off + j = off + j / 6 * 6 + i by omega]
        exact hc
      have hlt : j % 6 < 6 := Nat.mod_lt _ (by omega)
      match hm : j % 6, hlt with
      | 0, _ => exact key 0 hm _ rfl c0
      | 1, _ => exact key 1 hm _ rfl c1
      | 2, _ => exact key 2 hm _ rfl c2
      | 3, _ => exact key 3 hm _ rfl c3
      | 4, _ => exact key 4 hm _ rfl c4
      | 5, _ => exact key 5 hm _ rfl c5
    have hrun := run_copy_sized (P := Tryz.prog) W 22 22 o.type 28 6 g 0 l.length dc ⟨b, off, none⟩ l.length sc cur 28 (tcs l) Tryz.underlying22 hsz hg (by rw [tcs_len]; simp) hsrc (by rw [tcs_len]; omega) (tcs_one l)
    unfold Oper.wp
    simp [execOp, ho, resolve, invoke, builtin, hd, hs, hrun, Result.andThen]
    have hfin := hK _ _ (h (W.setRow g (tcs l ++ cur.toList.drop (tcs l).length).toArray) (tcs l ++ cur.toList.drop (tcs l).length).toArray (setRow_heap W g _ _ _ _ hg) ?_ ?_ ?_)
    · exact hfin
    · simp [tcs_len]
      omega
    · intro k u hu
      rw [List.getElem?_toArray, List.getElem?_append_left (List.getElem?_eq_some_iff.1 hu).1]
      exact hu
    · have hb := below_setRow (Below.refl g W) (Nat.le_refl g) (tcs l ++ cur.toList.drop (tcs l).length).toArray
      refine ⟨hb.os, hb.tape, hb.output, hb.size, fun k hk hne => ?_⟩
      show (W.heap.modify g _)[k]? = _
      rw [Array.getElem?_modify]
      simp [Ne.symm hne]
theorem make_tk (N : Nat) (hN : N ≤ 100000000) : ∃ cur : Array Value, cur.size = (N + 1) * 6 ∧ ∀ w, (Instr.makeSlice 22 (.int .i64 (N : Int)) (.int .i64 ((N : Int) + 1))).run Tryz.prog w = .ok (.slice (some ⟨w.heap.size, 0, none⟩) N (N + 1)) (w.alloc (.cells cur 28)) := by
  obtain ⟨i0, hi, hz0, hz1, hz2⟩ := info_parts Tryz.info28
  refine ⟨madeCells (Value.cells (.agg #[.int .u8 0, .string ⟨#[]⟩, .int .i64 0, .int .i64 0, .int .i64 0, .int .i64 0])) ((N + 1) * i0.size), by rw [size_madeCells, hz1], fun w => ?_⟩
  have h := run_make (P := Tryz.prog) w 22 28 i0 _ Tryz.underlying22 hi hz0 .i64 .i64 (N : Int) ((N : Int) + 1) (by omega) (by omega) (by rw [hz2]; omega) (by omega)
  rw [h, show ((N : Int) + 1).toNat = N + 1 by omega, show (N : Int).toNat = N by omega]

abbrev ecl : List Value := [.int .u8 0, .string ⟨#[109, 97, 114, 107]⟩, .int .i64 0, .int .i64 0, .int .i64 0, .int .i64 0]
theorem ecl_eq (w : World) (b o : Nat) : w.setCells b o ecl = (((((w.setCell ⟨b, o, none⟩ (.int .u8 0)).setCell ⟨b, o + 1, none⟩ (.string ⟨#[109, 97, 114, 107]⟩)).setCell ⟨b, o + 2, none⟩ (.int .i64 0)).setCell ⟨b, o + 3, none⟩ (.int .i64 0)).setCell ⟨b, o + 4, none⟩ (.int .i64 0)).setCell ⟨b, o + 5, none⟩ (.int .i64 0) := by
  simp only [ecl, World.setCells, Nat.add_assoc]
theorem inb_mk {w4 : World} {B : Nat} {l : List Tv} {cur : Array Value} (h1 : w4.heap[B]? = some (.cells cur 28 (0, 0))) (h2 : cur.size = (l.length + 1) * 6) (h3 : ∀ (k : Nat) (u : Value), (tcs l)[k]? = some u → cur[k]? = some u) : InT B l (w4.setCells B (l.length * 6) ecl) := by
  obtain ⟨cur', e1, e2, e3, e4⟩ := sets_blk B ecl (l.length * 6) w4 cur h1
  refine ⟨cur', e1, e2.trans h2, fun k u hu => ?_, ?_⟩
  · have hk := (List.getElem?_eq_some_iff.1 hu).1
    rw [tcs_len] at hk
    rw [e3 k (.inl hk)]
    exact h3 k u hu
  · exact e4 (by show l.length * 6 + 6 ≤ _; omega) 1 (.string ⟨#[109, 97, 114, 107]⟩) rfl
/-- What was built, in its variable. -/
structure BV (n : Nd) (p : Option Addr) (m c : Nat) (lo hi q : Nat) (V : World) : Prop where
  tn : TN (fun k => lo ≤ k ∧ k < hi) V n (.slice p m c)
  vb : V.heap[q]? = some (NdB n.k n.d (.slice p m c))
theorem BV.kp {S : Nat → Prop} {n : Nd} {p : Option Addr} {m c lo hi q : Nat} {V V' : World} (h : BV n p m c lo hi q V) (hk : Kp S V V') (hS : ∀ k, S k → ¬ (lo ≤ k ∧ k < hi) ∧ k ≠ q) : BV n p m c lo hi q V' :=
  ⟨TN.kp hk (fun k h1 h2 => (hS k h2).1 h1) _ _ h.tn, hk.blk h.vb (fun e => (hS q e).2 rfl)⟩
theorem BV.below {n : Nd} {p : Option Addr} {m c lo hi q : Nat} {V V' : World} (h : BV n p m c lo hi q V) (hb : Below V.heap.size V V') : BV n p m c lo hi q V' := h.kp (Kp.of_below (S := fun _ => False) hb) (fun _ h => h.elim)
theorem BV.see {n : Nd} {p : Option Addr} {m c lo hi q : Nat} {V : World} (h : BV n p m c lo hi q V) : Nv V (ndv n.k n.d (.slice p m c)) n := TN.see _ _ h.tn
theorem bv_mk {W w : World} {E : List Ev} {code : Int} {a : Nat} {x : Ending} (h : Prg W E code a x w) : ∃ n p c, x = .returned (.tuple #[ndv n.k n.d (.slice p n.c.length c), .int .i64 code, .int .i64 ((if code = 0 then 0 else a : Nat) : Int)]) ∧ Below W.heap.size W w ∧ BV n p n.c.length c W.heap.size w.heap.size w.heap.size (w.alloc (NdB n.k n.d (.slice p n.c.length c))) ∧ (code = 0 → bld E [] = some n) ∧ (code ≠ 0 → n = .mk 0 tv0 []) := by
  obtain ⟨h1, n, p, c, rfl, h2, h3, h4⟩ := h
  exact ⟨n, p, c, rfl, h1, ⟨TN.kp (Kp.of_below (S := fun _ => False) (below_new _ _)) (fun _ _ h => h) _ _ (TN.sub (fun k hk h => ⟨h, hk⟩) _ _ h2), new_at _ _⟩, h3, h4⟩
theorem BV.spoil {n : Nd} {p : Option Addr} {m c lo hi q : Nat} {V : World} (h : BV n p m c lo hi q V) (hz : nsz n ≤ 1000000000) (hhi : hi ≤ V.heap.size) : Calls Tryz.prog 9 #[ndv n.k n.d (.slice p m c)] V fun r w' => r = .returned (.tuple #[]) ∧ Kp (fun k => lo ≤ k ∧ k < hi) V w' := by
  refine (spoil_any (fun k => lo ≤ k ∧ k < hi) (hgt n) n.k n.d _ V (TN.sp (hgt n) n _ (Nat.le_refl _) hz h.tn) (fun q hq => by omega)).mono ?_
  rintro r w' ⟨rfl, hl⟩
  exact ⟨rfl, hl.kp⟩

end Go.Proofs.YtkigadnkclkopaaGreat

set_option linter.unusedVariables false
set_option linter.unusedSimpArgs false
namespace Go.Proofs.YtkigadnkclkopaaGreat
open Go.RowKit

/-! SyntaxProgram. -/
/-- The node that both answer. -/
theorem prg_node {l : List Tv} {E : List Ev} {code : Int} {a : Nat} (h : Alr (.live [] 0) l E code a) (hl : l.length ≤ 4194304) : ∃ N : Nd, (∀ n, (code = 0 → bld E [] = some n) → (code ≠ 0 → n = .mk 0 tv0 []) → n = N) ∧ nsz N ≤ 1000000000 := by
  by_cases hc : code = 0
  · subst hc
    obtain ⟨c, hb, _⟩ := alr_tree h
    refine ⟨_, fun n h1 _ => by have := h1 rfl; rw [hb] at this; cases this; rfl, ?_⟩
    have h2 := bld_nsz E [] _ hb
    have h3 := alr_len h
    simp only [szS] at h2
    omega
  · exact ⟨.mk 0 tv0 [], fun n _ h2 => h2 hc, by simp [nsz, nszL]⟩
set_option maxRecDepth 100000 in
set_option maxHeartbeats 8000000 in
theorem program_walk (l : List Tv) (ao : Option Addr) (cap : Nat) (t : List Tv) (bo' : Option Addr) (cap' : Nat) (W : World) (hle : Lt W ao l) (h1 : l.length ≤ cap) (h2 : cap ≤ maxLen) (hle' : Lt W bo' t) (h1' : t.length ≤ cap') (h2' : cap' ≤ maxLen) : Calls Tryz.prog 3 #[.slice ao l.length cap, .slice bo' t.length cap'] W fun r w' => r = .returned (.bool true) ∧ Below W.heap.size W w' := by
  have HL : Hid (∀ V, Below W.heap.size W V → Lt V ao l ∧ Lt V bo' t) := fun V hb => ⟨hle.below hb, hle'.below hb⟩
  have HAw : Hid (∀ V, Calls Tryz.prog 5 #[] V fun r w' => r = .returned (.bool true) ∧ Below V.heap.size V w') := sawake_any
  have hmx : maxLen = 9223372036854775807 := rfl
  have hlI : (l.length : Int) ≤ 9223372036854775807 := by omega
  have htI : (t.length : Int) ≤ 9223372036854775807 := by omega
  clear hle hle' hmx
  go_enter Tryz.func3, Tryz.ntmps3
  go_wp2_with fail
  refine (HAw.out _).mono ?_
  rintro r w2 ⟨rfl, hb2⟩
  have H2 : Hid (Below W.heap.size W w2) := hb2
  clear hb2
  by_cases hbig : 4194304 < l.length
  · have hbI : (l.length : Int) > 4194304 := by omega
    go_wp2_with fail
    go_ret
    exact ⟨rfl, H2.out⟩
  · have hbI : ¬ ((l.length : Int) > 4194304) := by omega
    by_cases hbig' : 4194304 < t.length
    · have hbI' : (t.length : Int) > 4194304 := by omega
      go_wp2_with fail
      go_ret
      exact ⟨rfl, H2.out⟩
    · have hbI' : ¬ ((t.length : Int) > 4194304) := by omega
      obtain ⟨cur0, hc0, hmk⟩ := make_tk l.length (by omega)
      have HLw := (HL.out w2 H2.out).1.below (below_new w2 (.cells cur0 28))
      have HLw' : Hid (Lt (w2.alloc (.cells cur0 28)) ao l) := HLw
      have HN0 : Hid ((w2.alloc (.cells cur0 28)).heap[w2.heap.size]? = some (.cells cur0 28 (0, 0))) := new_at _ _
      have hz0 : l.length * 6 ≤ cur0.size := by omega
      clear HLw
      go_upto_region 5 with fail
      go_upto_region 6 with (refine copy_tk (by rfl) _ _ (by rfl) w2.heap.size (l.length + 1) cap ao l cur0 (by rfl) (by rfl) HN0.out hz0 HLw'.out ?_; intro w4 cur1 k1 k2 k3 k4; have H4 : Hid (w4.heap[w2.heap.size]? = some (.cells cur1 28 (0, 0)) ∧ cur1.size = (l.length + 1) * 6 ∧ (∀ (k : Nat) (u : Value), (tcs l)[k]? = some u → cur1[k]? = some u) ∧ Kp (fun k => k = w2.heap.size) (w2.alloc (.cells cur0 28)) w4) := ⟨k1, k2.trans hc0, k3, k4⟩; clear k1 k2 k3 k4)
      obtain ⟨B, hBe⟩ : ∃ B, w2.heap.size = B := ⟨_, rfl⟩
      have h4a := H4.out.1
      have h4b := H4.out.2.1
      rw [hBe] at h4a
      have hcell : ∀ i, i < 6 → ∃ u, w4.cell? ⟨B, l.length * 6 + i, none⟩ = some u := fun i hi => by
        have : l.length * 6 + i < cur1.size := by omega
        exact ⟨cur1[l.length * 6 + i], blk_cell h4a (Array.getElem?_eq_getElem this)⟩
      obtain ⟨q0, t0⟩ := hcell 0 (by omega)
      obtain ⟨q1, t1⟩ := hcell 1 (by omega)
      obtain ⟨q2, t2⟩ := hcell 2 (by omega)
      obtain ⟨q3, t3⟩ := hcell 3 (by omega)
      obtain ⟨q4, t4⟩ := hcell 4 (by omega)
      obtain ⟨q5, t5⟩ := hcell 5 (by omega)
      rw [Nat.add_zero] at t0
      have tf : ∀ i, w4.frozen? ⟨B, i, none⟩ = false := fun i => blk_frozen h4a
      have tl : B < w4.heap.size := blk_lt h4a
      have z1 : (l.length : Int) < (l.length : Int) + 1 := by omega
      have z2 : (0 : Int) ≤ l.length := by omega
      have hWB : W.heap.size ≤ B := by rw [← hBe]; exact H2.out.size
      have H5 : Hid (InT B l (w4.setCells B (l.length * 6) ecl) ∧ Below W.heap.size W (w4.setCells B (l.length * 6) ecl) ∧ B < (w4.setCells B (l.length * 6) ecl).heap.size) := by
        have hk := sets_kp B ecl (l.length * 6) w4
        have hb4 : Below W.heap.size W w4 := by
          have hn := below_new w2 (.cells cur0 28)
          have h3 := H2.out.trans (hn.mono H2.out.size)
          exact Kp.low h3 H4.out.2.2.2 (fun k e => by omega) h3.size
        exact ⟨inb_mk h4a h4b H4.out.2.2.1, Kp.low hb4 hk (fun k e => by omega) hb4.size, Nat.lt_of_lt_of_le tl hk.size⟩
      rw [hBe]
      clear hcell h4a h4b H4 HN0 HLw' hmk hc0 hz0 hBe
      go_upto_region 8 with fail
      obtain ⟨w5, e5⟩ : ∃ w5, w4.setCells B (l.length * 6) ecl = w5 := ⟨_, rfl⟩
      rw [e5] at H5
      rw [ecl_eq] at e5
      rw [e5]
      clear e5 t0 t1 t2 t3 t4 t5 tf tl
      obtain ⟨X1, C1, K1, ma1⟩ := alr_ex l (.live [] 0) good_new
      obtain ⟨X2, C2, K2, ma2⟩ := alr_ex t (.live [] 0) good_new
      obtain ⟨N1, hn1, hz1⟩ := prg_node ma1 (by omega)
      obtain ⟨N2, hn2, hz2⟩ := prg_node ma2 (by omega)
      obtain ⟨A1, hA1⟩ : ∃ A1 : Nat, (if C1 = 0 then 0 else K1) = A1 := ⟨_, rfl⟩
      obtain ⟨A2, hA2⟩ : ∃ A2 : Nat, (if C2 = 0 then 0 else K2) = A2 := ⟨_, rfl⟩
      have HB1 : Hid (∀ V ao' cap'', Lt V ao' l → l.length ≤ cap'' → cap'' ≤ maxLen → Calls Tryz.prog 6 #[.slice ao' l.length cap''] V fun r w' => ∃ p m c, r = .returned (.tuple #[ndv N1.k N1.d (.slice p m c), .int .i64 C1, .int .i64 (A1 : Int)]) ∧ Below V.heap.size V w' ∧ BV N1 p m c V.heap.size w'.heap.size w'.heap.size (w'.alloc (NdB N1.k N1.d (.slice p m c)))) := fun V ao' cap'' h1 h2 h3 => by
        refine (prg_any h1 (by omega) ma1).mono ?_
        intro r w' h
        obtain ⟨n, p, c, e1, e2, e3, e4, e5⟩ := bv_mk h
        obtain rfl := hn1 n e4 e5
        rw [hA1] at e1
        exact ⟨p, _, c, e1, e2, e3⟩
      have HB2 : Hid (∀ V, Below W.heap.size W V → Calls Tryz.prog 6 #[.slice bo' t.length cap'] V fun r w' => ∃ p m c, r = .returned (.tuple #[ndv N2.k N2.d (.slice p m c), .int .i64 C2, .int .i64 (A2 : Int)]) ∧ Below V.heap.size V w' ∧ BV N2 p m c V.heap.size w'.heap.size w'.heap.size (w'.alloc (NdB N2.k N2.d (.slice p m c)))) := fun V hb => by
        refine (prg_any (HL.out V hb).2 (by omega) ma2).mono ?_
        intro r w' h
        obtain ⟨n, p, c, e1, e2, e3, e4, e5⟩ := bv_mk h
        obtain rfl := hn2 n e4 e5
        rw [hA2] at e1
        exact ⟨p, _, c, e1, e2, e3⟩
      have HR1 : Hid (∀ V, Below W.heap.size W V → Calls Tryz.prog 7 #[.slice ao l.length cap] V fun r w' => ∃ p m c, r = .returned (.tuple #[ndv N1.k N1.d (.slice p m c), .int .i64 C1, .int .i64 (A1 : Int)]) ∧ Below V.heap.size V w' ∧ BV N1 p m c V.heap.size w'.heap.size w'.heap.size (w'.alloc (NdB N1.k N1.d (.slice p m c)))) := fun V hb => by
        refine (doc_any (HL.out V hb).1 (by omega) ma1).mono ?_
        intro r w' h
        obtain ⟨n, p, c, e1, e2, e3, e4, e5⟩ := bv_mk h
        obtain rfl := hn1 n e4 e5
        rw [hA1] at e1
        exact ⟨p, _, c, e1, e2, e3⟩
      have HR2 : Hid (∀ V, Below W.heap.size W V → Calls Tryz.prog 7 #[.slice bo' t.length cap'] V fun r w' => ∃ p m c, r = .returned (.tuple #[ndv N2.k N2.d (.slice p m c), .int .i64 C2, .int .i64 (A2 : Int)]) ∧ Below V.heap.size V w' ∧ BV N2 p m c V.heap.size w'.heap.size w'.heap.size (w'.alloc (NdB N2.k N2.d (.slice p m c)))) := fun V hb => by
        refine (doc_any (HL.out V hb).2 (by omega) ma2).mono ?_
        intro r w' h
        obtain ⟨n, p, c, e1, e2, e3, e4, e5⟩ := bv_mk h
        obtain rfl := hn2 n e4 e5
        rw [hA2] at e1
        exact ⟨p, _, c, e1, e2, e3⟩
      have HIn : Hid (l.length ≤ l.length + 1 ∧ l.length + 1 ≤ maxLen) := ⟨by omega, by show l.length + 1 ≤ 9223372036854775807; omega⟩
      clear hn1 hn2 hA1 hA2 ma1 ma2
      go_wp2_with fail
      refine (HB1.out w5 _ _ H5.out.1.lt HIn.out.1 HIn.out.2).mono ?_
      rintro r w6 ⟨pa, ma, ca, rfl, hb6, hv6⟩
      obtain ⟨W7, eW7⟩ : ∃ W7, w6.alloc (NdB N1.k N1.d (.slice pa ma ca)) = W7 := ⟨_, rfl⟩
      have H7 : Hid (Below w5.heap.size w5 W7 ∧ BV N1 pa ma ca w5.heap.size w6.heap.size w6.heap.size W7 ∧ W7.heap.size = w6.heap.size + 1 ∧ w5.heap.size ≤ w6.heap.size ∧ Below W.heap.size W W7) := by
        rw [← eW7]
        have h := hb6.trans ((below_new w6 (NdB N1.k N1.d (.slice pa ma ca))).mono hb6.size)
        exact ⟨h, hv6, size_al _ _, hb6.size, H5.out.2.1.trans (h.mono H5.out.2.1.size)⟩
      clear hb6 hv6
      go_upto_region 9 with fail
      try rw [eW7]
      clear eW7
      go_wp2_with fail
      refine (HB2.out W7 H7.out.2.2.2.2).mono ?_
      rintro r w8 ⟨pb, mb, cb, rfl, hb8, hv8⟩
      obtain ⟨W9, eW9⟩ : ∃ W9, w8.alloc (NdB N2.k N2.d (.slice pb mb cb)) = W9 := ⟨_, rfl⟩
      have H9 : Hid (Below W7.heap.size W7 W9 ∧ BV N2 pb mb cb W7.heap.size w8.heap.size w8.heap.size W9 ∧ W9.heap.size = w8.heap.size + 1 ∧ W7.heap.size ≤ w8.heap.size ∧ Below W.heap.size W W9) := by
        rw [← eW9]
        have h := hb8.trans ((below_new w8 (NdB N2.k N2.d (.slice pb mb cb))).mono hb8.size)
        exact ⟨h, hv8, size_al _ _, hb8.size, H7.out.2.2.2.2.trans (h.mono H7.out.2.2.2.2.size)⟩
      clear hb8 hv8 HB2
      go_upto_region 10 with fail
      try rw [eW9]
      clear eW9
      go_wp2_with fail
      refine (HR1.out W9 H9.out.2.2.2.2).mono ?_
      rintro r w10 ⟨px, mx, cx, rfl, hb10, hv10⟩
      obtain ⟨W11, eW11⟩ : ∃ W11, w10.alloc (NdB N1.k N1.d (.slice px mx cx)) = W11 := ⟨_, rfl⟩
      have H11 : Hid (Below W9.heap.size W9 W11 ∧ BV N1 px mx cx W9.heap.size w10.heap.size w10.heap.size W11 ∧ W11.heap.size = w10.heap.size + 1 ∧ W9.heap.size ≤ w10.heap.size ∧ Below W.heap.size W W11) := by
        rw [← eW11]
        have h := hb10.trans ((below_new w10 (NdB N1.k N1.d (.slice px mx cx))).mono hb10.size)
        exact ⟨h, hv10, size_al _ _, hb10.size, H9.out.2.2.2.2.trans (h.mono H9.out.2.2.2.2.size)⟩
      clear hb10 hv10 HR1
      go_upto_region 11 with fail
      try rw [eW11]
      clear eW11
      go_wp2_with fail
      refine (HR2.out W11 H11.out.2.2.2.2).mono ?_
      rintro r w12 ⟨py, my, cy, rfl, hb12, hv12⟩
      obtain ⟨W13, eW13⟩ : ∃ W13, w12.alloc (NdB N2.k N2.d (.slice py my cy)) = W13 := ⟨_, rfl⟩
      have H13 : Hid (Below W11.heap.size W11 W13 ∧ BV N2 py my cy W11.heap.size w12.heap.size w12.heap.size W13 ∧ W13.heap.size = w12.heap.size + 1 ∧ W11.heap.size ≤ w12.heap.size ∧ Below W.heap.size W W13) := by
        rw [← eW13]
        have h := hb12.trans ((below_new w12 (NdB N2.k N2.d (.slice py my cy))).mono hb12.size)
        exact ⟨h, hv12, size_al _ _, hb12.size, H11.out.2.2.2.2.trans (h.mono H11.out.2.2.2.2.size)⟩
      clear hb12 hv12 HR2
      have HS : Hid (B < w5.heap.size ∧ W.heap.size ≤ B ∧ w5.heap.size ≤ w6.heap.size ∧ W7.heap.size = w6.heap.size + 1 ∧ W7.heap.size ≤ w8.heap.size ∧ W9.heap.size = w8.heap.size + 1 ∧ W9.heap.size ≤ w10.heap.size ∧ W11.heap.size = w10.heap.size + 1 ∧ W11.heap.size ≤ w12.heap.size ∧ W13.heap.size = w12.heap.size + 1) := ⟨H5.out.2.2, hWB, H7.out.2.2.2.1, H7.out.2.2.1, H9.out.2.2.2.1, H9.out.2.2.1, H11.out.2.2.2.1, H11.out.2.2.1, H13.out.2.2.2.1, H13.out.2.2.1⟩
      have HF : Hid (∀ V, Below W13.heap.size W13 V → (Below W.heap.size W V ∧ InT B l V) ∧ (BV N1 pa ma ca w5.heap.size w6.heap.size w6.heap.size V ∧ BV N2 pb mb cb W7.heap.size w8.heap.size w8.heap.size V) ∧ BV N1 px mx cx W9.heap.size w10.heap.size w10.heap.size V ∧ BV N2 py my cy W11.heap.size w12.heap.size w12.heap.size V) := fun V hb => by
        have k13 := hb
        have k11 := H13.out.1.trans (k13.mono H13.out.1.size)
        have k9 := H11.out.1.trans (k11.mono H11.out.1.size)
        have k7 := H9.out.1.trans (k9.mono H9.out.1.size)
        have k5 := H7.out.1.trans (k7.mono H7.out.1.size)
        exact ⟨⟨H5.out.2.1.trans (k5.mono H5.out.2.1.size), H5.out.1.kp (Kp.of_below (S := fun _ => False) k5) (fun h => h)⟩, ⟨H7.out.2.1.below k7, H9.out.2.1.below k9⟩, H11.out.2.1.below k11, H13.out.2.1.below k13⟩
      have HW1 : Hid (∀ V p m c p' m' c', Nv V (ndv N1.k N1.d (.slice p m c)) N1 → Nv V (ndv N1.k N1.d (.slice p' m' c')) N1 → Calls Tryz.prog 8 #[ndv N1.k N1.d (.slice p m c), ndv N1.k N1.d (.slice p' m' c')] V fun r w' => r = .returned (.bool true) ∧ Below V.heap.size V w') := fun V p m c p' m' c' h1 h2 => whole_any N1 _ _ V h1 h2
      have HW2 : Hid (∀ V p m c p' m' c', Nv V (ndv N2.k N2.d (.slice p m c)) N2 → Nv V (ndv N2.k N2.d (.slice p' m' c')) N2 → Calls Tryz.prog 8 #[ndv N2.k N2.d (.slice p m c), ndv N2.k N2.d (.slice p' m' c')] V fun r w' => r = .returned (.bool true) ∧ Below V.heap.size V w') := fun V p m c p' m' c' h1 h2 => whole_any N2 _ _ V h1 h2
      clear H5 H7 H9 H11 H13
      go_upto_region 12 with fail
      try rw [eW13]
      clear eW13
      obtain ⟨_, ⟨va, vb⟩, vx, vy⟩ := HF.out W13 (Below.refl _ _)
      obtain ⟨⟨i0, i1, i2, i3, i4, i5, i6, i7⟩, il⟩ := nd_cells va.vb
      obtain ⟨⟨j0, j1, j2, j3, j4, j5, j6, j7⟩, jl⟩ := nd_cells vx.vb
      have HV := HW1.out W13 _ _ _ _ _ _ va.see vx.see
      have HV' : Hid (Calls Tryz.prog 8 #[ndv N1.k N1.d (.slice pa ma ca), ndv N1.k N1.d (.slice px mx cx)] W13 fun r w' => r = .returned (.bool true) ∧ Below W13.heap.size W13 w') := HV
      clear va vb vx vy HV
      go_wp2_with fail
      refine HV'.out.mono ?_
      rintro r w14 ⟨rfl, hb14⟩
      have K14 : Hid (Below W13.heap.size W13 w14) := hb14
      clear hb14 HV' i0 i1 i2 i3 i4 i5 i6 i7 il j0 j1 j2 j3 j4 j5 j6 j7 jl
      obtain ⟨_, ⟨va, vb⟩, vx, vy⟩ := HF.out w14 K14.out
      obtain ⟨⟨i0, i1, i2, i3, i4, i5, i6, i7⟩, il⟩ := nd_cells vb.vb
      obtain ⟨⟨j0, j1, j2, j3, j4, j5, j6, j7⟩, jl⟩ := nd_cells vy.vb
      have HV' : Hid (Calls Tryz.prog 8 #[ndv N2.k N2.d (.slice pb mb cb), ndv N2.k N2.d (.slice py my cy)] w14 fun r w' => r = .returned (.bool true) ∧ Below w14.heap.size w14 w') := HW2.out w14 _ _ _ _ _ _ vb.see vy.see
      clear va vb vx vy
      go_wp2_with fail
      refine HV'.out.mono ?_
      rintro r w15 ⟨rfl, hb15⟩
      have K15 : Hid (Below W13.heap.size W13 w15) := K14.out.trans (hb15.mono K14.out.size)
      clear hb15 HV' i0 i1 i2 i3 i4 i5 i6 i7 il j0 j1 j2 j3 j4 j5 j6 j7 jl
      obtain ⟨⟨hbel, hin⟩, ⟨va, vb⟩, vx, vy⟩ := HF.out w15 K15.out
      obtain ⟨⟨i0, i1, i2, i3, i4, i5, i6, i7⟩, il⟩ := nd_cells va.vb
      have HSp : Hid (Calls Tryz.prog 9 #[ndv N1.k N1.d (.slice pa ma ca)] w15 fun r w' => r = .returned (.tuple #[]) ∧ Kp (fun k => w5.heap.size ≤ k ∧ k < w6.heap.size) w15 w') := va.spoil hz1 (by omega)
      have H15 : Hid (Below W.heap.size W w15 ∧ InT B l w15 ∧ BV N2 pb mb cb W7.heap.size w8.heap.size w8.heap.size w15 ∧ BV N1 px mx cx W9.heap.size w10.heap.size w10.heap.size w15) := ⟨hbel, hin, vb, vx⟩
      clear hbel hin va vb vx vy
      go_wp2_with fail
      refine HSp.out.mono ?_
      rintro r w16 ⟨rfl, hk16⟩
      have H16 : Hid (Below W.heap.size W w16 ∧ InT B l w16 ∧ BV N2 pb mb cb W7.heap.size w8.heap.size w8.heap.size w16 ∧ BV N1 px mx cx W9.heap.size w10.heap.size w10.heap.size w16) := by
        have hs := HS.out
        exact ⟨Kp.low H15.out.1 hk16 (fun k e => by omega) H15.out.1.size, H15.out.2.1.kp hk16 (by omega), H15.out.2.2.1.kp hk16 (fun k e => by omega), H15.out.2.2.2.kp hk16 (fun k e => by omega)⟩
      clear hk16 HSp H15 i0 i1 i2 i3 i4 i5 i6 i7 il
      obtain ⟨⟨i0, i1, i2, i3, i4, i5, i6, i7⟩, il⟩ := nd_cells H16.out.2.2.1.vb
      have HSp : Hid (Calls Tryz.prog 9 #[ndv N2.k N2.d (.slice pb mb cb)] w16 fun r w' => r = .returned (.tuple #[]) ∧ Kp (fun k => W7.heap.size ≤ k ∧ k < w8.heap.size) w16 w') := H16.out.2.2.1.spoil hz2 (by omega)
      go_wp2_with fail
      refine HSp.out.mono ?_
      rintro r w17 ⟨rfl, hk17⟩
      have H17 : Hid (Below W.heap.size W w17 ∧ InT B l w17 ∧ BV N1 px mx cx W9.heap.size w10.heap.size w10.heap.size w17) := by
        have hs := HS.out
        exact ⟨Kp.low H16.out.1 hk17 (fun k e => by omega) H16.out.1.size, H16.out.2.1.kp hk17 (by omega), H16.out.2.2.2.kp hk17 (fun k e => by omega)⟩
      clear hk17 HSp H16 i0 i1 i2 i3 i4 i5 i6 i7 il
      go_wp2_with fail
      refine (HB1.out w17 _ _ H17.out.2.1.lt HIn.out.1 HIn.out.2).mono ?_
      rintro r w18 ⟨pc, mc, cc, rfl, hb18, hv18⟩
      obtain ⟨W19, eW19⟩ : ∃ W19, w18.alloc (NdB N1.k N1.d (.slice pc mc cc)) = W19 := ⟨_, rfl⟩
      have H19 : Hid (∀ V, Below W19.heap.size W19 V → Below W.heap.size W V ∧ InT B l V ∧ BV N1 px mx cx W9.heap.size w10.heap.size w10.heap.size V ∧ BV N1 pc mc cc w17.heap.size w18.heap.size w18.heap.size V) := fun V hb => by
        have hn := below_new w18 (NdB N1.k N1.d (.slice pc mc cc))
        rw [eW19] at hn hv18
        have h := hb18.trans (hn.mono hb18.size)
        have h2 := h.trans (hb.mono h.size)
        exact ⟨H17.out.1.trans (h2.mono H17.out.1.size), H17.out.2.1.kp (Kp.of_below (S := fun _ => False) h2) (fun h => h), H17.out.2.2.below h2, hv18.below hb⟩
      clear hb18 hv18 HB1
      go_upto_region 17 with fail
      try rw [eW19]
      clear eW19
      obtain ⟨_, _, vx, vc⟩ := H19.out W19 (Below.refl _ _)
      obtain ⟨⟨i0, i1, i2, i3, i4, i5, i6, i7⟩, il⟩ := nd_cells vc.vb
      obtain ⟨⟨j0, j1, j2, j3, j4, j5, j6, j7⟩, jl⟩ := nd_cells vx.vb
      have HV' : Hid (Calls Tryz.prog 8 #[ndv N1.k N1.d (.slice pc mc cc), ndv N1.k N1.d (.slice px mx cx)] W19 fun r w' => r = .returned (.bool true) ∧ Below W19.heap.size W19 w') := HW1.out W19 _ _ _ _ _ _ vc.see vx.see
      clear vx vc
      go_wp2_with fail
      refine HV'.out.mono ?_
      rintro r w20 ⟨rfl, hb20⟩
      have K20 : Hid (Below W19.heap.size W19 w20) := hb20
      clear hb20 HV' i0 i1 i2 i3 i4 i5 i6 i7 il j0 j1 j2 j3 j4 j5 j6 j7 jl
      have HIn2 : Hid (∀ V, Below W19.heap.size W19 V → Below W.heap.size W V ∧ InT B l V ∧ Lt V (some ⟨B, 0, none⟩) l ∧ Lt V ao l) := fun V hb => by
        obtain ⟨g1, g2, _⟩ := H19.out V hb
        exact ⟨g1, g2, g2.lt, (HL.out V g1).1⟩
      go_wp2_with fail
      go_loopw [26] (fun iv wr => ∃ j : Nat, j ≤ l.length ∧ iv = .int .i64 j ∧ Hid (Below W19.heap.size W19 wr)) (fun iv _ => l.length - (intOf iv).toNat)
      case atStart => exact ⟨0, Nat.zero_le _, rfl, K20.out⟩
      case round =>
        obtain ⟨j, hj, rfl, HJ⟩ := hrel
        by_cases hlt : j < l.length
        · have y1 : (j : Int) < l.length := by omega
          have y2 : (0 : Int) ≤ j := by omega
          obtain ⟨d, hd⟩ : ∃ d, l[j]? = some d := ⟨_, List.getElem?_eq_getElem hlt⟩
          obtain ⟨_, _, g3, g4⟩ := HIn2.out wr HJ.out
          obtain ⟨b1, o1, eb1, s0, s1, s2, s3, s4, s5⟩ := g3 j d hd
          cases eb1
          rw [Nat.zero_add] at s0 s1 s2 s3 s4 s5
          obtain ⟨b2, o2, rfl, u0, u1, u2, u3, u4, u5⟩ := g4 j d hd
          have sl := World.block_lt_of_cell? _ _ s0
          have ul := World.block_lt_of_cell? _ _ u0
          clear hd g3 g4
          go_wp2_with fail
          go_quiet (fail)
          go_wp2_with fail
          exact ⟨⟨j + 1, hlt, by go_num, below_dn HJ.out _⟩, by simp [intOf]; omega⟩
        · obtain rfl : j = l.length := by omega
          have y1 : ¬ ((l.length : Int) < l.length) := by omega
          obtain ⟨g1, ⟨curz, c1, c2, c3, c4⟩, _⟩ := HIn2.out wr HJ.out
          have G1 : Hid (∀ m, Below W.heap.size W (wr.drewN m)) := fun m => below_dn g1 m
          have r0 : wr.cell? ⟨B, l.length * 6 + 1, none⟩ = some (.string ⟨#[109, 97, 114, 107]⟩) := blk_cell c1 c4
          have rl : B < wr.heap.size := blk_lt c1
          clear g1 c1 c2 c3 c4
          go_wp2_with fail
          go_ret
          exact ⟨rfl, G1.out 0⟩


end Go.Proofs.YtkigadnkclkopaaGreat
