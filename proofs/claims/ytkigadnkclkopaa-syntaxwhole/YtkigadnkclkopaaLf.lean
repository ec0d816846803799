import Derived.Test.YtkigadnkclkopaaLb
import Derived.Laws.MakeOwn
set_option linter.unusedVariables false
set_option linter.unusedSimpArgs false
namespace Go.Proofs.Ytkigadnkclkopaa
open Go.RowKit

/-! The law's copied and kept. -/
theorem sets_kp (b : Nat) : ∀ (vs : List Value) (o : Nat) (w : World), Kp (fun k => k = b) w (w.setCells b o vs)
  | [], o, w => Kp.refl _ _
  | v :: vs, o, w => (Kp.set w b o v).trans (sets_kp b vs (o + 1) _)
theorem sets_blk (b : Nat) {T : TypeId} : ∀ (vs : List Value) (o : Nat) (w : World) (cur : Array Value), w.heap[b]? = some (.cells cur T (0, 0)) → ∃ cur', (w.setCells b o vs).heap[b]? = some (.cells cur' T (0, 0)) ∧ cur'.size = cur.size ∧ (∀ j, j < o ∨ o + vs.length ≤ j → cur'[j]? = cur[j]?) ∧ (o + vs.length ≤ cur.size → ∀ j u, vs[j]? = some u → cur'[o + j]? = some u)
  | [], o, w, cur, h => ⟨cur, h, rfl, fun _ _ => rfl, fun _ j u hu => by simp at hu⟩
  | v :: vs, o, w, cur, h => by
    have h1 := blk_set h o v
    obtain ⟨cur', e1, e2, e3, e4⟩ := sets_blk b vs (o + 1) _ _ h1
    rw [Array.size_setIfInBounds] at e2 e4
    refine ⟨cur', e1, e2, ?_, ?_⟩
    · intro j hj
      rw [List.length_cons] at hj
      rw [e3 j (by omega), Array.getElem?_setIfInBounds_ne (by omega)]
    · intro hs j u hu
      rw [List.length_cons] at hs
      cases j with
      | zero =>
        simp at hu
        subst hu
        rw [Nat.add_zero, e3 o (by omega), Array.getElem?_setIfInBounds_self_of_lt (by omega)]
      | succ j =>
        have := e4 (by omega) j u (by simpa using hu)
        rw [show o + (j + 1) = o + 1 + j by omega]; exact this
/-- Nodes as they lie in a block. -/
def RC (cur : Array Value) (c : List Nd) (vs : List Value) : Prop := vs.length = c.length ∧ ∀ (j : Nat) (n : Nd) (s : Value), c[j]? = some n → vs[j]? = some s → ∀ (i : Nat) (u : Value), (nc n s)[i]? = some u → cur[j * 8 + i]? = some u
mutual
/-- A copy: lists with marked room behind. -/
def CN (O : Nat → Prop) (W : World) : Nd → Value → Prop
  | .mk _ _ c, sv => ∃ vs b cur, sv = .slice (some ⟨b, 0, none⟩) c.length (c.length + 1) ∧ O b ∧ c.length + 1 ≤ maxLen ∧ W.heap[b]? = some (.cells cur 32 (0, 0)) ∧ cur.size = (c.length + 1) * 8 ∧ RC cur c vs ∧ cur[c.length * 8]? = some (.int .u8 99) ∧ CL O W c vs
def CL (O : Nat → Prop) (W : World) : List Nd → List Value → Prop
  | [], vs => vs = []
  | n :: r, vs => ∃ x vr, vs = x :: vr ∧ CN O W n x ∧ CL O W r vr
end
mutual
theorem CN.kp {O S : Nat → Prop} {W W' : World} (hk : Kp S W W') (hS : ∀ k, O k → ¬ S k) : ∀ (n : Nd) (x : Value), CN O W n x → CN O W' n x
  | .mk _ _ c, x, h => by
    rw [CN] at h ⊢
    obtain ⟨vs, b, cur, h1, h2, h3, h4, h5, h6, h7, h8⟩ := h
    exact ⟨vs, b, cur, h1, h2, h3, hk.blk h4 (hS b h2), h5, h6, h7, CL.kp hk hS c vs h8⟩
theorem CL.kp {O S : Nat → Prop} {W W' : World} (hk : Kp S W W') (hS : ∀ k, O k → ¬ S k) : ∀ (c : List Nd) (vs : List Value), CL O W c vs → CL O W' c vs
  | [], vs, h => by rw [CL] at h ⊢; exact h
  | n :: r, vs, h => by
    rw [CL] at h ⊢
    obtain ⟨x, vr, h1, h2, h3⟩ := h
    exact ⟨x, vr, h1, CN.kp hk hS n x h2, CL.kp hk hS r vr h3⟩
end
mutual
theorem CN.sub {O O' : Nat → Prop} {W : World} (hS : ∀ k, O k → O' k) : ∀ (n : Nd) (x : Value), CN O W n x → CN O' W n x
  | .mk _ _ c, x, h => by
    rw [CN] at h ⊢
    obtain ⟨vs, b, cur, h1, h2, h3, h4, h5, h6, h7, h8⟩ := h
    exact ⟨vs, b, cur, h1, hS b h2, h3, h4, h5, h6, h7, CL.sub hS c vs h8⟩
theorem CL.sub {O O' : Nat → Prop} {W : World} (hS : ∀ k, O k → O' k) : ∀ (c : List Nd) (vs : List Value), CL O W c vs → CL O' W c vs
  | [], vs, h => by rw [CL] at h ⊢; exact h
  | n :: r, vs, h => by
    rw [CL] at h ⊢
    obtain ⟨x, vr, h1, h2, h3⟩ := h
    exact ⟨x, vr, h1, CN.sub hS n x h2, CL.sub hS r vr h3⟩
end
theorem CN.below {O : Nat → Prop} {W W' : World} {n : Nd} {x : Value} (h : CN O W n x) (hb : Below W.heap.size W W') : CN O W' n x := CN.kp (Kp.of_below (S := fun _ => False) hb) (fun _ _ h => h) n x h
theorem CL.app {O : Nat → Prop} {W : World} {n : Nd} {x : Value} (hn : CN O W n x) : ∀ {c : List Nd} {vs : List Value}, CL O W c vs → CL O W (c ++ [n]) (vs ++ [x])
  | [], vs, h => by
    rw [CL] at h
    subst h
    rw [List.nil_append, List.nil_append, CL]
    exact ⟨x, [], rfl, hn, by rw [CL]⟩
  | m :: r, vs, h => by
    rw [CL] at h
    obtain ⟨y, vr, rfl, h2, h3⟩ := h
    rw [List.cons_append, List.cons_append, CL]
    exact ⟨y, vr ++ [x], rfl, h2, CL.app hn h3⟩
theorem CL.at {O : Nat → Prop} {W : World} : ∀ {c : List Nd} {vs : List Value} {j : Nat} {n : Nd}, CL O W c vs → c[j]? = some n → ∃ x, vs[j]? = some x ∧ CN O W n x
  | [], vs, j, n, h, hj => by simp at hj
  | m :: r, vs, 0, n, h, hj => by
    rw [CL] at h
    obtain ⟨y, vr, rfl, h2, h3⟩ := h
    simp at hj
    subst hj
    exact ⟨y, rfl, h2⟩
  | m :: r, vs, j + 1, n, h, hj => by
    rw [CL] at h
    obtain ⟨y, vr, rfl, h2, h3⟩ := h
    obtain ⟨x, a, b⟩ := CL.at h3 (j := j) (n := n) (by simpa using hj)
    exact ⟨x, by simpa using a, b⟩
/-- Read, a copy is the tree. -/
theorem CN.see {O : Nat → Prop} {W : World} (n : Nd) : ∀ (x : Value), CN O W n x → Nv W (ndv n.k n.d x) n := by
  obtain ⟨s, hs⟩ : ∃ s, nsz n = s := ⟨_, rfl⟩
  induction s using Nat.strongRecOn generalizing n with
  | ind s ih =>
    intro x h
    obtain ⟨k, d, c⟩ := n
    rw [CN] at h
    obtain ⟨vs, b, cur, e1, h2, h3, h4, h5, h6, h7, h8⟩ := h
    refine ⟨some ⟨b, 0, none⟩, c.length + 1, by rw [e1]; rfl, Nat.le_succ _, h3, (fun h => by cases h), fun a ha => ?_⟩
    cases ha
    refine .inr ⟨b, 0, rfl, hl_of (fun j m hj => ?_)⟩
    obtain ⟨y, hy, hm⟩ := CL.at h8 hj
    obtain ⟨ao, cp, rfl, q1, q2, q3, q4⟩ := nv_slot (ih (nsz m) (by rw [← hs]; exact nsz_kid (List.mem_of_getElem? hj)) m rfl y hm)
    have hc : ∀ i u, (nc m (.slice ao m.c.length cp))[i]? = some u → W.cell? ⟨b, 0 + j * 8 + i, none⟩ = some u := fun i u hu => by
      rw [Nat.zero_add]
      exact blk_cell h4 (h6.2 j m _ hj hy i u hu)
    have hc0 := hc 0 _ rfl
    obtain ⟨mk', md, mc⟩ := m
    rw [HN]
    exact ⟨⟨hc0, hc 1 _ rfl, hc 2 _ rfl, hc 3 _ rfl, hc 4 _ rfl, hc 5 _ rfl, hc 6 _ rfl⟩, ao, cp, hc 7 _ rfl, q1, q2, q3, q4⟩
/-- Between two rounds of copied. -/
structure CI (W : World) (k : Int) (d : Tv) (nv : Value) (c : List Nd) (j : Nat) (vs : List Value) (cur : Array Value) (V : World) : Prop where
  bel : Below W.heap.size W V
  xb : V.heap[W.heap.size]? = some (NdB k d nv)
  rb : V.heap[W.heap.size + 1]? = some (NdB 0 tv0 (.slice none 0 0))
  yb : V.heap[W.heap.size + 1 + 1]? = some (NdB k d (.slice (some ⟨W.heap.size + 1 + 1 + 1, 0, none⟩) c.length (c.length + 1)))
  row : V.heap[W.heap.size + 1 + 1 + 1]? = some (.cells cur 32 (0, 0))
  sz : cur.size = (c.length + 1) * 8
  rc : RC cur (c.take j) vs
  cl : CL (fun q => W.heap.size + 1 + 1 + 1 < q) V (c.take j) vs
theorem CI.below {W : World} {k : Int} {d : Tv} {nv : Value} {c : List Nd} {j : Nat} {vs : List Value} {cur : Array Value} {V V' : World} (h : CI W k d nv c j vs cur V) (hb : Below V.heap.size V V') : CI W k d nv c j vs cur V' :=
  ⟨h.bel.trans (hb.mono h.bel.size), blk_below h.xb hb, blk_below h.rb hb, blk_below h.yb hb, blk_below h.row hb, h.sz, h.rc, CL.kp (Kp.of_below (S := fun _ => False) hb) (fun _ _ h => h) _ _ h.cl⟩
theorem CI.slot {W : World} {k : Int} {d : Tv} {nv : Value} {c : List Nd} {j : Nat} {vs : List Value} {cur : Array Value} {V : World} (h : CI W k d nv c j vs cur V) {m : Nat} (hm : m ≤ c.length) : ∃ u0 u1 u2 u3 u4 u5 u6 u7, (V.cell? ⟨W.heap.size + 1 + 1 + 1, m * 8, none⟩ = some u0 ∧ V.cell? ⟨W.heap.size + 1 + 1 + 1, m * 8 + 1, none⟩ = some u1 ∧ V.cell? ⟨W.heap.size + 1 + 1 + 1, m * 8 + 2, none⟩ = some u2 ∧ V.cell? ⟨W.heap.size + 1 + 1 + 1, m * 8 + 3, none⟩ = some u3 ∧ V.cell? ⟨W.heap.size + 1 + 1 + 1, m * 8 + 4, none⟩ = some u4 ∧ V.cell? ⟨W.heap.size + 1 + 1 + 1, m * 8 + 5, none⟩ = some u5 ∧ V.cell? ⟨W.heap.size + 1 + 1 + 1, m * 8 + 6, none⟩ = some u6 ∧ V.cell? ⟨W.heap.size + 1 + 1 + 1, m * 8 + 7, none⟩ = some u7) ∧ W.heap.size + 1 + 1 + 1 < V.heap.size := by
  have hc : ∀ i, i < 8 → ∃ u, V.cell? ⟨W.heap.size + 1 + 1 + 1, m * 8 + i, none⟩ = some u := fun i hi => by
    have hs := h.sz
    have : m * 8 + i < cur.size := by omega
    exact ⟨cur[m * 8 + i], blk_cell h.row (Array.getElem?_eq_getElem this)⟩
  obtain ⟨u0, h0⟩ := hc 0 (by omega)
  obtain ⟨u1, h1⟩ := hc 1 (by omega)
  obtain ⟨u2, h2⟩ := hc 2 (by omega)
  obtain ⟨u3, h3⟩ := hc 3 (by omega)
  obtain ⟨u4, h4⟩ := hc 4 (by omega)
  obtain ⟨u5, h5⟩ := hc 5 (by omega)
  obtain ⟨u6, h6⟩ := hc 6 (by omega)
  obtain ⟨u7, h7⟩ := hc 7 (by omega)
  exact ⟨u0, u1, u2, u3, u4, u5, u6, u7, ⟨h0, h1, h2, h3, h4, h5, h6, h7⟩, blk_lt h.row⟩
/-- A node put at a place of its row. -/
theorem CI.set {W : World} {k : Int} {d : Tv} {nv : Value} {c : List Nd} {j : Nat} {vs : List Value} {cur : Array Value} {V : World} (h : CI W k d nv c j vs cur V) {n : Nd} {x : Value} (hj : c[j]? = some n) (hn : CN (fun q => W.heap.size + 1 + 1 + 1 < q) V n x) : ∃ cur', CI W k d nv c (j + 1) (vs ++ [x]) cur' (V.setCells (W.heap.size + 1 + 1 + 1) (j * 8) (nc n x)) := by
  obtain ⟨cur', e1, e2, e3, e4⟩ := sets_blk (W.heap.size + 1 + 1 + 1) (nc n x) (j * 8) V cur h.row
  have hlt := (List.getElem?_eq_some_iff.1 hj).1
  have hs := h.sz
  have ks := sets_kp (W.heap.size + 1 + 1 + 1) (nc n x) (j * 8) V
  have hl8 : (nc n x).length = 8 := rfl
  have htl : (c.take j).length = j := by rw [List.length_take]; omega
  have hvl := h.rc.1
  have ht : c.take (j + 1) = c.take j ++ [n] := by rw [List.take_add_one, hj]; rfl
  refine ⟨cur', ⟨Kp.low h.bel ks (fun q e => by omega) h.bel.size, ks.blk h.xb (by omega), ks.blk h.rb (by omega), ks.blk h.yb (by omega), e1, e2.trans h.sz, ⟨?_, ?_⟩, ?_⟩⟩
  · rw [ht]
    simp [hvl]
  · intro i m s hi hsv a u hu
    rw [ht] at hi
    have ha : a < 8 := by
      have := (List.getElem?_eq_some_iff.1 hu).1
      simpa [nc] using this
    by_cases hij : i < j
    · rw [List.getElem?_append_left (by omega)] at hi hsv
      rw [e3 _ (.inl (by omega))]
      exact h.rc.2 i m s hi hsv a u hu
    · rw [List.getElem?_append_right (by omega)] at hi hsv
      have h0 := (List.getElem?_eq_some_iff.1 hi).1
      simp at h0
      have hij' : i = j := by omega
      subst hij'
      rw [show i - (c.take i).length = 0 by omega] at hi
      rw [show i - vs.length = 0 by omega] at hsv
      simp at hi hsv
      subst hi hsv
      exact e4 (by omega) a u hu
  · rw [ht]
    exact CL.app (CN.kp ks (fun q e e2 => by omega) _ _ hn) (CL.kp ks (fun q e e2 => by omega) _ _ h.cl)
theorem sets_eq (w : World) (b o : Nat) (n : Nd) (x : Value) : w.setCells b o (nc n x) = (((((((w.setCell ⟨b, o, none⟩ (.int .u8 n.k)).setCell ⟨b, o + 1, none⟩ (.int .u8 n.d.k)).setCell ⟨b, o + 2, none⟩ (.string n.d.t)).setCell ⟨b, o + 3, none⟩ (.int .i64 n.d.a)).setCell ⟨b, o + 4, none⟩ (.int .i64 n.d.l)).setCell ⟨b, o + 5, none⟩ (.int .i64 n.d.c)).setCell ⟨b, o + 6, none⟩ (.int .i64 n.d.f)).setCell ⟨b, o + 7, none⟩ x := by
  simp only [nc, World.setCells, Nat.add_assoc]
theorem make_nd (N : Nat) (hN : N ≤ 100000000) : ∃ cur : Array Value, cur.size = (N + 1) * 8 ∧ ∀ w, (Instr.makeSlice 30 (.int .i64 (N : Int)) (.int .i64 ((N : Int) + 1))).run Try.prog w = .ok (.slice (some ⟨w.heap.size, 0, none⟩) N (N + 1)) (w.alloc (.cells cur 32)) := by
  obtain ⟨i0, hi, hz0, hz1, hz2⟩ := info_parts Try.info32
  refine ⟨madeCells (Value.cells (.agg #[.int .u8 0, .int .u8 0, .string ⟨#[]⟩, .int .i64 0, .int .i64 0, .int .i64 0, .int .i64 0, .slice none 0 0])) ((N + 1) * i0.size), by rw [size_madeCells, hz1], fun w => ?_⟩
  have h := run_make (P := Try.prog) w 30 32 i0 _ Try.underlying30 hi hz0 .i64 .i64 (N : Int) ((N : Int) + 1) (by omega) (by omega) (by rw [hz2]; omega) (by omega)
  rw [h, show ((N : Int) + 1).toNat = N + 1 by omega, show (N : Int).toNat = N by omega]

end Go.Proofs.Ytkigadnkclkopaa
