import Derived.Test.YtkigadnkclkopaaCd
set_option linter.unusedVariables false
set_option linter.unusedSimpArgs false
namespace Go.Proofs.Ytkigadnkclkopaa
open Go.RowKit

/-! Trees in rows of their own; events as a reader sees them; what reading a node makes (none of a walk). -/
def nc (n : Nd) (s : Value) : List Value := [.int .u8 n.k, .int .u8 n.d.k, .string n.d.t, .int .i64 n.d.a, .int .i64 n.d.l, .int .i64 n.d.c, .int .i64 n.d.f, s]
theorem nc_len (x : Nd × Value) : (nc x.1 x.2).length = 8 := rfl
def ncs (c : List Nd) (vs : List Value) : List Value := flat (fun x : Nd × Value => nc x.1 x.2) (c.zip vs)
theorem ncs_len (c : List Nd) (vs : List Value) (h : vs.length = c.length) : (ncs c vs).length = c.length * 8 := by
  unfold ncs
  rw [flat_len _ 8 nc_len, List.length_zip, h, Nat.min_self]
theorem ncs_app (c : List Nd) (vs : List Value) (h : vs.length = c.length) (n : Nd) (s : Value) : ncs (c ++ [n]) (vs ++ [s]) = ncs c vs ++ nc n s := by
  unfold ncs
  rw [List.zip_append h.symm, flat_append]
  simp [flat]
theorem ncs_at {c : List Nd} {vs : List Value} {j i : Nat} {n : Nd} {s u : Value} (hn : c[j]? = some n) (hs : vs[j]? = some s) (hu : (nc n s)[i]? = some u) : (ncs c vs)[j * 8 + i]? = some u := by
  refine flat_at _ 8 nc_len _ j i (n, s) u ?_ hu
  rw [List.getElem?_zip_eq_some]
  exact ⟨hn, hs⟩
/-- A row of nodes of its own. -/
def RN (W : World) (sv : Value) (c : List Nd) (vs : List Value) : Prop := vs.length = c.length ∧ W.ownsRow 0 32 8 sv c.length (ncs c vs)
theorem RN.shape {W : World} {sv : Value} {c : List Nd} {vs : List Value} (h : RN W sv c vs) : ∃ p cap, sv = .slice p c.length cap ∧ c.length ≤ cap ∧ cap ≤ maxLen := row_shape h.2
theorem RN.kp {S : Nat → Prop} {W W' : World} {sv : Value} {c : List Nd} {vs : List Value} (h : RN W sv c vs) (hk : Kp S W W') (hS : ∀ k, sv.ownBlock = some k → ¬ S k) : RN W' sv c vs := ⟨h.1, hk.row h.2 hS⟩
theorem RN.lt {W : World} {sv : Value} {c : List Nd} {vs : List Value} (h : RN W sv c vs) : ∀ k, sv.ownBlock = some k → k < W.heap.size := by
  intro k hk
  rcases h.2.2 with ⟨rfl, _⟩ | ⟨b, cap, cur, rfl, _, h3, _⟩
  · cases hk
  · simp only [Value.ownBlock, Option.some.injEq] at hk
    subst hk
    exact blk_lt h3
theorem rn_nil (W : World) : RN W (.slice none 0 0) [] [] := ⟨rfl, World.ownsRow_nil W 0 32 8⟩
mutual
/-- The row of a node's kids, and of theirs: all their blocks are of O. -/
def TN (O : Nat → Prop) (W : World) : Nd → Value → Prop
  | .mk _ _ c, sv => ∃ vs, RN W sv c vs ∧ (∀ k, sv.ownBlock = some k → O k) ∧ TL O W c vs
def TL (O : Nat → Prop) (W : World) : List Nd → List Value → Prop
  | [], vs => vs = []
  | n :: r, vs => ∃ x vr, vs = x :: vr ∧ TN O W n x ∧ TL O W r vr
end
theorem tn_nil (O : Nat → Prop) (W : World) (k : Int) (d : Tv) : TN O W (.mk k d []) (.slice none 0 0) := by
  rw [TN]
  exact ⟨[], rn_nil W, (fun k hk => by cases hk), by rw [TL]⟩
mutual
theorem TN.kp {O S : Nat → Prop} {W W' : World} (hk : Kp S W W') (hS : ∀ k, O k → ¬ S k) : ∀ (n : Nd) (x : Value), TN O W n x → TN O W' n x
  | .mk _ _ c, x, h => by
    rw [TN] at h ⊢
    obtain ⟨vs, h1, h2, h3⟩ := h
    exact ⟨vs, h1.kp hk (fun k e => hS k (h2 k e)), h2, TL.kp hk hS c vs h3⟩
theorem TL.kp {O S : Nat → Prop} {W W' : World} (hk : Kp S W W') (hS : ∀ k, O k → ¬ S k) : ∀ (c : List Nd) (vs : List Value), TL O W c vs → TL O W' c vs
  | [], vs, h => by rw [TL] at h ⊢; exact h
  | n :: r, vs, h => by
    rw [TL] at h ⊢
    obtain ⟨x, vr, h1, h2, h3⟩ := h
    exact ⟨x, vr, h1, TN.kp hk hS n x h2, TL.kp hk hS r vr h3⟩
end
mutual
theorem TN.sub {O O' : Nat → Prop} {W : World} (hS : ∀ k, k < W.heap.size → O k → O' k) : ∀ (n : Nd) (x : Value), TN O W n x → TN O' W n x
  | .mk _ _ c, x, h => by
    rw [TN] at h ⊢
    obtain ⟨vs, h1, h2, h3⟩ := h
    exact ⟨vs, h1, fun k e => hS k (h1.lt k e) (h2 k e), TL.sub hS c vs h3⟩
theorem TL.sub {O O' : Nat → Prop} {W : World} (hS : ∀ k, k < W.heap.size → O k → O' k) : ∀ (c : List Nd) (vs : List Value), TL O W c vs → TL O' W c vs
  | [], vs, h => by rw [TL] at h ⊢; exact h
  | n :: r, vs, h => by
    rw [TL] at h ⊢
    obtain ⟨x, vr, h1, h2, h3⟩ := h
    exact ⟨x, vr, h1, TN.sub hS n x h2, TL.sub hS r vr h3⟩
end
theorem TL.len {O : Nat → Prop} {W : World} : ∀ {c : List Nd} {vs : List Value}, TL O W c vs → vs.length = c.length
  | [], vs, h => by rw [TL] at h; rw [h]; rfl
  | n :: r, vs, h => by
    rw [TL] at h
    obtain ⟨x, vr, rfl, _, h3⟩ := h
    simp [TL.len h3]
theorem TL.app {O : Nat → Prop} {W : World} {n : Nd} {x : Value} (hn : TN O W n x) : ∀ {c : List Nd} {vs : List Value}, TL O W c vs → TL O W (c ++ [n]) (vs ++ [x])
  | [], vs, h => by
    rw [TL] at h
    subst h
    rw [List.nil_append, List.nil_append, TL]
    exact ⟨x, [], rfl, hn, by rw [TL]⟩
  | m :: r, vs, h => by
    rw [TL] at h
    obtain ⟨y, vr, rfl, h2, h3⟩ := h
    rw [List.cons_append, List.cons_append, TL]
    exact ⟨y, vr ++ [x], rfl, h2, TL.app hn h3⟩
theorem TL.at {O : Nat → Prop} {W : World} : ∀ {c : List Nd} {vs : List Value} {j : Nat} {n : Nd}, TL O W c vs → c[j]? = some n → ∃ x, vs[j]? = some x ∧ TN O W n x
  | [], vs, j, n, h, hj => by simp at hj
  | m :: r, vs, 0, n, h, hj => by
    rw [TL] at h
    obtain ⟨y, vr, rfl, h2, h3⟩ := h
    simp at hj
    subst hj
    exact ⟨y, rfl, h2⟩
  | m :: r, vs, j + 1, n, h, hj => by
    rw [TL] at h
    obtain ⟨y, vr, rfl, h2, h3⟩ := h
    obtain ⟨x, a, b⟩ := TL.at h3 (j := j) (n := n) (by simpa using hj)
    exact ⟨x, by simpa using a, b⟩
theorem RN.cell {W : World} {sv : Value} {c : List Nd} {vs : List Value} (h : RN W sv c vs) {g n cap : Nat} (hv : sv = .slice (some ⟨g, 0, none⟩) n cap) {j i : Nat} {m : Nd} {s u : Value} (hn : c[j]? = some m) (hs : vs[j]? = some s) (hu : (nc m s)[i]? = some u) : W.cell? ⟨g, j * 8 + i, none⟩ = some u := by
  have := h.2.cells (g := g) (n := c.length) (by rw [hv]; rfl) (j * 8 + i) u (ncs_at hn hs hu)
  rw [Addr.add_lit, Nat.zero_add] at this
  exact this
theorem Nd.eta (n : Nd) : n = .mk n.k n.d n.c := by obtain ⟨k, d, c⟩ := n; rfl
/-- Read, a tree of its own is a tree. -/
theorem TN.see {O : Nat → Prop} {W : World} (n : Nd) : ∀ (x : Value), TN O W n x → Nv W (ndv n.k n.d x) n := by
  obtain ⟨s, hs⟩ : ∃ s, nsz n = s := ⟨_, rfl⟩
  induction s using Nat.strongRecOn generalizing n with
  | ind s ih =>
    intro x h
    obtain ⟨k, d, c⟩ := n
    rw [TN] at h
    obtain ⟨vs, h1, _, h3⟩ := h
    have hr := h1.2.2
    rcases hr with ⟨e1, e2⟩ | ⟨b, cap, cur, e1, _, e3, e4, e5, _⟩
    · have : c = [] := List.eq_nil_of_length_eq_zero e2
      subst this
      subst e1
      exact ⟨none, 0, rfl, Nat.le_refl _, Nat.zero_le _, (fun _ => rfl), (fun a ha => by cases ha)⟩
    · refine ⟨some ⟨b, 0, none⟩, cap, by rw [e1]; rfl, e4, e5, (fun h => by cases h), fun a ha => ?_⟩
      cases ha
      refine .inr ⟨b, 0, rfl, hl_of (fun j m hj => ?_)⟩
      obtain ⟨y, hy, hm⟩ := TL.at h3 hj
      obtain ⟨ao, cp, q0, q1, q2, q3, q4⟩ := ih (nsz m) (by rw [← hs]; exact nsz_kid (List.mem_of_getElem? hj)) m rfl y hm
      have q0' : y = .slice ao m.c.length cp := by
        simp only [ndv, Value.agg.injEq] at q0
        have := congrArg (fun a : Array Value => a[7]?) q0
        simpa using this
      subst q0'
      have hc : ∀ i u, (nc m (.slice ao m.c.length cp))[i]? = some u → W.cell? ⟨b, 0 + j * 8 + i, none⟩ = some u := fun i u hu => by
        rw [Nat.zero_add]
        exact h1.cell e1 hj hy hu
      have hc0 := hc 0 _ rfl
      obtain ⟨mk', md, mc⟩ := m
      rw [HN]
      exact ⟨⟨hc0, hc 1 _ rfl, hc 2 _ rfl, hc 3 _ rfl, hc 4 _ rfl, hc 5 _ rfl, hc 6 _ rfl⟩, ao, cp, hc 7 _ rfl, q1, q2, q3, q4⟩

/-- The events that a slice holds. -/
def Le (w : World) (ao : Option Addr) (l : List Ev) : Prop := ∀ j d, l[j]? = some d → ∃ b off, ao = some ⟨b, off, none⟩ ∧
  w.cell? ⟨b, off + j * 8, none⟩ = some (.int .u8 d.k) ∧ w.cell? ⟨b, off + j * 8 + 1, none⟩ = some (.int .u8 d.n) ∧ w.cell? ⟨b, off + j * 8 + 2, none⟩ = some (.int .u8 d.d.k) ∧ w.cell? ⟨b, off + j * 8 + 3, none⟩ = some (.string d.d.t) ∧ w.cell? ⟨b, off + j * 8 + 4, none⟩ = some (.int .i64 d.d.a) ∧ w.cell? ⟨b, off + j * 8 + 5, none⟩ = some (.int .i64 d.d.l) ∧ w.cell? ⟨b, off + j * 8 + 6, none⟩ = some (.int .i64 d.d.c) ∧ w.cell? ⟨b, off + j * 8 + 7, none⟩ = some (.int .i64 d.d.f)
theorem Le.kp {S : Nat → Prop} {w w' : World} {ao : Option Addr} {l : List Ev} (h : Le w ao l) (hb : Kp S w w') (hS : ∀ a, ao = some a → ¬ S a.block) : Le w' ao l := by
  intro j a ha
  obtain ⟨b, off, h1, c0, c1, c2, c3, c4, c5, c6, c7⟩ := h j a ha
  have hlt := World.block_lt_of_cell? _ _ c0
  have e : w'.heap[b]? = w.heap[b]? := hb.block b hlt (hS _ h1)
  exact ⟨b, off, h1, (World.cell?_of_block (a := ⟨b, _, none⟩) e).trans c0, (World.cell?_of_block (a := ⟨b, _, none⟩) e).trans c1, (World.cell?_of_block (a := ⟨b, _, none⟩) e).trans c2, (World.cell?_of_block (a := ⟨b, _, none⟩) e).trans c3, (World.cell?_of_block (a := ⟨b, _, none⟩) e).trans c4, (World.cell?_of_block (a := ⟨b, _, none⟩) e).trans c5, (World.cell?_of_block (a := ⟨b, _, none⟩) e).trans c6, (World.cell?_of_block (a := ⟨b, _, none⟩) e).trans c7⟩
theorem Le.below {w w' : World} {ao : Option Addr} {l : List Ev} (h : Le w ao l) (hb : Below w.heap.size w w') : Le w' ao l := h.kp (Kp.of_below (S := fun _ => False) hb) (fun _ _ h => h)
theorem Le.row {w : World} {v : Value} {l : List Ev} (h : Re w v l) : ∃ ao cap, v = .slice ao l.length cap ∧ Le w ao l ∧ (ao = none ∨ ∃ g, ao = some ⟨g, 0, none⟩ ∧ g < w.heap.size) ∧ l.length ≤ cap ∧ cap ≤ maxLen := by
  rcases h.2 with ⟨rfl, h0⟩ | ⟨g, cap, cur, rfl, hb, hg, h3, h4, h5, h6⟩
  · have : l = [] := List.eq_nil_of_length_eq_zero h0
    subst this
    exact ⟨none, 0, rfl, fun j d h => by simp at h, .inl rfl, Nat.zero_le _, Nat.zero_le _⟩
  · refine ⟨some ⟨g, 0, none⟩, cap, rfl, ?_, .inr ⟨g, rfl, blk_lt hg⟩, h3, h4⟩
    intro j d hj
    have hc : ∀ (i : Nat) (u : Value), d.cs[i]? = some u → w.cell? ⟨g, 0 + j * 8 + i, none⟩ = some u := fun i u hu => by
      have := World.ownsRow.cells h (g := g) rfl _ u (flat_at Ev.cs 8 Ev.cs_len l j i d _ hj hu)
      rw [Addr.add_lit, Nat.zero_add] at this
      rw [Nat.zero_add]
      exact this
    exact ⟨g, 0, rfl, hc 0 _ rfl, hc 1 _ rfl, hc 2 _ rfl, hc 3 _ rfl, hc 4 _ rfl, hc 5 _ rfl, hc 6 _ rfl, hc 7 _ rfl⟩
theorem size_ev (w : World) : (sizeOf 63).run Try.prog w = .ok 8 w := by rfl
/-- A slice without its first event. -/
theorem Le.tail {w : World} {ao : Option Addr} {e : Ev} {r : List Ev} {cap : Nat} (h : Le w ao (e :: r)) (hc : r.length + 1 ≤ cap) (hm : cap ≤ maxLen) :
    ∃ b off ao2 cap2, ao = some ⟨b, off, none⟩ ∧ b < w.heap.size ∧ (w.cell? ⟨b, off, none⟩ = some (.int .u8 e.k) ∧ w.cell? ⟨b, off + 1, none⟩ = some (.int .u8 e.n) ∧ w.cell? ⟨b, off + 2, none⟩ = some (.int .u8 e.d.k) ∧ w.cell? ⟨b, off + 3, none⟩ = some (.string e.d.t) ∧ w.cell? ⟨b, off + 4, none⟩ = some (.int .i64 e.d.a) ∧ w.cell? ⟨b, off + 5, none⟩ = some (.int .i64 e.d.l) ∧ w.cell? ⟨b, off + 6, none⟩ = some (.int .i64 e.d.c) ∧ w.cell? ⟨b, off + 7, none⟩ = some (.int .i64 e.d.f)) ∧
      (∀ W, (Instr.slice 49 (.slice (some ⟨b, off, none⟩) (r.length + 1) cap) (some (.int .i64 1)) none none).run Try.prog W = .ok (.slice ao2 r.length cap2) W) ∧ r.length ≤ cap2 ∧ cap2 ≤ maxLen ∧ Le w ao2 r := by
  obtain ⟨b, off, h1, c0, c1, c2, c3, c4, c5, c6, c7⟩ := h 0 e rfl
  have hlt := World.block_lt_of_cell? _ _ c0
  rw [Nat.zero_mul, Nat.add_zero] at c0 c1 c2 c3 c4 c5 c6 c7
  have run : ∀ W, (Instr.slice 49 (.slice (some ⟨b, off, none⟩) (r.length + 1) cap) (some (.int .i64 1)) none none).run Try.prog W = .ok (sliced (some ⟨b, off, none⟩) 1 (r.length + 1) cap 8) W := fun W => by
    rw [run_slice_l W 49 _ _ _ (by kernel_rfl) .i64 1 (by omega) (by omega)]
    have : Try.prog.elem 49 = 63 := by kernel_rfl
    rw [this, size_ev]
    rfl
  subst h1
  by_cases hz : cap = 1
  · have hr : r = [] := List.eq_nil_of_length_eq_zero (by omega)
    subst hr
    subst hz
    refine ⟨b, off, some ⟨b, off, none⟩, 0, rfl, hlt, ⟨c0, c1, c2, c3, c4, c5, c6, c7⟩, fun W => (run W).trans ?_, Nat.le_refl _, Nat.zero_le _, fun j d hj => by simp at hj⟩
    simp [sliced]
  · refine ⟨b, off, some ⟨b, off + 8, none⟩, cap - 1, rfl, hlt, ⟨c0, c1, c2, c3, c4, c5, c6, c7⟩, fun W => (run W).trans ?_, by omega, by omega, fun j d hj => ?_⟩
    · simp [sliced, hz, Addr.add_lit]
    · obtain ⟨b', off', e', x0, x1, x2, x3, x4, x5, x6, x7⟩ := h (j + 1) d (by simpa using hj)
      simp only [Option.some.injEq, Addr.mk.injEq] at e'
      obtain ⟨rfl, rfl, _⟩ := e'
      rw [show off + (j + 1) * 8 = off + 8 + j * 8 by omega] at x0 x1 x2 x3 x4 x5 x6 x7
      exact ⟨b, off + 8, rfl, x0, x1, x2, x3, x4, x5, x6, x7⟩

/-! What reading makes, by the document's steps. -/
def aft (r : List Ev) (n : Nd) : List (Int × List Nd) → Option Nd
  | [] => if n.k = 0 then none else if r = [] then some n else none
  | x :: S => bld r (putN n (x :: S))
def Aft (a : Nat) (l : List Ev) (n : Nd) (r : List Ev) : Prop := ∀ S, S.length = a → bld l S = aft r n S
def Bad (a : Nat) (l : List Ev) : Prop := ∀ S, S.length = a → bld l S = none
theorem leaf_good {a : Nat} {e : Ev} {r : List Ev} (h : e.k = kof e.d) : Aft a (e :: r) (.mk 0 e.d []) r := by
  intro S _
  have h1 : ¬ e.k = 1 := by rw [h]; unfold kof; split <;> decide
  have h3 : ¬ e.k = 3 := by rw [h]; unfold kof; split <;> decide
  have hc : (e.k = 2 ∧ cm e.d = false) ∨ (e.k = 4 ∧ cm e.d = true) := by
    rw [h]
    unfold kof
    cases hm : cm e.d
    · exact .inl ⟨by simp, rfl⟩
    · exact .inr ⟨by simp, rfl⟩
  simp only [bld]
  rw [if_neg h1, if_neg h3, if_pos hc]
  cases S with
  | nil => simp [aft, Nd.k]
  | cons x S => obtain ⟨k, c⟩ := x; simp [aft, putN]
theorem leaf_bad {a : Nat} {e : Ev} {r : List Ev} (h1 : e.k ≠ 1) (h : e.k ≠ kof e.d) (h3 : e.k = 3 → a = 0) : Bad a (e :: r) := by
  intro S hS
  simp only [bld]
  rw [if_neg h1]
  by_cases h3' : e.k = 3
  · rw [if_pos h3']
    have := h3 h3'
    have : S = [] := List.eq_nil_of_length_eq_zero (by omega)
    subst this
    rfl
  · rw [if_neg h3', if_neg]
    rintro (⟨x, y⟩ | ⟨x, y⟩)
    · exact h (by rw [x]; unfold kof; rw [y]; rfl)
    · exact h (by rw [x]; unfold kof; rw [y]; rfl)
theorem open_bad {a : Nat} {e : Ev} {r : List Ev} (h1 : e.k = 1) (h : e.n = 0 ∨ 1000 ≤ a) : Bad a (e :: r) := by
  intro S hS
  simp only [bld]
  rw [if_pos h1, if_pos (by rw [hS]; exact h)]
/-- Within a node: what came so far. -/
def Lnk (a : Nat) (l : List Ev) (k : Int) (c : List Nd) (r : List Ev) : Prop := ∀ S, S.length = a → bld l S = bld r ((k, c) :: S)
theorem open_lnk {a : Nat} {e : Ev} {r : List Ev} (h1 : e.k = 1) (h : ¬ (e.n = 0 ∨ 1000 ≤ a)) : Lnk a (e :: r) e.n [] r := by
  intro S hS
  simp only [bld]
  rw [if_pos h1, if_neg (by rw [hS]; exact h)]
theorem Lnk.kid {a : Nat} {l : List Ev} {k : Int} {c : List Nd} {r r' : List Ev} {n : Nd} (h : Lnk a l k c r) (hn : Aft (a + 1) r n r') : Lnk a l k (c ++ [n]) r' := by
  intro S hS
  rw [h S hS, hn ((k, c) :: S) (by simp [hS])]
  rfl
theorem Lnk.bad {a : Nat} {l : List Ev} {k : Int} {c : List Nd} {r : List Ev} (h : Lnk a l k c r) (hn : Bad (a + 1) r) : Bad a l := by
  intro S hS
  rw [h S hS]
  exact hn _ (by simp [hS])
theorem Lnk.nil {a : Nat} {l : List Ev} {k : Int} {c : List Nd} (h : Lnk a l k c []) : Bad a l := by
  intro S hS
  rw [h S hS]
  rfl
theorem Lnk.other {a : Nat} {l : List Ev} {k : Int} {c : List Nd} {e : Ev} {r : List Ev} (h : Lnk a l k c (e :: r)) (h3 : e.k = 3) (hn : e.n ≠ k) : Bad a l := by
  intro S hS
  rw [h S hS]
  simp only [bld]
  rw [if_neg (by rw [h3]; decide), if_pos h3]
  rw [if_neg (fun e => hn e.symm)]
theorem Lnk.shut {a : Nat} {l : List Ev} {k : Int} {c : List Nd} {e : Ev} {r : List Ev} (h : Lnk a l k c (e :: r)) (h3 : e.k = 3) (hn : e.n = k) (hk : k ≠ 0) : Aft a l (.mk k tv0 c) r := by
  intro S hS
  rw [h S hS]
  simp only [bld]
  rw [if_neg (by rw [h3]; decide), if_pos h3]
  rw [if_pos hn.symm]
  cases S with
  | nil => simp [aft, Nd.k, hk]
  | cons x S => obtain ⟨k', c'⟩ := x; simp [aft, putN]

end Go.Proofs.Ytkigadnkclkopaa
