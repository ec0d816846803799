import Derived.Test.YthbgipmkdcffnaaLb
import Derived.Laws.AppendOwnNone
set_option linter.unusedVariables false
set_option linter.unusedSimpArgs false
namespace Go.Proofs.Ythbgipmkdcffnaa
open Go.RowKit

/-! TreeNotes. -/
theorem hl_cells {W : World} {b : Nat} : ∀ {c : List Nd} {o : Nat}, HL W b o c → ∃ vs, vs.length = c.length ∧ VL W c vs ∧ ∀ j u, (ncs c vs)[j]? = some u → W.cell? ⟨b, o + j, none⟩ = some u
  | [], o, _ => ⟨[], rfl, fun j n hj => by simp at hj, fun j u hj => by simp [ncs, flat] at hj⟩
  | n :: r, o, h => by
    rw [HL] at h
    obtain ⟨vs, h1, h2, h3⟩ := hl_cells h.2
    obtain ⟨_, ao, cap, ⟨y0, y1, y2, y3, y4, y5, y6, y7⟩, p1, p2, p3, p4⟩ := hn_cells h.1
    refine ⟨.slice ao n.c.length cap :: vs, by simp [h1], ?_, ?_⟩
    · intro j m hj
      cases j with
      | zero =>
        simp at hj
        subst hj
        exact ⟨_, rfl, ao, cap, rfl, p1, p2, p3, p4⟩
      | succ j =>
        obtain ⟨x, a1, a2⟩ := h2 j m (by simpa using hj)
        exact ⟨x, by simpa using a1, a2⟩
    · intro j u hu
      have e : ncs (n :: r) (.slice ao n.c.length cap :: vs) = nc n (.slice ao n.c.length cap) ++ ncs r vs := rfl
      rw [e] at hu
      by_cases hj : j < 8
      · rw [List.getElem?_append_left (by simpa [nc] using hj)] at hu
        match j, hj with
        | 0, _ => simp [nc] at hu; subst hu; exact y0
        | 1, _ => simp [nc] at hu; subst hu; exact y1
        | 2, _ => simp [nc] at hu; subst hu; exact y2
        | 3, _ => simp [nc] at hu; subst hu; exact y3
        | 4, _ => simp [nc] at hu; subst hu; exact y4
        | 5, _ => simp [nc] at hu; subst hu; exact y5
        | 6, _ => simp [nc] at hu; subst hu; exact y6
        | 7, _ => simp [nc] at hu; subst hu; exact y7
      · rw [List.getElem?_append_right (by simp [nc]; omega)] at hu
        have := h3 (j - 8) u (by simpa [nc] using hu)
        rw [show o + j = o + 8 + (j - 8) by omega]
        exact this
theorem ncs_app2 (c d : List Nd) (vs us : List Value) (h : vs.length = c.length) : ncs (c ++ d) (vs ++ us) = ncs c vs ++ ncs d us := by
  unfold ncs
  rw [List.zip_append h.symm, flat_append]
theorem VL.app2 {W : World} {c d : List Nd} {vs us : List Value} (h : VL W c vs) (hl : vs.length = c.length) (h' : VL W d us) : VL W (c ++ d) (vs ++ us) := by
  intro j m hj
  by_cases hlt : j < c.length
  · rw [List.getElem?_append_left hlt] at hj
    obtain ⟨y, h1, h2⟩ := h j m hj
    exact ⟨y, by rw [List.getElem?_append_left (by omega)]; exact h1, h2⟩
  · rw [List.getElem?_append_right (by omega)] at hj
    obtain ⟨y, h1, h2⟩ := h' _ m hj
    exact ⟨y, by rw [List.getElem?_append_right (by omega), hl]; exact h1, h2⟩
theorem vl_one {W : World} {c : List Nd} {vs : List Value} (h : VL W c vs) (hl : vs.length = c.length) : ∀ u ∈ ncs c vs, u.oneCell' = true := by
  intro u hu
  obtain ⟨x, hx, hux⟩ := List.mem_flatMap.1 hu
  obtain ⟨j, hj, e⟩ := List.getElem_of_mem hx
  rw [List.length_zip, hl, Nat.min_self] at hj
  obtain ⟨y, h1, h2⟩ := h j c[j] (List.getElem?_eq_getElem hj)
  have hxy : x = (c[j], y) := by
    rw [← e, List.getElem_zip]
    congr 1
    have h3 := (List.getElem?_eq_some_iff.1 h1).2
    exact h3
  subst hxy
  obtain ⟨ao, cp, rfl, _⟩ := nv_slot h2
  simp only [nc, List.mem_cons, List.not_mem_nil, or_false] at hux
  rcases hux with rfl | rfl | rfl | rfl | rfl | rfl | rfl | rfl <;> rfl
/-- A slice's nodes put behind a row. -/
theorem app_kids {W : World} {ops : Array Oper} {rest : List Oper} {o : Oper} {a : Act} {Q : Exit → Act → World → Prop} (hgd : o.guard = none) (s x : Operand)
    (ho : o.op = .call { callee := .builtin .append, args := #[s, x], argTypes := #[33, 33] }) (v : Value) (c : List Nd) (vs : List Value) (d : List Nd) (ao : Option Addr) (cp : Nat) (hs : a.eval s = v) (hr : RN W v c vs)
    (hx : a.eval x = .slice ao d.length cp) (W0 : World) (hb0 : Below W0.heap.size W0 W) (hd : Sn W0 ao d) (hz : ao = none → cp = 0) (hl : c.length + d.length ≤ 1000000000)
    (h : ∀ v' w' us, us.length = d.length → VL W0 d us → RN w' v' (c ++ d) (vs ++ us) → W.grownBy w' v.ownBlock → Nb W v v' → wpList Try.prog ops Q rest (a.put o.dst v') w') : wpList Try.prog ops Q (o :: rest) a W := by
  obtain ⟨i0, hi, hz0, hz1, hz2⟩ := info_parts Try.info35
  cases ao with
  | none =>
    have := hd.1 rfl
    subst this
    have := hz rfl
    subst this
    refine wpList_append_own_none (P := Try.prog) (w := W) hgd s x 33 ho 0 35 i0 8 Try.underlying33 hi v _ _ hs hr.2 hx ?_
    refine h v W [] rfl (fun j n hj => by simp at hj) (by rw [List.append_nil, List.append_nil]; exact hr) ?_ (Nb.refl _ _)
    exact ⟨rfl, rfl, rfl, Nat.le_refl _, fun _ _ _ => rfl⟩
  | some ad =>
    obtain ⟨us, hu1, hu2, hu3⟩ : ∃ us : List Value, us.length = d.length ∧ VL W0 d us ∧ ∀ j u, (ncs d us)[j]? = some u → W.cell? (ad.add j) = some u := by
      rcases hd.2 ad rfl with e | ⟨b, off, rfl, hl'⟩
      · subst e
        exact ⟨[], rfl, fun j n hj => by simp at hj, fun j u hj => by simp [ncs, flat] at hj⟩
      · obtain ⟨us, a1, a2, a3⟩ := hl_cells hl'
        exact ⟨us, a1, a2, fun j u hj => by rw [Addr.add_lit]; exact (hb0.cell (World.block_lt_of_cell? _ _ (a3 j u hj))).trans (a3 j u hj)⟩
    refine wpList_append_own_at (P := Try.prog) (w := W) hgd s x 33 ho 0 35 i0 _ 8 88 Try.underlying33 hi hz0 hz1 hz2 rfl (by decide) v _ _ hs hr.2 ad d.length cp (ncs d us) hx (ncs_len d us hu1) hu3 (vl_one hu2 hu1) (by unfold maxLen; omega) (by omega) (Nat.zero_le _) ?_
    intro v' w' h1 h2 _ h4
    refine h v' w' us hu1 hu2 ⟨by simp [hr.1, hu1], ?_⟩ h2 ?_
    · rw [List.length_append, ncs_app2 c d vs us hr.1]
      exact h1
    · rcases h4 with h4 | h4
      · exact .inl h4
      · exact .inr ⟨_, h4, Nat.le_refl _⟩
/-- A kid at another place. -/
def mv (n : Nd) : Nd := .mk n.k ⟨n.d.k, n.d.t, n.d.a, IntKind.i64.wrap (n.d.l + 1), n.d.c, IntKind.i64.wrap (n.d.f + 1)⟩ n.c
def cmt (t : ByteArray) : Nd := .mk 0 ⟨8, t, 0, 0, 0, 0⟩ []
def nmd (t : ByteArray) : Nd := .mk 0 ⟨1, t, 0, 0, 0, 0⟩ []
def xs (t : ByteArray) (k : Nat) (c : List Nd) : Nat → List Nd
  | 0 => []
  | j + 1 => (xs t k c j ++ (if j = k then [cmt t] else [])) ++ (match c[j]? with | some m => [mv m] | none => [])
theorem can_mv (n : Nd) : can (mv n) = can n := by
  obtain ⟨k, d, c⟩ := n
  simp [mv, can, Nd.k, Nd.d, Nd.c]
theorem isN_mv (n : Nd) : isN (mv n) = isN n := by
  obtain ⟨k, d, c⟩ := n
  simp [mv, isN, Nd.k, Nd.d, Nd.c, cm]
theorem canL_app (a b : List Nd) : canL (a ++ b) = canL a ++ canL b := by
  induction a with
  | nil => simp [canL]
  | cons x r ih =>
    simp only [List.cons_append, canL, ih]
    split <;> simp
theorem canL_xs (t : ByteArray) (k : Nat) (c : List Nd) : ∀ j, canL (xs t k c j) = canL (c.take j)
  | 0 => by simp [xs]
  | j + 1 => by
    rw [xs, canL_app, canL_app, canL_xs t k c j, List.take_add_one, canL_app]
    have h1 : canL (if j = k then [cmt t] else []) = [] := by
      split
      · simp [canL, cmt, isN, Nd.k, Nd.d, cm]
      · rfl
    rw [h1, List.append_nil]
    cases hm : c[j]? with
    | none => rfl
    | some m => simp [canL, isN_mv, can_mv]
theorem xs_len (t : ByteArray) (k : Nat) (c : List Nd) : ∀ j, (xs t k c j).length ≤ 2 * j
  | 0 => by simp [xs]
  | j + 1 => by
    have := xs_len t k c j
    rw [xs, List.length_append, List.length_append]
    have h1 : (if j = k then [cmt t] else []).length ≤ 1 := by split <;> simp
    have h2 : (match c[j]? with | some m => [mv m] | none => [] : List Nd).length ≤ 1 := by split <;> simp
    omega
theorem same_xs (t : ByteArray) (k : Nat) (nk : Int) (nd : Tv) (c : List Nd) (h : nk ≠ 0) : same (.mk nk nd (xs t k c (c.length + 1))) (.mk nk nd c) = true := by
  rw [same_can]
  simp only [can, h, if_false]
  rw [canL_xs, List.take_of_length_le (by omega)]
theorem same_nm (t : ByteArray) (nk : Int) (nd nd' : Tv) (c : List Nd) (h : nk ≠ 0) : same (.mk nk nd (nmd t :: c)) (.mk nk nd' c) = false := by
  cases hs : same (.mk nk nd (nmd t :: c)) (.mk nk nd' c) with
  | false => rfl
  | true =>
    rw [same_can] at hs
    simp only [can, h, if_false] at hs
    have h2 : canL (nmd t :: c) = can (nmd t) :: canL c := by
      have : isN (nmd t) = false := by simp [nmd, isN, Nd.k, Nd.d, cm]
      simp [canL, this]
    rw [h2] at hs
    simp only [Cn.nd.injEq, true_and] at hs
    have := congrArg List.length hs
    simp at this
theorem nsz_xs (t : ByteArray) (k : Nat) (c : List Nd) : ∀ j, nszL (xs t k c j) ≤ nszL (c.take j) + j := by
  have app : ∀ a b : List Nd, nszL (a ++ b) = nszL a + nszL b := by
    intro a b
    induction a with
    | nil => simp [nszL]
    | cons x r ih => simp only [List.cons_append, nszL, ih]; omega
  intro j
  induction j with
  | zero => simp [xs, nszL]
  | succ j ih =>
    rw [xs, app, app, List.take_add_one, app]
    have h1 : nszL (if j = k then [cmt t] else []) ≤ 1 := by
      split
      · simp [nszL, cmt, nsz]
      · simp [nszL]
    have h2 : nszL (match c[j]? with | some m => [mv m] | none => [] : List Nd) = nszL (c[j]?.toList) := by
      cases c[j]? with
      | none => rfl
      | some m => obtain ⟨a, b, e⟩ := m; simp [nszL, mv, nsz, Nd.c]
    omega
/-- The tree that is made anew, between two rounds. -/
structure XI (W : World) (X : Nat) (nk : Int) (nd : Tv) (nv sv : Value) (c : List Nd) (vs : List Value) (V : World) : Prop where
  bel : Below W.heap.size W V
  nb : V.heap[W.heap.size]? = some (NdB nk nd nv)
  xb : V.heap[X]? = some (NdB nk nd sv)
  lt : W.heap.size < X
  rn : RN V sv c vs
  vB : ∀ b, sv.ownBlock = some b → X < b
  vl : VL W c vs
theorem XI.below {W : World} {X : Nat} {nk : Int} {nd : Tv} {nv sv : Value} {c : List Nd} {vs : List Value} {V V' : World} (h : XI W X nk nd nv sv c vs V) (hb : Below V.heap.size V V') : XI W X nk nd nv sv c vs V' :=
  ⟨h.bel.trans (hb.mono h.bel.size), blk_below h.nb hb, blk_below h.xb hb, h.lt, h.rn.kp (Kp.of_below (S := fun _ => False) hb) (fun _ _ h => h), h.vB, h.vl⟩
theorem XI.push {W : World} {X : Nat} {nk : Int} {nd : Tv} {nv sv v' x : Value} {c : List Nd} {vs : List Value} {V V1 w8 : World} {n : Nd} (h : XI W X nk nd nv sv c vs V) (hb : Below V.heap.size V V1) (hr : RN w8 v' (c ++ [n]) (vs ++ [x])) (hg : V1.grownBy w8 sv.ownBlock) (hq : Nb V1 sv v') (hn : Nv W (ndv n.k n.d x) n) :
    (w8.cell? ⟨X, 7, none⟩ = some sv ∧ w8.frozen? ⟨X, 7, none⟩ = false ∧ X < w8.heap.size) ∧ (w8.cell? ⟨W.heap.size, 7, none⟩ = some nv ∧ W.heap.size < w8.heap.size) ∧ XI W X nk nd nv v' (c ++ [n]) (vs ++ [x]) (w8.setCell ⟨X, 7, none⟩ v') := by
  have h1 := h.below hb
  have kg := Kp.of_grown hg
  have lt := h.lt
  have hS : ∀ b, some b = sv.ownBlock → X < b := fun b e => h.vB b e.symm
  have nb8 := kg.blk h1.nb (fun e => by have := hS _ e; omega)
  have xb8 := kg.blk h1.xb (fun e => by have := hS _ e; omega)
  have b8 : Below W.heap.size W w8 := Kp.low h1.bel kg (fun b e => by have := hS b e; omega) h1.bel.size
  have ks := Kp.set w8 X 7 v'
  have hXs : X < V1.heap.size := blk_lt h1.xb
  have vB : ∀ b, v'.ownBlock = some b → X < b := by
    intro b e
    rcases hq with hq | ⟨q, e1, hq⟩
    · exact h.vB b (by rw [← hq]; exact e)
    · rw [e1] at e
      simp at e
      omega
  refine ⟨⟨blk_cell xb8 rfl, blk_frozen xb8, blk_lt xb8⟩, ⟨blk_cell nb8 rfl, blk_lt nb8⟩, ⟨Kp.low b8 ks (fun b e => by omega) b8.size, blk_other nb8 (by omega) _, ?_, h.lt, hr.kp ks (fun b e e2 => by have := vB b e; omega), vB, h.vl.app h.rn.1 hn⟩⟩
  have := blk_set xb8 7 v'
  rw [this]
  simp

end Go.Proofs.Ythbgipmkdcffnaa
