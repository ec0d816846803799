import Derived.Test.YtkigadnkclkopaaIi
set_option linter.unusedVariables false
set_option linter.unusedSimpArgs false
namespace Go.Proofs.Ytkigadnkclkopaa
open Go.RowKit Go.Shelf

mutual
theorem CN.both {O : Nat → Prop} {W : World} : ∀ (n : Nd) (x : Value), CN O W n x → CN (fun q => O q ∧ q < W.heap.size) W n x
  | .mk _ _ c, x, h => by
    rw [CN] at h ⊢
    obtain ⟨vs, b, cur, h1, h2, h3, h4, h5, h6, h7, h8⟩ := h
    exact ⟨vs, b, cur, h1, ⟨h2, blk_lt h4⟩, h3, h4, h5, h6, h7, CL.both c vs h8⟩
theorem CL.both {O : Nat → Prop} {W : World} : ∀ (c : List Nd) (vs : List Value), CL O W c vs → CL (fun q => O q ∧ q < W.heap.size) W c vs
  | [], vs, h => by rw [CL] at h ⊢; exact h
  | n :: r, vs, h => by
    rw [CL] at h ⊢
    obtain ⟨x, vr, h1, h2, h3⟩ := h
    exact ⟨x, vr, h1, CN.both n x h2, CL.both r vr h3⟩
end
/-- What the law has in hand while it ranges. -/
structure TS (W : World) (bk bx bt bs : Nat) (nb xb : Obj) (e : Int) (tv fv : Value) (ao : Option Addr) (T : List Tv) (n : Nd) (sv : Value) (V : World) : Prop where
  bel : Below W.heap.size W V
  n0 : V.heap[W.heap.size]? = some nb
  e0 : V.heap[W.heap.size + 1]? = some (InB e)
  r0 : V.heap[W.heap.size + 1 + 1]? = some (BoB false)
  x0 : V.heap[bx]? = some xb
  cn : CN (fun q => q < bk) V n sv
  t0 : V.heap[bt]? = some (.cells #[tv] 22)
  lt : Lt V ao T
  s0 : V.heap[bs]? = some (.cells #[fv] 37)
  l0 : W.heap.size + 1 + 1 < bk
  lx : bx < bk
  lb : bt < bk
  ls : bs < bk
  la : ∀ a, ao = some a → a.block < bk
theorem TS.kp {W : World} {bk bx bt bs : Nat} {nb xb : Obj} {e : Int} {tv fv : Value} {ao : Option Addr} {T : List Tv} {n : Nd} {sv : Value} {V V' : World} (h : TS W bk bx bt bs nb xb e tv fv ao T n sv V) (hk : Kp (fun k => k = bk) V V') : TS W bk bx bt bs nb xb e tv fv ao T n sv V' := by
  have l0 := h.l0
  have lx := h.lx
  have lb := h.lb
  have ls := h.ls
  exact ⟨Kp.low h.bel hk (fun k e => by omega) h.bel.size, hk.blk h.n0 (by omega), hk.blk h.e0 (by omega), hk.blk h.r0 (by omega), hk.blk h.x0 (by omega), CN.kp hk (fun k e => by omega) _ _ h.cn, hk.blk h.t0 (by omega), h.lt.kp hk (fun a e => by have := h.la a e; omega), hk.blk h.s0 (by omega), l0, lx, lb, ls, h.la⟩
theorem TS.of {W wA X V1 : World} {bx bt bs : Nat} {nb xb : Obj} {ez e : Int} {tv fv : Value} {ao : Option Addr} {T : List Tv} {n : Nd} {sv : Value} {O : Nat → Prop}
    (bel : Below W.heap.size W wA) (n0 : wA.heap[W.heap.size]? = some nb) (r0 : wA.heap[W.heap.size + 1 + 1]? = some (BoB false)) (x0 : wA.heap[bx]? = some xb) (cn : CN O wA n sv) (hO : ∀ k, O k → k ≠ W.heap.size + 1) (t0 : wA.heap[bt]? = some (.cells #[tv] 22)) (lt : Lt wA ao T) (s0 : wA.heap[bs]? = some (.cells #[fv] 37))
    (la : ∀ a, ao = some a → a.block < wA.heap.size ∧ a.block ≠ W.heap.size + 1) (nx : bx ≠ W.heap.size + 1) (nt : bt ≠ W.heap.size + 1) (ns : bs ≠ W.heap.size + 1)
    (k1 : Kp (fun k => k = W.heap.size + 1) wA X) (hX : X.heap[W.heap.size + 1]? = some (InB ez)) (hV : (X.setCell ⟨W.heap.size + 1, 0, none⟩ (.int .i64 e)).alloc (InB 0) = V1) :
    TS W X.heap.size bx bt bs nb xb e tv fv ao T n sv V1 ∧ V1.heap[X.heap.size]? = some (InB 0) ∧ Kp (fun k => k = W.heap.size + 1) wA V1 := by
  have ks := Kp.set X (W.heap.size + 1) 0 (.int .i64 e)
  have z : (X.setCell ⟨W.heap.size + 1, 0, none⟩ (.int .i64 e)).heap.size = X.heap.size := by show (X.heap.modify _ _).size = _; rw [Array.size_modify]
  have k2 : Kp (fun k => k = W.heap.size + 1) wA V1 := by rw [← hV]; exact (k1.step ks (fun k _ h => h)).alloc _
  have e1 : V1.heap[W.heap.size + 1]? = some (InB e) := by rw [← hV]; exact alloc_at' (blk_set hX 0 _) _
  have b1 : V1.heap[X.heap.size]? = some (InB 0) := by rw [← hV, ← z]; exact new_at _ _
  have s1 := k1.size
  have l0 := blk_lt r0
  have lx := blk_lt x0
  have lb := blk_lt t0
  have ls := blk_lt s0
  have c2 : CN (fun q => q < X.heap.size) V1 n sv := by
    have h2 := CN.kp (O := fun q => O q ∧ q < wA.heap.size) k2 (fun k hk e => hO k hk.1 e) _ _ (CN.both _ _ cn)
    exact CN.sub (fun k hk => by have := hk.2; omega) _ _ h2
  exact ⟨⟨Kp.low bel k2 (fun k e => by omega) bel.size, k2.blk n0 (by omega), e1, k2.blk r0 (by omega), k2.blk x0 nx, c2, k2.blk t0 nt, lt.kp k2 (fun a h => (la a h).2), k2.blk s0 ns, by omega, by omega, by omega, by omega, fun a h => by have := (la a h).1; omega⟩, b1, k2⟩
/-- States that go on when blocks are laid or the loops' own records change. -/
theorem kp_own {S : Nat → Prop} {V1 A B : World} {row : Option Nat} (h : Kp S V1 A) (hg : A.grownBy B row) (hr : ∀ r, row = some r → V1.heap.size ≤ r) : Kp S V1 B :=
  ⟨hg.os.trans h.os, hg.tape.trans h.tape, hg.output.trans h.output, Nat.le_trans h.size hg.size, fun k hk hS => (hg.block k (by have := h.size; omega) (fun e => by have := hr k e.symm; omega)).trans (h.block k hk hS)⟩
/-- Between two rounds: one block alone has changed. -/
def KI (bk : Nat) (V1 : World) (j : Nat) (V : World) : Prop := Kp (fun k => k = bk) V1 V ∧ V.heap[bk]? = some (InB j)
theorem ki_own (bk : Nat) (V1 : World) (hb : bk < V1.heap.size) : OwnFrom V1.heap.size (KI bk V1) := by
  intro j A B row h hg hr
  refine ⟨kp_own h.1 hg (fun r e => (hr r e).1), ?_⟩
  exact (hg.block bk (blk_lt h.2) (fun e => by have := (hr bk e.symm).1; omega)).trans h.2
theorem KI.st {bk : Nat} {V1 : World} {j : Nat} {V : World} (h : KI bk V1 j V) : St (fun k => k ≠ bk) V1 V := fun k hk hlt => h.1.block k hlt hk
theorem kp_dn {S : Nat → Prop} {A B : World} (h : Kp S A B) (m : Nat) : Kp S A (B.drewN m) := (h.step (Kp.of_below (S := S) (below_dn (Below.refl _ _) m)) (fun _ _ h => h))
theorem KI.next {bk : Nat} {V1 : World} {j : Nat} {V : World} (h : KI bk V1 j V) (nq : Nat) : KI bk V1 (j + 1) ((V.drewN nq).setCell ⟨bk, 0, none⟩ (.int .i64 ((j : Int) + 1))) ∧ ∀ B, bk < B → KF B V ((V.drewN nq).setCell ⟨bk, 0, none⟩ (.int .i64 ((j : Int) + 1))) := by
  have hb := below_dn (Below.refl V.heap.size V) nq
  have h2 := blk_below h.2 hb
  refine ⟨⟨(kp_dn h.1 nq).step (Kp.set _ _ _ _) (fun _ _ h => h), ?_⟩, fun B hB => ?_⟩
  · rw [Int.natCast_add]
    exact blk_set h2 0 _
  · exact KF.of_kp (((Kp.of_below (S := fun k => k = bk) hb)).step (Kp.set _ _ _ _) (fun _ _ h => h)) (fun k e => by omega)
/-- The rounds' own act. -/
abbrev actA (a : Act) (p s b : Nat) (t : Tv) : Act := { tmps := (a.tmps.setIfInBounds p t.v).setIfInBounds s (.pointer (some ⟨b, 0, none⟩)), defers := [] }
theorem wpIn_itA {n : Nat} {g : Operand} {p s : Nat} {assign body : Code} {Q : Exit → Act → World → Prop} {a : Act} {w : World} {gf : Nat} {lb : Array Value} (hg : a.eval g = .func (.func gf) #[] lb) (eg : EntF gf) {O : Nat → Prop} {w0 : World} {ts : List Tv} (hit : ItB O w0 gf lb ts)
    (I : Nat → World → Prop) (Ix : Code → Nat → World → Prop) (hI : OwnFrom w.heap.size I) (hIz : ∀ j W, I j W → w.heap.size ≤ W.heap.size) (hIx : ∀ c, OwnFrom w.heap.size (Ix c)) (hB : ∀ j W, I j W → St O w0 W) (h0 : I 0 w)
    (hassign : ∀ (m l : Nat) (t : Tv) (W : World) (K : Act → World → Prop), K (actA a p s W.heap.size t) (W.alloc (TkB t)) → assign.wpIn (Fence.wide.inRound l) m Try.prog (Exit.then K (fun _ _ _ => False)) { tmps := ((#[p] : Array Tmp).zip #[t.v]).foldl (fun t (p, v) => t.setIfInBounds p v) a.tmps, defers := [] } W)
    (hbody : ∀ (m l j b : Nat) (t : Tv) (W : World), ts[j]? = some t → w.heap.size ≤ l → (∃ r, W.heap[l]? = some (.loop r)) → I j W → w.heap.size ≤ b → W.heap[b]? = some (TkB t) → body.wpIn (Fence.wide.inRound l) m Try.prog (itPost w.heap.size I Ix (j + 1) W) (actA a p s b t) W)
    (hdone : ∀ (D : Nat) (W : World), w.heap.size ≤ D → I ts.length W → W.heap[D]? = some (.deferred (some [])) → Q .normal { a with defers := { target := .collected D, args := #[] } :: a.defers } W)
    (hstop : ∀ (D : Nat) (c : Code) (j : Nat) (W : World), w.heap.size ≤ D → Ix c j W → W.heap[D]? = some (.deferred (some [])) → c.wpIn Fence.wide n Try.prog Q { a with defers := { target := .collected D, args := #[] } :: a.defers } W) :
    (Code.rangeFunc g #[p] assign body).wpIn Fence.wide n Try.prog Q a w := by
  refine wpIn_it hg eg hit rfl I Ix hI hIx hB h0 (fun j a' V => ∃ b t, ts[j]? = some t ∧ w.heap.size ≤ b ∧ V.heap[b]? = some (TkB t) ∧ a' = actA a p s b t) ?_ ?_ ?_ hdone hstop
  · rintro j a' u A B row ⟨b, t, h1, h2, h3, h4⟩ hg hr
    exact ⟨b, t, h1, h2, (grownBy_keeps_cells hg (fun r e => (hr r e).2) h3 rfl).trans h3, h4⟩
  · intro m l j t W K hj hi hK
    have hs : w.heap.size ≤ W.heap.size := hIz _ _ hi
    exact hassign m l t W K (hK _ _ (KF.of_below ((Below.refl _ _).alloc (Nat.le_refl _) _)) (hI.alloc _ hi) ⟨_, t, hj, hs, new_at _ _, rfl⟩)
  · rintro m l j t a' W hj hl hr hi ⟨b, t', h1, h2, h3, rfl⟩
    obtain rfl : t' = t := by rw [hj] at h1; cases h1; rfl
    exact hbody m l j b t' W hj hl hr hi h2 h3
theorem wpIn_itNA {n l₀ : Nat} {r₀ : Loop} {g : Operand} {p s : Nat} {assign body : Code} {Q : Exit → Act → World → Prop} {a : Act} {w : World} {gf : Nat} {lb : Array Value} (hl0 : w.heap[l₀]? = some (.loop r₀)) (hg : a.eval g = .func (.func gf) #[] lb) (eg : EntF gf) {O : Nat → Prop} {w0 : World} {ts : List Tv} (hit : ItB O w0 gf lb ts)
    (I : Nat → World → Prop) (Ix : Code → Nat → World → Prop) (hI : OwnFrom w.heap.size I) (hIz : ∀ j W, I j W → w.heap.size ≤ W.heap.size) (hIx : ∀ c, OwnFrom w.heap.size (Ix c)) (hB : ∀ j W, I j W → St O w0 W) (h0 : I 0 w)
    (hassign : ∀ (m l : Nat) (t : Tv) (W : World) (K : Act → World → Prop), K (actA a p s W.heap.size t) (W.alloc (TkB t)) → assign.wpIn (Fence.wide.inRound l) m Try.prog (Exit.then K (fun _ _ _ => False)) { tmps := ((#[p] : Array Tmp).zip #[t.v]).foldl (fun t (p, v) => t.setIfInBounds p v) a.tmps, defers := [] } W)
    (hbody : ∀ (m l j b : Nat) (t : Tv) (W : World), ts[j]? = some t → w.heap.size ≤ l → (∃ r, W.heap[l]? = some (.loop r)) → I j W → w.heap.size ≤ b → W.heap[b]? = some (TkB t) → body.wpIn (Fence.wide.inRound l) m Try.prog (itPost w.heap.size I Ix (j + 1) W) (actA a p s b t) W)
    (hdone : ∀ (W : World), I ts.length W → Q .normal a W)
    (hstop : ∀ (c : Code) (j : Nat) (W : World), Ix c j W → c.wpIn (Fence.wide.inRound l₀) n Try.prog Q a W) :
    (Code.rangeFunc g #[p] assign body).wpIn (Fence.wide.inRound l₀) n Try.prog Q a w := by
  refine wpIn_itN hl0 hg eg hit rfl I Ix hI hIx hB h0 (fun j a' V => ∃ b t, ts[j]? = some t ∧ w.heap.size ≤ b ∧ V.heap[b]? = some (TkB t) ∧ a' = actA a p s b t) ?_ ?_ ?_ hdone hstop
  · rintro j a' u A B row ⟨b, t, h1, h2, h3, h4⟩ hg hr
    exact ⟨b, t, h1, h2, (grownBy_keeps_cells hg (fun r e => (hr r e).2) h3 rfl).trans h3, h4⟩
  · intro m l j t W K hj hi hK
    have hs : w.heap.size ≤ W.heap.size := hIz _ _ hi
    exact hassign m l t W K (hK _ _ (KF.of_below ((Below.refl _ _).alloc (Nat.le_refl _) _)) (hI.alloc _ hi) ⟨_, t, hj, hs, new_at _ _, rfl⟩)
  · rintro m l j t a' W hj hl hr hi ⟨b, t', h1, h2, h3, rfl⟩
    obtain rfl : t' = t := by rw [hj] at h1; cases h1; rfl
    exact hbody m l j b t' W hj hl hr hi h2 h3
theorem wpIn_itX {n id : Nat} {g : Operand} {p s : Nat} {assign body : Code} {Q : Exit → Act → World → Prop} {a : Act} {w : World} {gf : Nat} {lb : Array Value} (hg : a.eval g = .func (.func gf) #[] lb) (eg : EntF gf) {O : Nat → Prop} {w0 : World} {ts : List Tv} (hit : ItB O w0 gf lb ts)
    (I X : Nat → World → Prop) (hI : OwnFrom w.heap.size I) (hIz : ∀ j W, I j W → w.heap.size ≤ W.heap.size) (hX : OwnFrom w.heap.size X) (hB : ∀ j W, I j W → St O w0 W) (h0 : I 0 w)
    (hassign : ∀ (m l : Nat) (t : Tv) (W : World) (K : Act → World → Prop), K (actA a p s W.heap.size t) (W.alloc (TkB t)) → assign.wpIn (Fence.wide.inRound l) m Try.prog (Exit.then K (fun _ _ _ => False)) { tmps := ((#[p] : Array Tmp).zip #[t.v]).foldl (fun t (p, v) => t.setIfInBounds p v) a.tmps, defers := [] } W)
    (hbody : ∀ (m l j b : Nat) (t : Tv) (W : World), ts[j]? = some t → w.heap.size ≤ l → (∃ r, W.heap[l]? = some (.loop r)) → I j W → w.heap.size ≤ b → W.heap[b]? = some (TkB t) → body.wpIn (Fence.wide.inRound l) m Try.prog (itPost w.heap.size I (fun c j W => c = .exit id ∧ X j W) (j + 1) W) (actA a p s b t) W)
    (hend : ∀ (D j : Nat) (W : World), w.heap.size ≤ D → ((j = ts.length ∧ I j W) ∨ X j W) → W.heap[D]? = some (.deferred (some [])) → Q .normal { a with defers := { target := .collected D, args := #[] } :: a.defers } W) :
    (Code.rangeFunc g #[p] assign body).wpIn Fence.wide n Try.prog (Exit.inBlock id Q) a w := by
  refine wpIn_itA hg eg hit I (fun c j W => c = .exit id ∧ X j W) hI hIz (fun c j A B row h hgr hr => ⟨h.1, hX j A B row h.2 hgr hr⟩) hB h0 hassign hbody (fun D W hD hi hd => hend D _ W hD (.inl ⟨rfl, hi⟩) hd) ?_
  rintro D c j W hD ⟨rfl, hx⟩ hd
  have := hend D j W hD (.inr hx) hd
  refine wpIn_exit ?_
  simpa [Exit.inBlock] using this
theorem KI.nest {bk : Nat} {V2 V : World} {jj : Nat} (h : KI bk V2 jj V) (hb : bk < V2.heap.size) (nq : Nat) {V4 : World} (h4 : ((V.drewN nq).setCell ⟨bk, 0, none⟩ (.int .i64 ((jj : Int) + 1))).alloc (InB 0) = V4) :
    KI V.heap.size V4 0 V4 ∧ V.heap.size < V4.heap.size ∧ (∀ k o, V.heap[k]? = some o → k ≠ bk → V4.heap[k]? = some o) ∧ ∀ (j : Nat) (V' : World), KI V.heap.size V4 j V' → Kp (fun k => k = bk) V2 V' ∧ KI bk V2 (jj + 1) V' ∧ KF V2.heap.size V V' := by
  obtain ⟨V3, e3⟩ : ∃ V3, (V.drewN nq).setCell ⟨bk, 0, none⟩ (.int .i64 ((jj : Int) + 1)) = V3 := ⟨_, rfl⟩
  have h3 := (h.next nq).1
  have kd := below_dn (Below.refl V.heap.size V) nq
  have kv : Kp (fun k => k = bk) V V3 := by rw [← e3]; exact (Kp.of_below (S := fun k => k = bk) kd).step (Kp.set _ _ _ _) (fun _ _ h => h)
  rw [e3] at h3 h4
  have z3 : V3.heap.size = V.heap.size := by
    rw [← e3]
    show ((V.drewN nq).heap.modify _ _).size = _
    rw [Array.size_modify]
    have : ∀ m, (V.drewN m).heap = V.heap := fun m => by
      induction m with
      | zero => rfl
      | succ m ih => exact ih
    rw [this]
  have b4 := below_new V3 (InB 0)
  rw [h4] at b4
  have n4 : V4.heap[V.heap.size]? = some (InB 0) := by rw [← h4, ← z3]; exact new_at _ _
  have l4 := blk_lt n4
  have k4 : Kp (fun k => k = bk) V2 V4 := h3.1.step (Kp.of_below (S := fun _ => False) b4) (fun _ _ h => h.elim)
  have bb : V4.heap[bk]? = some (InB ((jj + 1 : Nat) : Int)) := blk_below h3.2 b4
  have sv := h.1.size
  refine ⟨⟨Kp.refl _ _, n4⟩, l4, fun k o ho hne => blk_below (kv.blk ho hne) b4, fun j V' hk => ?_⟩
  have kk : Kp (fun k => k = bk) V2 V' := k4.step hk.1 (fun k hlt e => by omega)
  refine ⟨kk, ⟨kk, hk.1.blk bb (by omega)⟩, Nat.le_trans (Nat.le_trans (Nat.le_of_lt l4) hk.1.size) (Nat.le_refl _), fun k o hB ho => ?_⟩
  have := blk_lt ho
  exact hk.1.blk (blk_below (kv.blk ho (by omega)) b4) (by omega)
end Go.Proofs.Ytkigadnkclkopaa
