import Derived.Test.YtkigadnkclkopaaId
import Derived.Test.YtkigadnkclkopaaIf
set_option linter.unusedVariables false
set_option linter.unusedSimpArgs false
namespace Go.Proofs.Ytkigadnkclkopaa
open Go.RowKit Go.Shelf

/-! Rows of function values; the code's Toks. -/
def fvs (l : List Fp) : List Value := l.map Fp.v
def Rf (W : World) (v : Value) (l : List Fp) : Prop := W.ownsRow 0 37 1 v l.length (fvs l)
theorem Rf.below {W W' : World} {v : Value} {l : List Fp} (h : Rf W v l) (hb : Below W.heap.size W W') : Rf W' v l := row_below h hb
theorem Rf.kp {S : Nat → Prop} {W W' : World} {v : Value} {l : List Fp} (h : Rf W v l) (hk : Kp S W W') (hS : ∀ k, v.ownBlock = some k → ¬ S k) : Rf W' v l := hk.row h hS
theorem Rf.shape {W : World} {v : Value} {l : List Fp} (h : Rf W v l) : ∃ p cap, v = .slice p l.length cap ∧ l.length ≤ cap ∧ cap ≤ maxLen := row_shape h
theorem Rf.ne {W : World} {v : Value} {l : List Fp} (h : Rf W v l) {g : Nat} {cs : Array Value} {T : TypeId} {f : Nat × Nat} (hg : W.heap[g]? = some (.cells cs T f)) (hT : T ≠ 37) : ∀ k, v.ownBlock = some k → k ≠ g := fun k hk e => row_ne h hg hT (by rw [hk, e])
theorem Rf.lt {W : World} {v : Value} {l : List Fp} (h : Rf W v l) : ∀ k, v.ownBlock = some k → k < W.heap.size := by
  intro k hk
  rcases h.2 with ⟨rfl, _⟩ | ⟨b, cap, cur, rfl, _, h3, _⟩
  · cases hk
  · simp only [Value.ownBlock, Option.some.injEq] at hk
    subst hk
    exact blk_lt h3
theorem Rf.lf {W : World} {v : Value} {l : List Fp} (h : Rf W v l) : ∃ ao cap, v = .slice ao l.length cap ∧ Lf W ao l ∧ (∀ a, ao = some a → v.ownBlock = some a.block) := by
  rcases h.2 with ⟨rfl, h0⟩ | ⟨g, cap, cur, rfl, hb, hg, h3, h4, h5, h6⟩
  · have : l = [] := List.eq_nil_of_length_eq_zero h0
    subst this
    exact ⟨none, 0, rfl, fun j d h => by simp at h, fun a h => by cases h⟩
  · refine ⟨some ⟨g, 0, none⟩, cap, rfl, ?_, fun a ha => by cases ha; rfl⟩
    intro j p hj
    have hv : (fvs l)[j]? = some p.v := by
      unfold fvs
      rw [List.getElem?_map, hj]
      rfl
    have := World.ownsRow.cells h (g := g) rfl j p.v hv
    rw [Addr.add_lit] at this
    exact ⟨g, 0, rfl, this⟩
theorem Try.info37 : (Try.prog.info? 37).map (fun i => (i.zero, i.size, i.bytes)) = some (some .nilFunc, 1, 8) := by kernel_rfl
theorem und_fp : Try.prog.underlying 56 = some (.slice 37) := by kernel_rfl
theorem step_fp {W : World} {ops : Array Oper} {o : Oper} {a : Act} {K : Act → World → Prop} {Q : Exit → Act → World → Prop} {E : Prop} (hgd : o.guard = none) (s x : Operand)
    (ho : o.op = .call { callee := .builtin .append, args := #[s, x], argTypes := #[56, 56] }) (v : Value) (l : List Fp) (d : Fp) (hs : a.eval s = v) (hr : Rf W v l)
    (g c : Nat) (hx : a.eval x = .slice (some ⟨g, 0, none⟩) 1 c) (hg : W.heap[g]? = some (.cells #[.func (.func d.f) #[] d.lb] 37 (0, 0))) (hl : l.length ≤ 1000000000)
    (h : ∀ q cap w', Rf w' (.slice (some ⟨q, 0, none⟩) (l.length + 1) cap) (l ++ [d]) → W.grownBy w' v.ownBlock → Nb W v (.slice (some ⟨q, 0, none⟩) (l.length + 1) cap) → K (a.put o.dst (.slice (some ⟨q, 0, none⟩) (l.length + 1) cap)) w') :
    if Region.wanted o (yielded ops a.tmps) = true then Oper.wp Try.prog o a W K Q else E := by
  obtain ⟨i0, hi, hz0, hz1, hz2⟩ := info_parts Try.info37
  refine step_append_lies W hgd s x 56 ho 0 37 i0 _ 1 8 und_fp hi hz0 hz1 hz2 rfl (by decide) v _ _ hs hr ⟨g, 0, none⟩ 1 c [d.v] hx rfl ?_ (by intro u hu; simp at hu; subst hu; rfl) (by omega) (by unfold maxLen; omega) (by omega) (Nat.zero_le _) _ rfl ?_
  · intro j u hu
    refine World.news_of_block hg j u ?_
    simpa [Fp.v] using hu
  · intro q cap w' a1 a2 a3 _
    refine h q cap w' ?_ a2 ?_
    · unfold Rf
      rw [List.length_append]
      have e : fvs (l ++ [d]) = fvs l ++ [d.v] := by simp [fvs]
      rw [e]
      exact a1
    · rcases a3 with a3 | a3
      · exact .inl a3.symm
      · exact .inr ⟨q, rfl, by omega⟩
theorem make_fp (N : Nat) (hN : N ≤ 100000000) : ∃ cur : Array Value, cur.size = N * 1 ∧ ∀ w, (Instr.makeSlice 56 (.int .i64 0) (.int .i64 (N : Int))).run Try.prog w = .ok (.slice (some ⟨w.heap.size, 0, none⟩) 0 N) (w.alloc (.cells cur 37)) := by
  obtain ⟨i0, hi, hz0, hz1, hz2⟩ := info_parts Try.info37
  refine ⟨madeCells (Value.cells .nilFunc) (N * i0.size), by rw [size_madeCells, hz1], fun w => ?_⟩
  have h := run_make (P := Try.prog) w 56 37 i0 _ und_fp hi hz0 .i64 .i64 0 (N : Int) (by omega) (by omega) (by rw [hz2]; omega) (by omega)
  rw [h, show (N : Int).toNat = N by omega]
  rfl
theorem rf_made (w : World) (cur : Array Value) (N : Nat) (hN : N ≤ 100000000) (hs : cur.size = N * 1) : Rf (w.alloc (.cells cur 37)) (.slice (some ⟨w.heap.size, 0, none⟩) 0 N) [] :=
  World.ownsRow_made w cur N (Nat.zero_le _) (by unfold maxLen; omega) hs
/-- What the row's building does not touch. -/
def Oc (B g : Nat) (v : Value) (V : World) (k : Nat) : Prop := B ≤ k ∧ k < V.heap.size ∧ k ≠ g ∧ v.ownBlock ≠ some k
abbrev SlB (v : Value) : Obj := .cells #[v] 56
/-- Between two rounds. -/
structure TI (W : World) (q g : Nat) (ob : Obj) (v : Value) (l : List Fp) (V : World) : Prop where
  bel : Below W.heap.size W V
  nb : V.heap[q]? = some ob
  sl : V.heap[g]? = some (SlB v)
  rf : Rf V v l
  vB : ∀ k, v.ownBlock = some k → W.heap.size ≤ k
  g0 : W.heap.size ≤ g
  ok : ∀ p, p ∈ l → Fok (Oc W.heap.size g v V) V p
theorem TI.below {W : World} {q g : Nat} {ob : Obj} {v : Value} {l : List Fp} {V V' : World} (h : TI W q g ob v l V) (hb : Below V.heap.size V V') : TI W q g ob v l V' :=
  ⟨h.bel.trans (hb.mono h.bel.size), blk_below h.nb hb, blk_below h.sl hb, h.rf.below hb, h.vB, h.g0, fun p hp => ⟨(h.ok p hp).1, ((h.ok p hp).2.move (St.of_below hb)).sub fun k hk _ => ⟨hk.1, Nat.lt_of_lt_of_le hk.2.1 hb.size, hk.2.2⟩⟩⟩
theorem TI.push {W : World} {q g : Nat} {k : Int} {d : Tv} {sv v v' : Value} {l : List Fp} {V V1 V2 w3 : World} {p : Fp} (h : TI W q g (NdB k d sv) v l V) (hb : Below V.heap.size V V1) (hp : Fok (fun k => V.heap.size ≤ k) V1 p) (hb2 : Below V1.heap.size V1 V2) (hr : Rf w3 v' (l ++ [p])) (hg : V2.grownBy w3 v.ownBlock) (hq : Nb V2 v v') :
    (w3.cell? ⟨g, 0, none⟩ = some v ∧ w3.frozen? ⟨g, 0, none⟩ = false ∧ g < w3.heap.size) ∧ TI W q g (NdB k d sv) v' (l ++ [p]) (w3.setCell ⟨g, 0, none⟩ v') := by
  have h1 := h.below hb
  have h2 := h1.below hb2
  have kg := Kp.of_grown hg
  have ne1 : ¬ some g = v.ownBlock := fun e => h2.rf.ne h2.sl (by decide) g e.symm rfl
  have ne2 : ¬ some q = v.ownBlock := fun e => h2.rf.ne h2.nb (by decide) q e.symm rfl
  have gq : q ≠ g := by
    rintro rfl
    have := h.nb
    rw [h.sl] at this
    injection this with e
    injection e with _ e
    exact absurd e (by decide)
  have g3 := kg.blk h2.sl ne1
  have q3 := kg.blk h2.nb ne2
  have b3 : Below W.heap.size W w3 := Kp.low h2.bel kg (fun k e => h2.vB k e.symm) h2.bel.size
  have k4 := Kp.set w3 g 0 v'
  have vlt := h.rf.lt
  have glt := blk_lt h.sl
  have s1 := hb.size
  have s2 := hb2.size
  have s3 := hg.size
  have s4 := k4.size
  -- a block of V1's that is neither the row nor the slice's
  have keep : ∀ j, j < V1.heap.size → j ≠ g → v.ownBlock ≠ some j → (w3.setCell ⟨g, 0, none⟩ v').heap[j]? = V1.heap[j]? := fun j hj hjg hjv => by
    rw [k4.block j (by omega) hjg, kg.block j (by omega) (fun e => hjv e.symm), hb2.block j hj]
  have vq : ∀ j, j < V1.heap.size → v.ownBlock ≠ some j → v'.ownBlock ≠ some j := fun j hj hjv e => by
    rcases hq with hq | ⟨q', e1, hq⟩
    · exact hjv (by rw [← hq]; exact e)
    · rw [e1] at e
      injection e with e
      omega
  refine ⟨⟨blk_cell g3 rfl, blk_frozen g3, blk_lt g3⟩, Kp.low b3 k4 (fun k e => by subst e; exact h.g0) b3.size, blk_other q3 gq _, blk_set g3 0 _, hr.kp k4 (hr.ne g3 (by decide)), ?_, h.g0, ?_⟩
  · intro k e
    rcases hq with hq | ⟨q', e1, hq⟩
    · exact h.vB k (by rw [← hq]; exact e)
    · rw [e1] at e
      simp at e
      have := h2.bel.size
      omega
  · intro p' hp'
    rcases List.mem_append.1 hp' with hm | hm
    · obtain ⟨a1, a2⟩ := h1.ok p' hm
      refine ⟨a1, (a2.move fun j hj hlt => keep j hlt hj.2.2.1 hj.2.2.2).sub fun j hj hlt => ⟨hj.1, hlt, hj.2.2.1, vq j hj.2.1 hj.2.2.2⟩⟩
    · simp only [List.mem_singleton] at hm
      subst hm
      have hv1 : ∀ j, V.heap.size ≤ j → j ≠ g ∧ v.ownBlock ≠ some j := fun j hj => ⟨by omega, fun e => by have := vlt j e; omega⟩
      have hsw := h.bel.size
      have a2 := (hp.2.sub (O' := fun j => V.heap.size ≤ j ∧ j < V1.heap.size) fun j hj hlt => ⟨hj, hlt⟩)
      refine ⟨hp.1, (a2.move fun j hj hlt => keep j hlt (hv1 j hj.1).1 (hv1 j hj.1).2).sub fun j hj hlt => ⟨by omega, hlt, (hv1 j hj.1).1, vq j hj.2 (hv1 j hj.1).2⟩⟩
end Go.Proofs.Ytkigadnkclkopaa
