import Derived.Test.YtkglkhijngpgiaaGreatG1
import Derived.Deep.RegionHeld3
import Derived.Deep.RegionWith
import Derived.Deep.RegionLaw
import Derived.WalkMore
import Derived.Deep.AppendLies
set_option linter.unusedVariables false
set_option linter.unusedSimpArgs false
namespace Go.Proofs.YtkglkhijngpgiaaGreat
open Go.RowKit

/-! The parser's block. -/
def PB (W : World) (g : Nat) (c : Bool) (e n : Int) (vs vt : Value) : Prop := W.heap[g]? = some (.cells #[.bool c, .int .i64 e, .int .i64 n, vs, vt] 46 (0, 0))
theorem PB.cells {W : World} {g : Nat} {c : Bool} {e n : Int} {vs vt : Value} (h : PB W g c e n vs vt) :
    W.cell? ⟨g, 0, none⟩ = some (.bool c) ∧ W.cell? ⟨g, 1, none⟩ = some (.int .i64 e) ∧ W.cell? ⟨g, 2, none⟩ = some (.int .i64 n) ∧ W.cell? ⟨g, 3, none⟩ = some vs ∧ W.cell? ⟨g, 4, none⟩ = some vt :=
  ⟨blk_cell h rfl, blk_cell h rfl, blk_cell h rfl, blk_cell h rfl, blk_cell h rfl⟩
theorem PB.frozen {W : World} {g : Nat} {c : Bool} {e n : Int} {vs vt : Value} (h : PB W g c e n vs vt) (j : Nat) : W.frozen? ⟨g, j, none⟩ = false := blk_frozen h
theorem PB.kp {S : Nat → Prop} {W W' : World} {g : Nat} {c : Bool} {e n : Int} {vs vt : Value} (h : PB W g c e n vs vt) (hk : Kp S W W') (hS : ¬ S g) : PB W' g c e n vs vt := hk.blk h hS
theorem PB.below {W W' : World} {g : Nat} {c : Bool} {e n : Int} {vs vt : Value} (h : PB W g c e n vs vt) (hb : Below W.heap.size W W') : PB W' g c e n vs vt := blk_below h hb
theorem PB.lt {W : World} {g : Nat} {c : Bool} {e n : Int} {vs vt : Value} (h : PB W g c e n vs vt) : g < W.heap.size := blk_lt h

theorem step_ev {W : World} {ops : Array Oper} {o : Oper} {a : Act} {K : Act → World → Prop} {Q : Exit → Act → World → Prop} {E : Prop} (hgd : o.guard = none) (s x : Operand)
    (ho : o.op = .call { callee := .builtin .append, args := #[s, x], argTypes := #[38, 38] }) (v : Value) (l : List Ev) (d : Ev) (hs : a.eval s = v) (hr : Re W v l)
    (g c : Nat) (hx : a.eval x = .slice (some ⟨g, 0, none⟩) 1 c) (hg : W.heap[g]? = some (.cells #[.int .u8 d.k, .int .u8 d.n, .int .u8 d.d.k, .string d.d.t, .int .i64 d.d.a, .int .i64 d.d.l, .int .i64 d.d.c, .int .i64 d.d.f] 59 (0, 0))) (hl : l.length ≤ 1000000000)
    (h : ∀ q cap w', Re w' (.slice (some ⟨q, 0, none⟩) (l.length + 1) cap) (l ++ [d]) → W.grownBy w' v.ownBlock → (v.ownBlock = some q ∨ q = W.heap.size) → K (a.put o.dst (.slice (some ⟨q, 0, none⟩) (l.length + 1) cap)) w') :
    if Region.wanted o (yielded ops a.tmps) = true then Oper.wp Tryz.prog o a W K Q else E := by
  obtain ⟨i0, hi, hz0, hz1, hz2⟩ := info_parts Tryz.info59
  refine step_append_lies W hgd s x 38 ho 0 59 i0 _ 8 64 Tryz.underlying38 hi hz0 hz1 hz2 rfl (by decide) v _ _ hs hr ⟨g, 0, none⟩ 1 c (ecs [d]) hx (by rw [ecs_len]; rfl) ?_ (ecs_one [d]) (by omega) (by unfold maxLen; omega) (by omega) (Nat.zero_le _) _ rfl ?_
  · intro j u hu
    refine World.news_of_block hg j u ?_
    have e : ecs [d] = [.int .u8 d.k, .int .u8 d.n, .int .u8 d.d.k, .string d.d.t, .int .i64 d.d.a, .int .i64 d.d.l, .int .i64 d.d.c, .int .i64 d.d.f] := by simp [ecs, flat, Ev.cs]
    rw [e] at hu
    simpa using hu
  · intro q cap w' a1 a2 a3 _
    refine h q cap w' ?_ a2 a3
    unfold Re
    rw [List.length_append, ecs_app]
    exact a1

/-- What is behind tell. -/
structure Told (W W' : World) (g : Nat) (c : Bool) (e n : Int) (vs vt : Value) (E : List Ev) : Prop where
  ex : ∃ vt', PB W' g c e n vs vt' ∧ Re W' vt' E ∧ Nb W vt vt'
  kp : Kp (fun k => k = g ∨ vt.ownBlock = some k) W W'

theorem told_mk {W W1 w3 : World} {g : Nat} {c : Bool} {e n : Int} {vs vt : Value} {E E' : List Ev} (h : PB W g c e n vs vt) (hE : Re W vt E) (hb : Below W.heap.size W W1) {q cap n' : Nat} (hr : Re w3 (.slice (some ⟨q, 0, none⟩) n' cap) E') (hg : W1.grownBy w3 vt.ownBlock) (hq : vt.ownBlock = some q ∨ q = W1.heap.size) :
    (w3.cell? ⟨g, 4, none⟩ = some vt ∧ w3.frozen? ⟨g, 4, none⟩ = false) ∧ Told W (w3.setCell ⟨g, 4, none⟩ (.slice (some ⟨q, 0, none⟩) n' cap)) g c e n vs vt E' := by
  have h1 := h.below hb
  have hne : ¬ some g = vt.ownBlock := fun e => (hE.below hb).ne h1 (by decide) g e.symm rfl
  have h3 : PB w3 g c e n vs vt := h1.kp (Kp.of_grown hg) hne
  refine ⟨⟨blk_cell h3 rfl, h3.frozen 4⟩, ⟨⟨.slice (some ⟨q, 0, none⟩) n' cap, blk_set h3 4 _, hr.kp (Kp.set _ _ _ _) (hr.ne h3 (by decide)), ?_⟩, ?_⟩⟩
  · rcases hq with hq | hq
    · exact .inl hq.symm
    · exact .inr ⟨q, rfl, by rw [hq]; exact hb.size⟩
  · exact ((Kp.of_below hb).step (Kp.of_grown hg) (fun k _ e => .inr e.symm)).step (Kp.set _ _ _ _) (fun k _ e => .inl e)

set_option maxHeartbeats 1000000 in
theorem tell_any {W : World} {g : Nat} {c : Bool} {e n : Int} {vs vt : Value} {E : List Ev} (h : PB W g c e n vs vt) (hE : Re W vt E) (d : Ev) (hl : E.length ≤ 1000000000) :
    Calls Tryz.prog 33 #[.pointer (some ⟨g, 0, none⟩), d.v] W fun r w' => r = .returned (.tuple #[]) ∧ Told W w' g c e n vs vt (E ++ [d]) := by
  obtain ⟨p, cap, rfl, _⟩ := hE.shape
  have HW : Hid (∀ V, Below W.heap.size W V → Re V (.slice p E.length cap) E) := fun V hb => hE.below hb
  have HT : Hid (∀ W1 w3 q cp, Below W.heap.size W W1 → Re w3 (.slice (some ⟨q, 0, none⟩) (E.length + 1) cp) (E ++ [d]) → W1.grownBy w3 (Value.slice p E.length cap).ownBlock → ((Value.slice p E.length cap).ownBlock = some q ∨ q = W1.heap.size) → (w3.cell? ⟨g, 4, none⟩ = some (.slice p E.length cap) ∧ w3.frozen? ⟨g, 4, none⟩ = false) ∧ Told W (w3.setCell ⟨g, 4, none⟩ (.slice (some ⟨q, 0, none⟩) (E.length + 1) cp)) g c e n vs (.slice p E.length cap) (E ++ [d])) :=
    fun W1 w3 q cp hb h1 h2 h3 => told_mk h hE hb h1 h2 h3
  obtain ⟨c0, c1, c2, c3, c4⟩ := h.cells
  have hf := h.frozen 4
  have hg := h.lt
  clear h hE
  dsimp only [Ev.v]
  obtain ⟨⟨k0, n0, ⟨k1, t, a, l, cc, f⟩⟩, hd⟩ : ∃ x, d = x := ⟨_, rfl⟩
  subst hd
  go_enter Tryz.func33, Tryz.ntmps33
  go_wp2_with fail
  obtain ⟨W1, e1⟩ : ∃ W1, W.alloc (.cells #[.int .u8 k0, .int .u8 n0, .int .u8 k1, .string t, .int .i64 a, .int .i64 l, .int .i64 cc, .int .i64 f] 59) = W1 := ⟨_, rfl⟩
  have hb : Below W.heap.size W W1 := by rw [← e1]; exact (Below.refl _ _).alloc (Nat.le_refl _) _
  have hn : W1.heap[W.heap.size]? = some (.cells #[.int .u8 k0, .int .u8 n0, .int .u8 k1, .string t, .int .i64 a, .int .i64 l, .int .i64 cc, .int .i64 f] 59) := by rw [← e1]; exact new_at _ _
  rw [e1]
  clear e1
  have m0 : W1.cell? ⟨W.heap.size, 0, none⟩ = _ := blk_cell hn rfl
  have m1 : W1.cell? ⟨W.heap.size, 1, none⟩ = _ := blk_cell hn rfl
  have m2 : W1.cell? ⟨W.heap.size, 2, none⟩ = _ := blk_cell hn rfl
  have m3 : W1.cell? ⟨W.heap.size, 3, none⟩ = _ := blk_cell hn rfl
  have m4 : W1.cell? ⟨W.heap.size, 4, none⟩ = _ := blk_cell hn rfl
  have m5 : W1.cell? ⟨W.heap.size, 5, none⟩ = _ := blk_cell hn rfl
  have m6 : W1.cell? ⟨W.heap.size, 6, none⟩ = _ := blk_cell hn rfl
  have m7 : W1.cell? ⟨W.heap.size, 7, none⟩ = _ := blk_cell hn rfl
  have d4 : W1.cell? ⟨g, 4, none⟩ = some (.slice p E.length cap) := (hb.cell hg).trans c4
  have HB : Hid (∀ o, Below W.heap.size W (W1.drew.alloc o)) := fun o => (hb.drew).alloc hb.size _
  have hg1 : g < W1.heap.size := Nat.lt_of_lt_of_le hg hb.size
  clear hb hn c0 c1 c2 c3 c4 hf hg
  go_region_law (refine step_ev (by rfl) _ _ (by rfl) (.slice p E.length cap) E ⟨k0, n0, ⟨k1, t, a, l, cc, f⟩⟩ (by rfl) (HW.out _ (HB.out _)) W1.heap.size 1 (by rfl) (new_at W1.drew _) hl ?_; intro q cp w3 hr3 hg3 hq3; obtain ⟨⟨x1, x2⟩, x3⟩ := HT.out _ w3 q cp (HB.out _) hr3 hg3 hq3; have HX := show Hid _ from x3; clear x3 hr3 hg3 hq3)
  all_goals (
    go_wp2_with fail
    go_end0
    exact ⟨rfl, HX.out⟩)

end Go.Proofs.YtkglkhijngpgiaaGreat
