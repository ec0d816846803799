import Derived.Test.YtjibpdncginkdaaNx
import Derived.Deep.RegionWith
import Derived.Deep.RegionHeld3
set_option linter.unusedVariables false
set_option linter.unusedSimpArgs false
namespace Go.Proofs.Ytjibpdncginkdaa
open Go.RowKit

/-- What calls on the rings whose labels are in S leave alone. -/
structure FrS (S : Nat → Prop) (own own' : Nat → Nat) (w w' : World) : Prop where
  os : w'.os = w.os
  tape : w'.tape = w.tape
  output : w'.output = w.output
  size : w.heap.size ≤ w'.heap.size
  block : ∀ k, k < w.heap.size → ¬ S (own k) → w'.heap[k]? = w.heap[k]?
  old : ∀ k, k < w.heap.size → own' k = own k
theorem FrS.refl (S : Nat → Prop) (own : Nat → Nat) (w : World) : FrS S own own w w := ⟨rfl, rfl, rfl, Nat.le_refl _, fun _ _ _ => rfl, fun _ _ => rfl⟩
theorem FrS.trans {S : Nat → Prop} {o0 o1 o2 : Nat → Nat} {a b c : World} (h : FrS S o0 o1 a b) (k : FrS S o1 o2 b c) : FrS S o0 o2 a c :=
  ⟨k.os.trans h.os, k.tape.trans h.tape, k.output.trans h.output, Nat.le_trans h.size k.size,
   fun j hj hi => (k.block j (Nat.lt_of_lt_of_le hj h.size) (by rw [h.old j hj]; exact hi)).trans (h.block j hj hi),
   fun j hj => (k.old j (Nat.lt_of_lt_of_le hj h.size)).trans (h.old j hj)⟩
theorem FrS.of {S : Nat → Prop} {i : Nat} {own own' : Nat → Nat} {w w' : World} (h : Fr i own own' w w') (hi : S i) : FrS S own own' w w' :=
  ⟨h.os, h.tape, h.output, h.size, fun k hk hn => h.block k hk (fun e => hn (by rw [e]; exact hi)), h.old⟩
theorem FrS.of_below {S : Nat → Prop} {own : Nat → Nat} {w w' : World} (h : Below w.heap.size w w') : FrS S own own w w' :=
  ⟨h.os, h.tape, h.output, h.size, fun k hk _ => h.block k hk, fun _ _ => rfl⟩
theorem FrS.mono {S S' : Nat → Prop} {own own' : Nat → Nat} {w w' : World} (h : FrS S own own' w w') (hS : ∀ k, S k → S' k) : FrS S' own own' w w' :=
  ⟨h.os, h.tape, h.output, h.size, fun k hk hn => h.block k hk (fun e => hn (hS _ e)), h.old⟩
/-- as a frame of a label that is not touched: for what is kept. -/
theorem SI.keptS {S : Nat → Prop} {own own' : Nat → Nat} {i : Nat} {w w' : World} {pv : Value} {st : St} (h : SI own i w pv st) (hf : FrS S own own' w w') (hi : ¬ S i) : SI own' i w' pv st := by
  cases st with
  | none => exact h
  | some p =>
    obtain ⟨g, sv, zs, front, e, hr⟩ := h
    refine ⟨g, sv, zs, front, e, (hf.block g (blk_lt hr.blk) (by rw [hr.lab]; exact hi)).trans hr.blk, (hf.old g (blk_lt hr.blk)).trans hr.lab, hr.r1, hr.r2, hr.len, ?_, hr.hold⟩
    rcases hr.row with h1 | ⟨b, h1, h2, h3, h4, h5⟩
    · exact .inl h1
    · exact .inr ⟨b, h1, (hf.block b (blk_lt h2) (by rw [h3]; exact hi)).trans h2, (hf.old b (blk_lt h2)).trans h3, h4, h5⟩
theorem ST.keptS {S : Nat → Prop} {own own' : Nat → Nat} {i : Nat} {w w' : World} {pv : Value} {st : St} (h : ST own i w pv st) (hf : FrS S own own' w w') (hi : ¬ S i) : ST own' i w' pv st := by
  cases st with
  | none => exact h
  | some p =>
    obtain ⟨g, sv, zs, front, e, hr⟩ := h
    refine ⟨g, sv, zs, front, e, (hf.block g (blk_lt hr.blk) (by rw [hr.lab]; exact hi)).trans hr.blk, (hf.old g (blk_lt hr.blk)).trans hr.lab, hr.r1, hr.r2, hr.len, ?_, hr.hold⟩
    rcases hr.row with h1 | ⟨b, h1, h2, h3, h4, h5⟩
    · exact .inl h1
    · exact .inr ⟨b, h1, (hf.block b (blk_lt h2) (by rw [h3]; exact hi)).trans h2, (hf.old b (blk_lt h2)).trans h3, h4, h5⟩
theorem SR.keptS {S : Nat → Prop} {own own' : Nat → Nat} {i : Nat} {w w' : World} {pv : Value} {st : St} (h : SR own i w pv st) (hf : FrS S own own' w w') (hi : ¬ S i) : SR own' i w' pv st := by
  cases st with
  | none => exact h
  | some p =>
    obtain ⟨g, sv, e, hr⟩ := h
    refine ⟨g, sv, e, (hf.block g (blk_lt hr.blk) (by rw [hr.lab]; exact hi)).trans hr.blk, (hf.old g (blk_lt hr.blk)).trans hr.lab, hr.r1, hr.r2, hr.len, ?_⟩
    rcases hr.row with h1 | ⟨b, off, cap, cur, h1, h2, hm, h3, h4, h5⟩
    · exact .inl h1
    · exact .inr ⟨b, off, cap, cur, h1, h2, hm, (hf.block b (blk_lt h3) (by rw [h4]; exact hi)).trans h3, (hf.old b (blk_lt h3)).trans h4, h5⟩

/-- Three rings that hold the same: of numbers, of things, the document's. -/
def Tri (a : Nat) (own : Nat → Nat) (W : World) (pr pt pq : Value) (st : St) : Prop := SI own a W pr st ∧ ST own (a + 1) W pt st ∧ SR own (a + 2) W pq st
def In3 (a j : Nat) : Prop := j = a ∨ j = a + 1 ∨ j = a + 2
theorem Tri.keptS {S : Nat → Prop} {own own' : Nat → Nat} {a : Nat} {w w' : World} {pr pt pq : Value} {st : St} (h : Tri a own w pr pt pq st) (hf : FrS S own own' w w') (h0 : ¬ S a) (h1 : ¬ S (a + 1)) (h2 : ¬ S (a + 2)) : Tri a own' w' pr pt pq st :=
  ⟨h.1.keptS hf h0, h.2.1.keptS hf h1, h.2.2.keptS hf h2⟩
theorem Tri.below {own : Nat → Nat} {a : Nat} {w w' : World} {pr pt pq : Value} {st : St} (h : Tri a own w pr pt pq st) (hb : Below w.heap.size w w') : Tri a own w' pr pt pq st := ⟨h.1.below hb, h.2.1.below hb, h.2.2.below hb⟩

/-- The act's block, and what has been left alone since w0. -/
structure En (a : Nat) (own0 : Nat → Nat) (w0 : World) (B : Nat) (k : Int) (o : Bool) (I X : Int) (own : Nat → Nat) (W : World) : Prop where
  nf : Nf own W
  fr : FrS (In3 a) own0 own w0 W
  bx : W.heap[B]? = some (.cells #[.int .i64 k, .bool o, .int .i64 I, .int .i64 X] 45 (0, 0))
  lb : own B = 0
section
variable {a : Nat} {own0 : Nat → Nat} {w0 : World} {B : Nat} {k : Int} {o : Bool} {I X : Int} {own own' : Nat → Nat} {W W' : World}
theorem En.call {i : Nat} (h : En a own0 w0 B k o I X own W) (f : Fr i own own' W W') (n : Nf own' W') (hi : In3 a i) (h0 : i ≠ 0) : En a own0 w0 B k o I X own' W' :=
  ⟨n, h.fr.trans (FrS.of f hi), (f.block B (blk_lt h.bx) (by rw [h.lb]; exact Ne.symm h0)).trans h.bx, (f.old B (blk_lt h.bx)).trans h.lb⟩
theorem En.below (h : En a own0 w0 B k o I X own W) (hb : Below W.heap.size W W') : En a own0 w0 B k o I X own W' :=
  ⟨h.nf.below hb.size, h.fr.trans (FrS.of_below hb), blk_below h.bx hb, h.lb⟩
theorem En.c2 (h : En a own0 w0 B k o I X own W) : W.cell? ⟨B, 2, none⟩ = some (.int .i64 I) := blk_cell h.bx rfl
theorem En.c3 (h : En a own0 w0 B k o I X own W) : W.cell? ⟨B, 3, none⟩ = some (.int .i64 X) := blk_cell h.bx rfl
theorem En.start (own : Nat → Nat) (w : World) (hn : Nf own w) : En a own w w.heap.size k o I X own (w.alloc (.cells #[.int .i64 k, .bool o, .int .i64 I, .int .i64 X] 45)) :=
  ⟨hn.below (by simp), FrS.of_below ((Below.refl _ w).alloc (Nat.le_refl _) _), heap_alloc_new w _, hn _ (Nat.le_refl _)⟩
end

/-- What an act makes of a ring. -/
def stp (k I X : Int) (st : St) : St := if k = 1 then pushS X st else if k = 2 then popFS st else if k = 3 then popBS st else if k = 5 then setS I X st else st

/-- What 'one' leaves. -/
def Po (a : Nat) (own : Nat → Nat) (w w' : World) (pr pt pq : Value) (st : St) : Prop := ∃ own', Nf own' w' ∧ FrS (In3 a) own own' w w' ∧ Tri a own' w' pr pt pq st

/-- A world that keeps S. -/
structure HW (S : World → Prop) where
  W : World
  h : S W
/-- A region that draws its order, whose own operations only read, and whose callees keep S: one walk in the order of the text. -/
theorem wp_region_quiet_in {P : Program} {S : World → Prop} {id : Nat} {Q : Exit → Act → World → Prop} {a : Act} {w : World} {l : List Oper} (hm : P.follows .mixedOrders = true) (hB : Region.lexB .any l.toArray = true) (hC : S w.drew)
    (h : wpQuiet P l.toArray (fun w' => ∃ x : HW S, w' = x.W) (fun a' => ∀ w', (∃ x : HW S, w' = x.W) → Q .normal a' w') l a) : (Code.region id l.toArray true).wp P Q a w :=
  wp_region_quiet (C := fun w' => ∃ x : HW S, w' = x.W) hm hB ⟨⟨w.drew, hC⟩, rfl⟩ (by simpa using h)
theorem Calls.quiet_in {P : Program} {S : World → Prop} {f : FuncId} {args : Array Value} {v : Value} (x : HW S) (h : Calls P f args x.W fun e w' => e = .returned v ∧ Below x.W.heap.size x.W w') (hS : ∀ W W', S W → Below W.heap.size W W' → S W') :
    Calls P f args x.W fun e w'' => e = .returned v ∧ ∃ y : HW S, w'' = y.W :=
  h.mono fun e w' ⟨he, hb⟩ => ⟨he, ⟨w', hS _ _ x.h hb⟩, rfl⟩

theorem cell_up {w w' : World} {p : Addr} {v : Value} (h : w.cell? p = some v) (hb : Below w.heap.size w w') : w'.cell? p = some v := (hb.cell (World.block_lt_of_cell? w p h)).trans h
/-- A world that extends V, and holds t at block D. -/
def S3 (V : World) (D : Nat) (t : Th) (W : World) : Prop := W.cell? ⟨D, 0, none⟩ = some (.string t.1) ∧ W.cell? ⟨D, 1, none⟩ = some (.int .i64 t.2.1) ∧ W.cell? ⟨D, 2, none⟩ = some (.int .i64 t.2.2) ∧ Below V.heap.size V W
theorem S3.keep {V W W' : World} {D : Nat} {t : Th} (h : S3 V D t W) (hb : Below W.heap.size W W') : S3 V D t W' :=
  ⟨cell_up h.1 hb, cell_up h.2.1 hb, cell_up h.2.2.1 hb, h.2.2.2.trans (hb.mono h.2.2.2.size)⟩
theorem below_drewN_then (V : World) {w' : World} (hb : Below V.heap.size V.drew w') : Below V.heap.size V w' := ⟨hb.os, hb.tape, hb.output, hb.size, hb.block⟩

set_option maxRecDepth 100000 in
set_option maxHeartbeats 1000000 in
theorem one1 (a : Nat) (own : Nat → Nat) (w : World) (pr pt pq : Value) (st : St) (o : Bool) (I X : Int) (hn : Nf own w) (ha : a ≠ 0) (hT : Tri a own w pr pt pq st) :
    Calls Try.prog 18 #[pr, pt, pq, .agg #[.int .i64 1, .bool o, .int .i64 I, .int .i64 X]] w fun e w' => e = .returned (.bool true) ∧ Po a own w w' pr pt pq (pushS X st) := by
  have hE := En.start (a := a) (k := 1) (o := o) (I := I) (X := X) own w hn
  have hB : Below w.heap.size w (w.alloc (.cells #[.int .i64 1, .bool o, .int .i64 I, .int .i64 X] 45)) := (Below.refl _ w).alloc (Nat.le_refl _) _
  have hT0 := hT.below hB
  clear hT hB hn
  have EQ := eqA
  go_enter Try.func18, Try.ntmps18
  go_wp2_with fail
  generalize w.alloc (.cells #[.int .i64 1, .bool o, .int .i64 I, .int .i64 X] 45) = W at *
  generalize w.heap.size = B at *
  refine (pushR_st X hT0.2.2 hE.nf).mono ?_
  rintro e w1 ⟨rfl, o1, n1, f1, s1⟩
  have e1 := hE.call f1 n1 (.inr (.inr rfl)) (by omega)
  have i1 := hT0.1.kept f1 (by omega)
  have t1 := hT0.2.1.kept f1 (by omega)
  clear hE hT0 n1 f1
  have c3 := e1.c3
  generalize hE : pushE st = E at *
  have HE : Hid (pushE st = E) := hE
  clear hE
  go_wp2_with fail
  refine (pushI_st X i1 e1.nf).mono ?_
  rintro e w2 ⟨rfl, o2, n2, f2, i2⟩
  rw [HE.out]
  have e2 := e1.call f2 n2 (.inl rfl) (by omega)
  have s2 := s1.kept f2 (by omega)
  have t2 := t1.kept f2 (by omega)
  clear e1 c3 i1 s1 t1 n2 f2
  have c3 := e2.c3
  go_wp2_with fail
  refine (thing_any X w2).mono ?_
  rintro e w3 ⟨rfl, hb3⟩
  have e3 := e2.below hb3
  have i3 := i2.below hb3
  have s3 := s2.below hb3
  have t3 := t2.below hb3
  clear e2 c3 i2 s2 t2 hb3
  go_wp2_with fail
  refine (pushT_st X t3 e3.nf (by omega)).mono ?_
  rintro e w4 ⟨rfl, o4, n4, f4, t4⟩
  rw [HE.out]
  have e4 := e3.call f4 n4 (.inr (.inl rfl)) (by omega)
  have HEND : Hid (Po a own w w4 pr pt pq (pushS X st)) := ⟨o4, n4, e4.fr, i3.kept f4 (by omega), t4, s3.kept f4 (by omega)⟩
  clear e3 i3 s3 t3 e4 n4 f4 t4
  go_wp2_with fail
  go_ret
  exact ⟨rfl, HEND.out⟩

end Go.Proofs.Ytjibpdncginkdaa
