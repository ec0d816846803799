import Derived.BigRegion
import Derived.Deep.Cut
import Derived.Deep.CutRange
import Derived.Test.YtojjfbnpjhjidaaGreatDoorM14
import Derived.Test.YtojjfbnpjhjidaaGreatDoorM29
set_option linter.unusedVariables false
set_option linter.unusedSimpArgs false
namespace Go.Proofs.YtojjfbnpjhjidaaGreatDoor.Lx
open Go.RowKit
def FB (W : World) (b : Nat) (v : Value) (e a : Int) : Prop := W.heap[b]? = some (.cells #[v, .int .i64 e, .int .i64 a] 70 (0, 0))
structure FI (w0 W : World) (s : ByteArray) (u : Nat) (v : Value) (l : List Tv) : Prop where
  bel : Below w0.heap.size w0 W
  b0 : FB W w0.heap.size (.slice none 0 0) 0 0
  b1 : FB W (w0.heap.size + 1) v 0 0
  row : Rt w0.heap.size W v l
  pl : Box3 W (w0.heap.size + 1 + 1) u (pL s u) (pC s u)
theorem FI.below {w0 W W' : World} {s : ByteArray} {u : Nat} {v : Value} {l : List Tv} (h : FI w0 W s u v l) (hb : Below W.heap.size W W') : FI w0 W' s u v l :=
  ⟨h.bel.trans (hb.mono h.bel.size), blk_below h.b0 hb, blk_below h.b1 hb, h.row.below hb, h.pl.below hb⟩
theorem FI.start (w : World) (s : ByteArray) : FI w (((w.alloc (.cells #[.slice none 0 0, .int .i64 0, .int .i64 0] 70)).alloc (.cells #[.slice none 0 0, .int .i64 0, .int .i64 0] 70)).alloc (.cells #[.int .i64 0, .int .i64 1, .int .i64 1] 26)) s 0 (.slice none 0 0) [] := by
  have hz := p_zero s
  have h1 : FB (w.alloc (.cells #[.slice none 0 0, .int .i64 0, .int .i64 0] 70)) w.heap.size (.slice none 0 0) 0 0 := World.alloc_heap_new w _
  have h2 : FB ((w.alloc (.cells #[.slice none 0 0, .int .i64 0, .int .i64 0] 70)).alloc (.cells #[.slice none 0 0, .int .i64 0, .int .i64 0] 70)) (w.heap.size + 1) (.slice none 0 0) 0 0 := by
    have := World.alloc_heap_new (w.alloc (.cells #[.slice none 0 0, .int .i64 0, .int .i64 0] 70)) (.cells #[.slice none 0 0, .int .i64 0, .int .i64 0] 70)
    rw [World.size_alloc] at this
    exact this
  have b : ∀ (W : World) (o : Obj), Below W.heap.size W (W.alloc o) := fun W o => (Below.refl _ _).alloc (Nat.le_refl _) _
  refine ⟨(((Below.refl _ w).alloc (Nat.le_refl _) _).alloc (by simp) _).alloc (by simp; omega) _, blk_below (blk_below h1 (b _ _)) (b _ _), blk_below h2 (b _ _), rt_nil _ _, ?_⟩
  rw [hz.1, hz.2]
  have := Box3.new ((w.alloc (.cells #[.slice none 0 0, .int .i64 0, .int .i64 0] 70)).alloc (.cells #[.slice none 0 0, .int .i64 0, .int .i64 0] 70)) 0 1 1
  rw [World.size_alloc, World.size_alloc] at this
  exact this
def FV (w0 : World) (s : ByteArray) (e : Ending) (w' : World) : Prop := ∃ v, e = .returned (.agg #[v, .int .i64 (scn s).2.1, .int .i64 (scn s).2.2]) ∧ Rt w0.heap.size w' v ((scn s).1.map (tv s)) ∧ Below w0.heap.size w0 w'
theorem FI.done {w0 W : World} {s : ByteArray} {u : Nat} {v : Value} {l : List Tv} (h : FI w0 W s u v l) (E A : Int) :
    FB (((((W.setCell ⟨w0.heap.size + 1, 1, none⟩ (.int .i64 E)).setCell ⟨w0.heap.size + 1, 2, none⟩ (.int .i64 A)).setCell ⟨w0.heap.size, 0, none⟩ v).setCell ⟨w0.heap.size, 1, none⟩ (.int .i64 E)).setCell ⟨w0.heap.size, 2, none⟩ (.int .i64 A)) w0.heap.size v E A ∧
    Rt w0.heap.size (((((W.setCell ⟨w0.heap.size + 1, 1, none⟩ (.int .i64 E)).setCell ⟨w0.heap.size + 1, 2, none⟩ (.int .i64 A)).setCell ⟨w0.heap.size, 0, none⟩ v).setCell ⟨w0.heap.size, 1, none⟩ (.int .i64 E)).setCell ⟨w0.heap.size, 2, none⟩ (.int .i64 A)) v l ∧
    Below w0.heap.size w0 (((((W.setCell ⟨w0.heap.size + 1, 1, none⟩ (.int .i64 E)).setCell ⟨w0.heap.size + 1, 2, none⟩ (.int .i64 A)).setCell ⟨w0.heap.size, 0, none⟩ v).setCell ⟨w0.heap.size, 1, none⟩ (.int .i64 E)).setCell ⟨w0.heap.size, 2, none⟩ (.int .i64 A)) := by
  have n1 := h.row.ne h.b1 (by decide)
  have n0 := h.row.ne h.b0 (by decide)
  refine ⟨?_, ?_, ?_⟩
  · have x1 := blk_other (b := w0.heap.size + 1) (k := 1) h.b0 (by omega) (.int .i64 E)
    have x2 := blk_other (b := w0.heap.size + 1) (k := 2) x1 (by omega) (.int .i64 A)
    exact blk_set (blk_set (blk_set x2 0 v) 1 (.int .i64 E)) 2 (.int .i64 A)
  · exact ((((h.row.kp (Kp.set _ _ 1 _) n1).kp (Kp.set _ _ 2 _) n1).kp (Kp.set _ _ 0 _) n0).kp (Kp.set _ _ 1 _) n0).kp (Kp.set _ _ 2 _) n0
  · exact ((((h.bel.setCell (p := ⟨w0.heap.size + 1, 1, none⟩) (by simp) _).setCell (p := ⟨w0.heap.size + 1, 2, none⟩) (by simp) _).setCell (p := ⟨w0.heap.size, 0, none⟩) (Nat.le_refl _) _).setCell (p := ⟨w0.heap.size, 1, none⟩) (Nat.le_refl _) _).setCell (p := ⟨w0.heap.size, 2, none⟩) (Nat.le_refl _) _
theorem FI.done0 {w0 W : World} {s : ByteArray} {u : Nat} {v : Value} {l : List Tv} (h : FI w0 W s u v l) :
    FB (((W.setCell ⟨w0.heap.size, 0, none⟩ v).setCell ⟨w0.heap.size, 1, none⟩ (.int .i64 0)).setCell ⟨w0.heap.size, 2, none⟩ (.int .i64 0)) w0.heap.size v 0 0 ∧
    Rt w0.heap.size (((W.setCell ⟨w0.heap.size, 0, none⟩ v).setCell ⟨w0.heap.size, 1, none⟩ (.int .i64 0)).setCell ⟨w0.heap.size, 2, none⟩ (.int .i64 0)) v l ∧
    Below w0.heap.size w0 (((W.setCell ⟨w0.heap.size, 0, none⟩ v).setCell ⟨w0.heap.size, 1, none⟩ (.int .i64 0)).setCell ⟨w0.heap.size, 2, none⟩ (.int .i64 0)) := by
  have n0 := h.row.ne h.b0 (by decide)
  refine ⟨?_, ?_, ?_⟩
  · exact blk_set (blk_set (blk_set h.b0 0 v) 1 (.int .i64 0)) 2 (.int .i64 0)
  · exact ((h.row.kp (Kp.set _ _ 0 _) n0).kp (Kp.set _ _ 1 _) n0).kp (Kp.set _ _ 2 _) n0
  · exact ((h.bel.setCell (p := ⟨w0.heap.size, 0, none⟩) (Nat.le_refl _) _).setCell (p := ⟨w0.heap.size, 1, none⟩) (Nat.le_refl _) _).setCell (p := ⟨w0.heap.size, 2, none⟩) (Nat.le_refl _) _
theorem FB.cells {W : World} {b : Nat} {v : Value} {e a : Int} (h : FB W b v e a) : W.cell? ⟨b, 0, none⟩ = some v ∧ W.cell? ⟨b, 1, none⟩ = some (.int .i64 e) ∧ W.cell? ⟨b, 2, none⟩ = some (.int .i64 a) ∧ W.frozen? ⟨b, 0, none⟩ = false ∧ W.frozen? ⟨b, 1, none⟩ = false ∧ W.frozen? ⟨b, 2, none⟩ = false ∧ b < W.heap.size :=
  ⟨blk_cell h rfl, blk_cell h rfl, blk_cell h rfl, blk_frozen h, blk_frozen h, blk_frozen h, blk_lt h⟩
def TB (W : World) (b : Nat) (d : Tv) : Prop := W.heap[b]? = some (.cells #[.int .u8 d.k, .string d.t, .int .i64 d.a, .int .i64 d.l, .int .i64 d.c, .int .i64 d.f] 50 (0, 0))
theorem TB.cells {W : World} {b : Nat} {d : Tv} (h : TB W b d) : W.cell? ⟨b, 0, none⟩ = some (.int .u8 d.k) ∧ W.cell? ⟨b, 1, none⟩ = some (.string d.t) ∧ W.cell? ⟨b, 2, none⟩ = some (.int .i64 d.a) ∧ W.cell? ⟨b, 3, none⟩ = some (.int .i64 d.l) ∧ W.cell? ⟨b, 4, none⟩ = some (.int .i64 d.c) ∧ W.cell? ⟨b, 5, none⟩ = some (.int .i64 d.f) ∧ W.frozen? ⟨b, 0, none⟩ = false ∧ W.frozen? ⟨b, 1, none⟩ = false ∧ b < W.heap.size :=
  ⟨blk_cell h rfl, blk_cell h rfl, blk_cell h rfl, blk_cell h rfl, blk_cell h rfl, blk_cell h rfl, blk_frozen h, blk_frozen h, blk_lt h⟩
theorem blk_ne {W : World} {b c : Nat} {xs ys : Array Value} {T U : TypeId} {f g : Nat × Nat} (h : W.heap[b]? = some (.cells xs T f)) (h2 : W.heap[c]? = some (.cells ys U g)) (hT : T ≠ U) : b ≠ c := by
  rintro rfl
  rw [h] at h2
  cases h2
  exact hT rfl
theorem FI.move {w0 W : World} {s : ByteArray} {u : Nat} {v : Value} {l : List Tv} (h : FI w0 W s u v l) (a : Nat) : FI w0 (((W.setCell ⟨w0.heap.size + 1 + 1, 0, none⟩ (.int .i64 a)).setCell ⟨w0.heap.size + 1 + 1, 1, none⟩ (.int .i64 (pL s a))).setCell ⟨w0.heap.size + 1 + 1, 2, none⟩ (.int .i64 (pC s a))) s a v l := by
  have n2 := h.row.ne h.pl (by decide)
  refine ⟨((h.bel.setCell (p := ⟨w0.heap.size + 1 + 1, 0, none⟩) (by simp; omega) _).setCell (p := ⟨w0.heap.size + 1 + 1, 1, none⟩) (by simp; omega) _).setCell (p := ⟨w0.heap.size + 1 + 1, 2, none⟩) (by simp; omega) _, ?_, ?_, ?_, ((h.pl.set0 _).set1 _).set2 _⟩
  · exact blk_other (blk_other (blk_other h.b0 (by omega) _) (by omega) _) (by omega) _
  · exact blk_other (blk_other (blk_other h.b1 (by omega) _) (by omega) _) (by omega) _
  · exact ((h.row.kp (Kp.set _ _ 0 _) n2).kp (Kp.set _ _ 1 _) n2).kp (Kp.set _ _ 2 _) n2
theorem Box2.other {W : World} {b c k : Nat} {x y : Int} (h : Box2 W b x y) (hne : b ≠ c) (v : Value) : Box2 (W.setCell ⟨c, k, none⟩ v) b x y := blk_other h hne v
theorem FI.set {w0 W : World} {s : ByteArray} {u : Nat} {v : Value} {l : List Tv} (h : FI w0 W s u v l) {g k : Nat} (x : Value) (h0 : w0.heap.size + 1 + 1 < g) (hr : ∀ j, v.ownBlock = some j → j ≠ g) : FI w0 (W.setCell ⟨g, k, none⟩ x) s u v l :=
  ⟨h.bel.setCell (p := ⟨g, k, none⟩) (by simp; omega) _, blk_other h.b0 (by omega) _, blk_other h.b1 (by omega) _, h.row.kp (Kp.set _ _ k _) hr, blk_other h.pl (by omega) _⟩
theorem FI.app {w0 W W' : World} {s : ByteArray} {u : Nat} {v v' : Value} {l l' : List Tv} (h : FI w0 W s u v l) (hb : Below w0.heap.size W W') (hg : W.grownBy W' v.ownBlock) (hr : Rt w0.heap.size W' v' l') : FI w0 (W'.setCell ⟨w0.heap.size + 1, 0, none⟩ v') s u v' l' := by
  have b0 := (Kp.of_grown hg).blk h.b0 (fun e => h.row.ne h.b0 (by decide) _ e.symm rfl)
  have b1 := (Kp.of_grown hg).blk h.b1 (fun e => h.row.ne h.b1 (by decide) _ e.symm rfl)
  have b2 := (Kp.of_grown hg).blk h.pl (fun e => h.row.ne h.pl (by decide) _ e.symm rfl)
  refine ⟨(h.bel.trans hb).setCell (p := ⟨w0.heap.size + 1, 0, none⟩) (by simp) _, blk_other b0 (by omega) _, blk_set b1 0 v', hr.kp (Kp.set _ _ 0 _) (hr.ne b1 (by decide)), blk_other b2 (by omega) _⟩
def lenAt (w : World) (g : Nat) : Nat := match w.cell? ⟨g, 1, none⟩ with | some (.string t) => t.size | _ => 0
theorem TB.len {W : World} {b : Nat} {d : Tv} (h : TB W b d) : lenAt W b = d.t.size := by unfold lenAt; rw [h.cells.2.1]
abbrev AF (w0 W : World) (s : ByteArray) (u g8 : Nat) (v : Value) (L : List Tv) (d : Tv) (p : Int) : Prop :=
    ∀ {ops : Array Oper} {rest : List Oper} {o : Oper} {a : Act} {Q : Exit → Act → World → Prop} (hgd : o.guard = none) (sO xO : Operand) (ho : o.op = .call { callee := .builtin .append, args := #[sO, xO], argTypes := #[44, 44] }) (hs : a.eval sO = v) (hx : a.eval xO = .slice (some ⟨W.heap.size, 0, none⟩) 1 1)
    (h : ∀ vp vc w', FI w0 (w'.setCell ⟨w0.heap.size + 1, 0, none⟩ (.slice vp (L.length + 1) vc)) s u (.slice vp (L.length + 1) vc) (L ++ [d]) → FB w' (w0.heap.size + 1) v 0 0 → Box2 w' g8 p 0 → wpList Tryz.prog ops Q rest (a.put o.dst (.slice vp (L.length + 1) vc)) w'),
    wpList Tryz.prog ops Q (o :: rest) a (W.alloc (.cells #[.int .u8 d.k, .string d.t, .int .i64 d.a, .int .i64 d.l, .int .i64 d.c, .int .i64 d.f] 50))
theorem app_find {w0 W : World} {s : ByteArray} {u g8 : Nat} {v : Value} {L : List Tv} {d : Tv} {p : Int} (F9 : FI w0 W s u v L) (k9 : Box2 W g8 p 0) (hl : L.length ≤ 2147483647) : AF w0 W s u g8 v L d p := by
  intro ops rest o a Q hgd sO xO ho hs hx h
  have Fa := F9.below ((Below.refl _ _).alloc (Nat.le_refl _) (.cells #[.int .u8 d.k, .string d.t, .int .i64 d.a, .int .i64 d.l, .int .i64 d.c, .int .i64 d.f] 50))
  have ka := k9.below ((Below.refl _ _).alloc (Nat.le_refl _) (.cells #[.int .u8 d.k, .string d.t, .int .i64 d.a, .int .i64 d.l, .int .i64 d.c, .int .i64 d.f] 50))
  refine app_tok hgd sO xO ho w0.heap.size v L d hs Fa.row W.heap.size 1 hx (World.alloc_heap_new _ _) hl Fa.bel.size ?_
  intro v' w' hr hb hg _
  obtain ⟨vp, vc, rfl, hv1, hv2⟩ := hr.shape
  have F10 := Fa.app hb hg hr
  rw [show (L ++ [d]).length = L.length + 1 by simp] at F10 ⊢
  exact h vp vc w' F10 ((Kp.of_grown hg).blk Fa.b1 (fun e => Fa.row.ne Fa.b1 (by decide) _ e.symm rfl)) ((Kp.of_grown hg).blk ka (fun e => Fa.row.ne ka (by decide) _ e.symm rfl))
end Go.Proofs.YtojjfbnpjhjidaaGreatDoor.Lx
