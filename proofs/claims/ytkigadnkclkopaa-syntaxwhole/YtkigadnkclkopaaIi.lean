import Derived.Test.YtkigadnkclkopaaIe
import Derived.Test.YtkigadnkclkopaaIh
import Derived.Test.YtkigadnkclkopaaLf2
import Derived.Sort.QuietIn
import Derived.Deep.CutRange
set_option linter.unusedVariables false
set_option linter.unusedSimpArgs false
namespace Go.Proofs.Ytkigadnkclkopaa
open Go.RowKit Go.Shelf

/-! TreeTells. -/
/-- Inside a round of a loop a region without defers goes as outside. -/
theorem any_round {n : Nat} {P : Program} {md : Region.Mode} {ops : Array Oper} {Q : Exit → Act → World → Prop} {l : Nat} (hnd : ops.all (fun o => match o.op with | .defer _ => false | _ => true) = true) :
    ∀ {fuel : Nat} {listed : Array Bool} {a : Act} {w : World}, wpAnyIn Fence.wide n P md ops Q fuel listed a w → wpAnyIn (Fence.wide.inRound l) n P md ops Q fuel listed a w := by
  have key : ∀ (i : Nat) (K K' : Act → World → Prop) (a : Act) (w : World), (∀ a w, K a w → K' a w) → wpOpIn Fence.wide n P ops Q i K a w → wpOpIn (Fence.wide.inRound l) n P ops Q i K' a w := by
    intro i K K' a w hKK h
    have h2 := wpOpIn_mono hKK h
    unfold wpOpIn at h2 ⊢
    split at h2
    · exact h2
    · rename_i o ho
      have hno : ∀ c, o.op ≠ .defer c := by
        intro c hc
        have := (Array.all_eq_true.1 hnd) i (Array.getElem?_eq_some_iff.1 ho).1
        rw [(Array.getElem?_eq_some_iff.1 ho).2, hc] at this
        cases this
      split
      · rename_i hw
        rw [if_pos hw] at h2
        refine ⟨h2.1, ?_⟩
        have e1 : o.semAt (Fence.wide.inRound l).round a.eval = execOp a.eval o := Oper.semAt_some l _ _ hno
        have e2 : o.semAt Fence.wide.round a.eval = execOp a.eval o := rfl
        have h3 := h2.2
        rw [e2] at h3
        rw [e1]
        exact h3
      · rename_i hw
        rw [if_neg hw] at h2
        exact h2
  intro fuel
  induction fuel with
  | zero => intro listed a w h; exact h
  | succ f ih => intro listed a w h; exact ⟨h.1, fun i hi => key i _ _ a w (fun _ _ => ih) (h.2 i hi)⟩
/-- A region that reads alone, in a round. -/
theorem quiet_round {n : Nat} {P : Program} {r : Nat} {id : Nat} {Q : Exit → Act → World → Prop} {a : Act} {w : World} {l : List Oper} (hm : P.follows .mixedOrders = true) (hB : Region.lexB .any l.toArray = true) (hnd : l.toArray.all (fun o => match o.op with | .defer _ => false | _ => true) = true)
    (h : wpQuietIn Fence.wide n P l.toArray (fun w' => ∃ n, w' = w.drewN n) (fun a' => ∀ w', (∃ n, w' = w.drewN n) → Q .normal a' w') l a) : (Code.region id l.toArray true).wpIn (Fence.wide.inRound r) n P Q a w := by
  simp only [Region.lexB, Bool.and_eq_true] at hB
  refine wpIn_region_any hm (any_round hnd (wpAnyIn_of_quiet (C := fun w' => ∃ n, w' = w.drewN n) (Q := fun a' => ∀ w', (∃ n, w' = w.drewN n) → Q .normal a' w') rfl (fun _ w' hw' h => h w' hw') _ _ _ _ ⟨1, rfl⟩ ?_))
  have := wpAnyQIn_lex (F := Fence.wide) (n := n) (P := P) (C := fun w' => ∃ n, w' = w.drewN n) (md := .any) hB.1 l 0 (Array.replicate l.toArray.size false) a (by simp) (by simpa using hB.2) h
  simpa using this
theorem toks_len : ∀ n : Nd, (toks n).length ≤ nsz n
  | .mk k d c => by
    simp only [toks, nsz]
    split
    · simp
    · have := toksL_len c
      omega
where toksL_len : ∀ c : List Nd, (toksL c).length ≤ nszL c
  | [] => by simp [toksL]
  | x :: r => by
    have h1 := toks_len x
    have h2 := toksL_len r
    simp only [toksL, nszL, List.length_append]
    omega
abbrev InB (k : Int) : Obj := .cells #[.int .i64 k] 3
abbrev BoB (b : Bool) : Obj := .cells #[.bool b] 4
theorem fn_nil (f : Nat) (lb : Array Value) (w : World) : Sem.run Try.prog (binOp BinOp.eql 37 (Value.func (Fn.func f) #[] lb) Value.nilFunc) w = .ok (.bool false) w := by
  first | rfl | kernel_rfl | (simp [binOp, go_sem]; done)
/-- A row's block, whatever lies in it. -/
def Rw (g m : Nat) (V : World) : Prop := ∃ cur : Array Value, V.heap[g]? = some (.cells cur 63 (0, 0)) ∧ m ≤ cur.size
theorem Rw.slot {g m i : Nat} {V : World} (h : Rw g m V) (hi : i < m) : ∃ u, V.cell? ⟨g, i, none⟩ = some u := by
  obtain ⟨cur, h1, h2⟩ := h
  exact ⟨_, blk_cell h1 (Array.getElem?_eq_getElem (by omega))⟩
theorem Rw.frozen {g m : Nat} {V : World} (h : Rw g m V) (i : Nat) : V.frozen? ⟨g, i, none⟩ = false := by
  obtain ⟨cur, h1, h2⟩ := h
  exact blk_frozen h1
theorem Rw.lt {g m : Nat} {V : World} (h : Rw g m V) : g < V.heap.size := by
  obtain ⟨cur, h1, h2⟩ := h
  exact blk_lt h1
theorem Rw.set {g m : Nat} {V : World} (h : Rw g m V) (i : Nat) (u : Value) : Rw g m (V.setCell ⟨g, i, none⟩ u) := by
  obtain ⟨cur, h1, h2⟩ := h
  exact ⟨_, blk_set h1 i u, by simpa using h2⟩
theorem Rw.below {g m : Nat} {V V' : World} (h : Rw g m V) (hb : Below V.heap.size V V') : Rw g m V' := by
  obtain ⟨cur, h1, h2⟩ := h
  exact ⟨cur, blk_below h1 hb, h2⟩
/-- What the overwriting of a row has in hand. -/
def Sp (B : World) (po : Option Addr) (m : Nat) (V : World) : Prop := Below B.heap.size B V ∧ (m = 0 ∨ ∃ g, po = some ⟨g, 0, none⟩ ∧ B.heap.size ≤ g ∧ Rw g m V)
theorem Sp.below {B : World} {po : Option Addr} {m : Nat} {V V' : World} (h : Sp B po m V) (hb : Below V.heap.size V V') : Sp B po m V' :=
  ⟨h.1.trans (hb.mono h.1.size), h.2.imp id fun ⟨g, a, b, c⟩ => ⟨g, a, b, c.below hb⟩⟩
theorem Sp.of {B : World} {po : Option Addr} {cap : Nat} {E : List Ev} {V : World} {l : Nat} (hl : E.length = l) (h : BI B (.slice po l cap) E V) : Sp B po (l * 8) V := by
  subst hl
  refine ⟨h.bel, ?_⟩
  rcases h.re.2 with ⟨e, h0⟩ | ⟨g, c, cur, e, _, h3, h4, h5, h6, h7⟩
  · exact .inl (by omega)
  · cases e
    exact .inr ⟨g, rfl, h.vB g rfl, cur, h3, by rw [h6]; exact Nat.mul_le_mul_right _ h4⟩
theorem Sp.put {B : World} {g m : Nat} {V : World} (hb : Below B.heap.size B V) (hg : B.heap.size ≤ g) (h : Rw g m V) (i0 i1 i2 i3 i4 i5 i6 i7 : Nat) (u0 u1 u2 u3 u4 u5 u6 u7 : Value) :
    Sp B (some ⟨g, 0, none⟩) m ((((((((V.setCell ⟨g, i0, none⟩ u0).setCell ⟨g, i1, none⟩ u1).setCell ⟨g, i2, none⟩ u2).setCell ⟨g, i3, none⟩ u3).setCell ⟨g, i4, none⟩ u4).setCell ⟨g, i5, none⟩ u5).setCell ⟨g, i6, none⟩ u6).setCell ⟨g, i7, none⟩ u7) :=
  ⟨(((((((hb.setCell hg _).setCell hg _).setCell hg _).setCell hg _).setCell hg _).setCell hg _).setCell hg _).setCell hg _, .inr ⟨g, rfl, hg, (((((((h.set _ _).set _ _).set _ _).set _ _).set _ _).set _ _).set _ _).set _ _⟩⟩
end Go.Proofs.Ytkigadnkclkopaa
