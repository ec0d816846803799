import Derived.Test.YtfkegaencoodbaaDoorPc
set_option linter.unusedVariables false
set_option linter.unusedSimpArgs false
namespace Go.Proofs.YtfkegaencoodbaaDoor
open Go.RowKit Go.Shelf
attribute [local go_sem] Oper.semAt_some

/-- A source's line, and whether there is one. -/
def lineS (s : ByteArray) (n : Int) : ByteArray := if 1 ≤ n ∧ n ≤ LN s then ln s (n - 1).toNat else ⟨#[]⟩
def lineB (s : ByteArray) (n : Int) : Bool := decide (1 ≤ n ∧ n ≤ LN s)

theorem upto_at (s : ByteArray) (k i : Nat) (h : i < k) : (((i + 1 : Nat) : Int), ln s i) ∈ upto s k := by
  unfold upto; exact List.mem_map.2 ⟨i, List.mem_range.2 h, rfl⟩

theorem line_none {s : ByteArray} {n : Int} {xs : List Ln} (hx : xs.map (·.1) = upto s (LN s)) (hn : ∀ y ∈ xs, y.1.1 ≠ n) : lineS s n = ⟨#[]⟩ ∧ lineB s n = false := by
  have h : ¬ (1 ≤ n ∧ n ≤ LN s) := by
    rintro ⟨h1, h2⟩
    have hm := upto_at s (LN s) (n - 1).toNat (by omega)
    rw [← hx] at hm
    obtain ⟨y, hy, he⟩ := List.mem_map.1 hm
    refine hn y hy ?_
    rw [he]
    show (((n - 1).toNat + 1 : Nat) : Int) = n
    omega
  exact ⟨if_neg h, decide_eq_false h⟩

theorem line_some {s : ByteArray} {n : Int} {k : Nat} {pre : List Ln} {y : Ln} (hk : k ≤ LN s) (hx : pre.map (·.1) = upto s k) (hl : pre.getLast? = some y) (hy : y.1.1 = n) : lineS s n = y.1.2 ∧ lineB s n = true := by
  have h1 : (pre.map (·.1)).getLast? = some y.1 := by rw [List.getLast?_map, hl]; rfl
  rw [hx] at h1
  cases k with
  | zero => simp [upto] at h1
  | succ j =>
    rw [upto_succ, List.getLast?_append] at h1
    simp at h1
    have e1 : y.1.1 = ((j : Int) + 1) := by rw [← h1]
    have e2 : y.1.2 = ln s j := by rw [← h1]
    have h : 1 ≤ n ∧ n ≤ LN s := by omega
    refine ⟨?_, decide_eq_true h⟩
    unfold lineS
    rw [if_pos h, e2, show (n - 1).toNat = j by omega]

theorem box_kept {W W' : World} {row : Option Nat} {B : Nat} {t : TypeId} {v : Value} (h : Boxed W B t v) (hg : W.grownBy W' row) (hr : ∀ r, row = some r → ∃ o : Obj, W.heap[r]? = some o ∧ o.isCells = false) : Boxed W' B t v :=
  h.kept hg (fun e => by
    obtain ⟨o, ho, hc⟩ := hr B e.symm
    rw [show W.heap[B]? = _ from h] at ho; cases ho; cases hc)
theorem box_put {W : World} {B : Nat} {t : TypeId} {v : Value} (h : Boxed W B t v) {D : Nat} {o o' : Obj} (hK : W.heap[D]? = some o) (ho : o.isCells = false) : Boxed (W.putObj D o') B t v :=
  box_kept h (grownBy_putObj' W D o') (fun r e => by cases e; exact ⟨o, hK, ho⟩)

set_option maxRecDepth 100000 in
set_option maxHeartbeats 2000000 in
theorem line_any (s : ByteArray) (n : Int) (w : World) (hs : s.size ≤ 2147483647) :
    Calls Tryd.prog 33 #[.string s, .int .i64 n] w fun e w' => e = .returned (.tuple #[.string (lineS s n), .bool (lineB s n)]) ∧ Below w.heap.size w w' := by
  refine (callsIn_wide (n := 9)).1 ?_
  refine callsIn_of_wp_marks Tryd.func33 rfl trivial ?_ rfl
  simp only [Tryd.ntmps33, List.size_toArray, List.length_cons, List.length_nil, Nat.reduceAdd, Nat.reduceSub, Array.replicate_succ, Array.replicate_zero, List.push_toArray, List.append_toArray, List.nil_append, List.cons_append]
  gi_wp2
  refine ⟨trivial, ?_⟩
  refine (callsIn_wide.2 (lines_any _ _)).mono ?_
  rintro e w1 ⟨rfl, rfl⟩
  gi_wp2
  obtain ⟨W0, hW0⟩ : ∃ W0, ((((w.alloc (Obj.cells #[Value.int IntKind.i64 n] 3)).alloc (Obj.cells #[Value.string { data := #[] }] 9)).alloc (Obj.cells #[Value.bool false] 4)).alloc (Obj.cells #[Value.string s] 9)) = W0 := ⟨_, rfl⟩
  have hsz : W0.heap.size = w.heap.size + 1 + 1 + 1 + 1 := by rw [← hW0]; simp
  have b0 : Boxed W0 w.heap.size 3 (.int .i64 n) := by rw [← hW0]; exact (((Boxed.new w 3 _).alloc _).alloc _).alloc _
  have b1 : Boxed W0 (w.heap.size + 1) 9 (.string ⟨#[]⟩) := by rw [← hW0]; have := ((Boxed.new (w.alloc (Obj.cells #[Value.int IntKind.i64 n] 3)) 9 (.string ⟨#[]⟩)).alloc (Obj.cells #[Value.bool false] 4)).alloc (Obj.cells #[Value.string s] 9); rw [World.size_alloc] at this; exact this
  have b2 : Boxed W0 (w.heap.size + 1 + 1) 4 (.bool false) := by rw [← hW0]; have := (Boxed.new ((w.alloc (Obj.cells #[Value.int IntKind.i64 n] 3)).alloc (Obj.cells #[Value.string { data := #[] }] 9)) 4 (.bool false)).alloc (Obj.cells #[Value.string s] 9); rw [World.size_alloc, World.size_alloc] at this; exact this
  have b3 : Boxed W0 (w.heap.size + 1 + 1 + 1) 9 (.string s) := by rw [← hW0]; have := Boxed.new (((w.alloc (Obj.cells #[Value.int IntKind.i64 n] 3)).alloc (Obj.cells #[Value.string { data := #[] }] 9)).alloc (Obj.cells #[Value.bool false] 4)) 9 (.string s); rw [World.size_alloc, World.size_alloc, World.size_alloc] at this; exact this
  have hB0 : Below w.heap.size w W0 := by rw [← hW0]; exact ((((Below.refl _ w).alloc (Nat.le_refl _) _).alloc (by simp) _).alloc (by simp; omega) _).alloc (by simp; omega) _
  rw [hW0]
  clear hW0
  refine wpIn_rangeFunc_ownF rfl (by omega) (gf := 57) (lb := #[.pointer (some ⟨w.heap.size + 1 + 1 + 1, 0, none⟩)]) rfl trivial (enters_of Tryd.func57 (by kernel_rfl) rfl)
    (lines_stops 8 (by omega) (w.heap.size + 1 + 1 + 1) s hs W0 (by omega) b3.cell) (fun _ _ => trivial) (fun _ _ _ _ _ _ _ _ => trivial) (Below.refl _ _) (fun _ => rfl)
    (fun pre W => ((∀ y ∈ pre, y.1.1 ≠ n) ∧ Boxed W w.heap.size 3 (.int .i64 n) ∧ Boxed W (w.heap.size + 1) 9 (.string ⟨#[]⟩) ∧ Boxed W (w.heap.size + 1 + 1) 4 (.bool false)) ∧ Below w.heap.size w W)
    (fun c pre W => (c = .ret ∧ ∃ y : Ln, pre.getLast? = some y ∧ y.1.1 = n ∧ Boxed W (w.heap.size + 1) 9 (.string y.1.2) ∧ Boxed W (w.heap.size + 1 + 1) 4 (.bool true)) ∧ Below w.heap.size w W)
    (OwnFrom.and (Own.from (fun s A B row hs hg hr => ⟨hs.1, box_kept hs.2.1 hg hr, box_kept hs.2.2.1 hg hr, box_kept hs.2.2.2 hg hr⟩) _) (ownFrom_below (Nat.le_refl _) (by omega)))
    (fun c => OwnFrom.and (Own.from (fun s A B row hs hg hr => by obtain ⟨h1, y, h2, h3, h4, h5⟩ := hs; exact ⟨h1, y, h2, h3, box_kept h4 hg hr, box_kept h5 hg hr⟩) _) (ownFrom_below (Nat.le_refl _) (by omega)))
    ⟨⟨by simp, b0, b1, b2⟩, hB0⟩
    (fun x => { tmps := #[.string s, .int .i64 n, undef, .pointer (some ⟨w.heap.size, 0, none⟩), .pointer (some ⟨w.heap.size + 1, 0, none⟩), .pointer (some ⟨w.heap.size + 1 + 1, 0, none⟩), .int .i64 x.1.1, .string x.1.2, .string s, .func (.func 57) #[] #[.pointer (some ⟨w.heap.size + 1 + 1 + 1, 0, none⟩)], .int .i64 x.1.1, .string x.1.2, undef, undef, undef, undef], defers := [] }) ?assign ?body ?done ?stop
  case assign =>
    intro l x W K hK
    gi_wp2
    exact hK
  case body =>
    rintro l pre x W ⟨⟨hp, k0, k1, k2⟩, hB⟩ _
    have hcw := k0.cell
    have hc1 := k1.cell
    have hf1 := k1.frozen
    have hc2 := k2.cell
    have hf2 := k2.frozen
    by_cases hx : x.1.1 = n
    · have hxb : (x.1.1 == n) = true := beq_iff_eq.2 hx
      have HX : Hid (x.1.1 = n) := hx
      clear hx
      gi_wp2
      refine ⟨(KeepsOthers.setCell _ _ _).trans (KeepsOthers.setCell _ _ _), ⟨rfl, x, by simp, HX.out, (k1.set _).kept (grownBy_setCell' _ _ _) (by simp), (k2.kept (grownBy_setCell' _ _ _) (by simp)).set _⟩, (hB.setCell (p := ⟨w.heap.size + 1, 0, none⟩) (by simp) _).setCell (p := ⟨w.heap.size + 1 + 1, 0, none⟩) (by simp; omega) _⟩
    · have hxb : (x.1.1 == n) = false := beq_eq_false_iff_ne.2 hx
      have HX : Hid (x.1.1 ≠ n) := hx
      clear hx
      gi_wp2
      exact ⟨KeepsOthers.refl _, trivial, ⟨fun y hy => (List.mem_append.1 hy).elim (hp y) (fun e => by simp at e; subst e; exact HX.out), k0, k1, k2⟩, hB⟩
  case done =>
    rintro D ys W hD hS ⟨⟨hne, k0, k1, k2⟩, hB⟩ hK
    have hc1 := k1.cell
    have hf1 := k1.frozen
    have hc2 := k2.cell
    have hf2 := k2.frozen
    have HS : Hid (lineS s n = ⟨#[]⟩ ∧ lineB s n = false) := line_none hS hne
    gi_wp2
    have hK' := ((KeepsOthers.setCell W ⟨w.heap.size + 1, 0, none⟩ (.string ⟨#[]⟩)).trans (KeepsOthers.setCell _ ⟨w.heap.size + 1 + 1, 0, none⟩ (.bool false))).same D _ hK rfl
    have j1 := (k1.set (.string ⟨#[]⟩)).kept (grownBy_setCell' _ (w.heap.size + 1 + 1) (.bool false)) (by simp)
    have j2 := (k2.kept (grownBy_setCell' _ (w.heap.size + 1) (.string ⟨#[]⟩)) (by simp)).set (.bool false)
    have m1 := (box_put (o' := .deferred none) j1 hK' rfl).cell
    have m2 := (box_put (o' := .deferred none) j2 hK' rfl).cell
    refine ⟨by simp, .inl ⟨_, _, rfl, run_takeDeferred hK', ?_⟩⟩
    refine ⟨.tuple #[.string ⟨#[]⟩, .bool false], ?_, by rw [HS.out.1, HS.out.2], ((hB.setCell (p := ⟨w.heap.size + 1, 0, none⟩) (by simp) _).setCell (p := ⟨w.heap.size + 1 + 1, 0, none⟩) (by simp; omega) _).trans (belowK_b (w := w) (Nat.le_refl _) _ D _ _ (by omega) hK' rfl rfl)⟩
    simp [results, Tryd.f33, go_sem, m1, m2]
  case stop =>
    rintro D c pre W hD ⟨k, hk, hpre⟩ ⟨⟨rfl, y, hl, hy, k1, k2⟩, hB⟩ hK
    have HS : Hid (lineS s n = y.1.2 ∧ lineB s n = true) := line_some hk hpre hl hy
    gi_wp2
    have m1 := (box_put (o' := .deferred none) k1 hK rfl).cell
    have m2 := (box_put (o' := .deferred none) k2 hK rfl).cell
    refine ⟨by simp, .inl ⟨_, _, rfl, run_takeDeferred hK, ?_⟩⟩
    refine ⟨.tuple #[.string y.1.2, .bool true], ?_, by rw [HS.out.1, HS.out.2], hB.trans (belowK_b (w := w) (Nat.le_refl _) W D _ _ (by omega) hK rfl rfl)⟩
    simp [results, Tryd.f33, go_sem, m1, m2]

end Go.Proofs.YtfkegaencoodbaaDoor
