import Derived.Test.YtfkegaencoodbaaDoorPd
set_option linter.unusedVariables false
set_option linter.unusedSimpArgs false
namespace Go.Proofs.YtfkegaencoodbaaDoor
open Go.RowKit Go.Shelf
attribute [local go_sem] Oper.semAt_some

def plV (a l c : Int) : Value := .agg #[.int .i64 a, .int .i64 l, .int .i64 c]

/-- A block that holds a place. -/
def Box3 (W : World) (B : Nat) (a l c : Int) : Prop := W.heap[B]? = some (.cells #[.int .i64 a, .int .i64 l, .int .i64 c] 24 (0, 0))
theorem Box3.lt {W : World} {B : Nat} {a l c : Int} (h : Box3 W B a l c) : B < W.heap.size := (Array.getElem?_eq_some_iff.1 h).1
theorem Box3.cell0 {W : World} {B : Nat} {a l c : Int} (h : Box3 W B a l c) : W.cell? ⟨B, 0, none⟩ = some (.int .i64 a) := by simp [World.cell?, show W.heap[B]? = _ from h]
theorem Box3.cell1 {W : World} {B : Nat} {a l c : Int} (h : Box3 W B a l c) : W.cell? ⟨B, 1, none⟩ = some (.int .i64 l) := by simp [World.cell?, show W.heap[B]? = _ from h]
theorem Box3.cell2 {W : World} {B : Nat} {a l c : Int} (h : Box3 W B a l c) : W.cell? ⟨B, 2, none⟩ = some (.int .i64 c) := by simp [World.cell?, show W.heap[B]? = _ from h]
theorem Box3.frozen {W : World} {B : Nat} {a l c : Int} (h : Box3 W B a l c) (k : Nat) : W.frozen? ⟨B, k, none⟩ = false := by simp [World.frozen?, show W.heap[B]? = _ from h]
theorem Box3.new (W : World) (a l c : Int) : Box3 (W.alloc (.cells #[.int .i64 a, .int .i64 l, .int .i64 c] 24)) W.heap.size a l c := World.alloc_heap_new W _
theorem Box3.kept {W W' : World} {row : Option Nat} {B : Nat} {a l c : Int} (h : Box3 W B a l c) (hg : W.grownBy W' row) (hne : some B ≠ row) : Box3 W' B a l c := (hg.block B h.lt hne).trans h
theorem Box3.alloc {W : World} {B : Nat} {a l c : Int} (h : Box3 W B a l c) (o : Obj) : Box3 (W.alloc o) B a l c := h.kept (World.grownBy_alloc W o none) (by simp)
theorem Box3.below {W W' : World} {B : Nat} {a l c : Int} (h : Box3 W B a l c) (hb : Below W.heap.size W W') : Box3 W' B a l c := (hb.block B h.lt).trans h
theorem Box3.drew {W : World} {B : Nat} {a l c : Int} (h : Box3 W B a l c) : Box3 W.drew B a l c := h
theorem Box3.set0 {W : World} {B : Nat} {a l c : Int} (h : Box3 W B a l c) (v : Int) : Box3 (W.setCell ⟨B, 0, none⟩ (.int .i64 v)) B v l c := by
  obtain ⟨hlt, hk⟩ := Array.getElem?_eq_some_iff.1 h
  show (W.heap.modify B _)[B]? = _
  rw [Array.getElem?_eq_getElem (by rw [Array.size_modify]; exact hlt), Array.getElem_modify_self, hk]
  rfl
theorem Box3.set1 {W : World} {B : Nat} {a l c : Int} (h : Box3 W B a l c) (v : Int) : Box3 (W.setCell ⟨B, 1, none⟩ (.int .i64 v)) B a v c := by
  obtain ⟨hlt, hk⟩ := Array.getElem?_eq_some_iff.1 h
  show (W.heap.modify B _)[B]? = _
  rw [Array.getElem?_eq_getElem (by rw [Array.size_modify]; exact hlt), Array.getElem_modify_self, hk]
  rfl
theorem Box3.set2 {W : World} {B : Nat} {a l c : Int} (h : Box3 W B a l c) (v : Int) : Box3 (W.setCell ⟨B, 2, none⟩ (.int .i64 v)) B a l v := by
  obtain ⟨hlt, hk⟩ := Array.getElem?_eq_some_iff.1 h
  show (W.heap.modify B _)[B]? = _
  rw [Array.getElem?_eq_getElem (by rw [Array.size_modify]; exact hlt), Array.getElem_modify_self, hk]
  rfl
theorem grown_set (W : World) (p : Addr) (v : Value) : W.grownBy (W.setCell p v) (some p.block) :=
  ⟨rfl, rfl, rfl, (KeepsWalks.setCell W _ v).size, fun k _ hk => Below.heap_setCell _ _ _ k (fun e => hk (by rw [e]))⟩
theorem box3_kept {W W' : World} {row : Option Nat} {B : Nat} {a l c : Int} (h : Box3 W B a l c) (hg : W.grownBy W' row) (hr : ∀ r, row = some r → ∃ o : Obj, W.heap[r]? = some o ∧ o.isCells = false) : Box3 W' B a l c :=
  h.kept hg (fun e => by
    obtain ⟨o, ho, hc⟩ := hr B e.symm
    rw [show W.heap[B]? = _ from h] at ho; cases ho; cases hc)
theorem box3_put {W : World} {B : Nat} {a l c : Int} (h : Box3 W B a l c) {D : Nat} {o o' : Obj} (hK : W.heap[D]? = some o) (ho : o.isCells = false) : Box3 (W.putObj D o') B a l c :=
  box3_kept h (grownBy_putObj' W D o') (fun r e => by cases e; exact ⟨o, hK, ho⟩)

theorem count_in (s : ByteArray) (w : World) (hs : s.size ≤ maxLen) :
    Calls Tryd.prog 21 #[.string s] w fun e w' => e = .returned (.int .i64 (P s).length) ∧ Below w.heap.size w w' :=
  (count_any s w hs).mono (fun e w' h => ⟨h.1, by obtain ⟨p, rfl⟩ := h.2; exact below_iter _ _ _⟩)

/-- What a line makes of a line's number and a column. -/
def lcStep (q : Int × Int) (x : Ln) : Int × Int := if 1 < x.1.1 then (wrap64 (q.1 + 1), wrap64 (1 + (P x.1.2).length)) else (q.1, wrap64 (q.2 + (P x.1.2).length))
def lcAll (l c : Int) (xs : List Ln) : Int × Int := xs.foldl lcStep (l, c)
theorem lcAll_snoc (l c : Int) (xs : List Ln) (x : Ln) : lcAll l c (xs ++ [x]) = lcStep (lcAll l c xs) x := by unfold lcAll; rw [List.foldl_append]; rfl

theorem lc_upto (s : ByteArray) (l c : Int) : ∀ (k : Nat) (xs : List Ln), xs.map (·.1) = upto s k → 0 < k → lcAll l c xs = (wrap64 (l + (k - 1 : Nat)), wrap64 ((if k = 1 then c else 1) + (P (ln s (k - 1))).length)) ∨ (k = 1 ∧ lcAll l c xs = (l, wrap64 (c + (P (ln s 0)).length)))
  | 0, _, _, h => by omega
  | k + 1, xs, hx, _ => by
    rw [upto_succ] at hx
    obtain ⟨xs', y, rfl, h1, h2⟩ : ∃ xs' y, xs = xs' ++ [y] ∧ xs'.map (·.1) = upto s k ∧ y.1 = (((k + 1 : Nat) : Int), ln s k) := by
      rcases List.eq_nil_or_concat xs with rfl | ⟨xs', y, rfl⟩
      · simp at hx
      · rw [List.concat_eq_append, List.map_append] at hx
        have := List.append_inj' hx (by simp)
        exact ⟨xs', y, by rw [List.concat_eq_append], this.1, by simpa using this.2⟩
    rw [lcAll_snoc]
    unfold lcStep
    rw [h2]
    by_cases hk : k = 0
    · subst hk
      right
      obtain rfl : xs' = [] := by simpa [upto] using h1
      rw [if_neg (by simp)]
      exact ⟨rfl, rfl⟩
    · left
      rw [if_pos (by show (1 : Int) < ((k + 1 : Nat) : Int); omega), if_neg (by omega)]
      show (_, _) = (_, _)
      congr 1
      rcases lc_upto s l c k xs' h1 (by omega) with e | ⟨rfl, e⟩
      · rw [e]
        show wrap64 (wrap64 (l + ((k - 1 : Nat) : Int)) + 1) = _
        rw [wrap_add]; congr 1; omega
      · rw [e]; rfl

theorem wrap_ok (x : Int) (h : -9223372036854775808 ≤ x ∧ x ≤ 9223372036854775807) : wrap64 x = x := by unfold wrap64; omega

theorem lc_all (s : ByteArray) (l c : Int) (hl : -9223372036854775808 ≤ l ∧ l ≤ 9223372036854775807) (xs : List Ln) (hx : xs.map (·.1) = upto s (LN s)) : lcAll l c xs = (aLine l s, aCol c s) := by
  have hln := ln_last s
  unfold aLine aCol
  rcases lc_upto s l c (LN s) xs hx (by unfold LN; omega) with e | ⟨h1, e⟩
  · rw [e]
    unfold LN
    rw [show cn s s.size + 1 - 1 = cn s s.size by omega, hln]
    by_cases hz : cn s s.size = 0
    · rw [if_pos (by omega), if_pos hz]
    · rw [if_neg (by omega), if_neg hz]
  · have hz : cn s s.size = 0 := by unfold LN at h1; omega
    rw [hz] at hln
    rw [e, hz, if_pos rfl, hln]
    congr 1
    rw [wrap_ok _ (by simp; exact hl)]; simp

set_option maxRecDepth 100000 in
set_option maxHeartbeats 2000000 in
theorem adv_any (a0 l0 c0 : Int) (s : ByteArray) (w : World) (hs : s.size ≤ 2147483647) (hl0 : -9223372036854775808 ≤ l0 ∧ l0 ≤ 9223372036854775807) :
    Calls Tryd.prog 22 #[.agg #[.int .i64 a0, .int .i64 l0, .int .i64 c0], .string s] w fun e w' => e = .returned (plV (aAt a0 s) (aLine l0 s) (aCol c0 s)) ∧ Below w.heap.size w w' := by
  refine (callsIn_wide (n := 9)).1 ?_
  refine callsIn_of_wp_marks Tryd.func22 rfl trivial ?_ rfl
  simp only [Tryd.ntmps22, List.size_toArray, List.length_cons, List.length_nil, Nat.reduceAdd, Nat.reduceSub, Array.replicate_succ, Array.replicate_zero, List.push_toArray, List.append_toArray, List.nil_append, List.cons_append]
  gi_wp2
  refine ⟨trivial, ?_⟩
  refine (callsIn_wide.2 (lines_any _ _)).mono ?_
  rintro e w1 ⟨rfl, rfl⟩
  gi_wp2
  obtain ⟨a1, ha1⟩ : ∃ a1, wrap64 (a0 + (s.size : Int)) = a1 := ⟨_, rfl⟩
  rw [ha1]
  have HA : Hid (aAt a0 s = a1) := ha1
  clear ha1
  obtain ⟨W0, hW0⟩ : ∃ W0, (((w.alloc (Obj.cells #[Value.int IntKind.i64 a1, Value.int IntKind.i64 l0, Value.int IntKind.i64 c0] 24)).alloc (Obj.cells #[Value.int IntKind.i64 0, Value.int IntKind.i64 0, Value.int IntKind.i64 0] 24)).alloc (Obj.cells #[Value.string s] 9)) = W0 := ⟨_, rfl⟩
  have hsz : W0.heap.size = w.heap.size + 1 + 1 + 1 := by rw [← hW0]; simp
  have b0 : Box3 W0 w.heap.size a1 l0 c0 := by rw [← hW0]; exact ((Box3.new w _ _ _).alloc _).alloc _
  have b1 : Box3 W0 (w.heap.size + 1) 0 0 0 := by rw [← hW0]; have := (Box3.new (w.alloc (Obj.cells #[Value.int IntKind.i64 a1, Value.int IntKind.i64 l0, Value.int IntKind.i64 c0] 24)) 0 0 0).alloc (Obj.cells #[Value.string s] 9); rw [World.size_alloc] at this; exact this
  have b2 : Boxed W0 (w.heap.size + 1 + 1) 9 (.string s) := by rw [← hW0]; have := Boxed.new ((w.alloc (Obj.cells #[Value.int IntKind.i64 a1, Value.int IntKind.i64 l0, Value.int IntKind.i64 c0] 24)).alloc (Obj.cells #[Value.int IntKind.i64 0, Value.int IntKind.i64 0, Value.int IntKind.i64 0] 24)) 9 (.string s); rw [World.size_alloc, World.size_alloc] at this; exact this
  have hB0 : Below w.heap.size w W0 := by rw [← hW0]; exact (((Below.refl _ w).alloc (Nat.le_refl _) _).alloc (by simp) _).alloc (by simp; omega) _
  rw [hW0]
  clear hW0
  have hmx : Tryd.prog.follows .mixedOrders = true := by kernel_rfl
  refine wpIn_rangeFunc_ownF rfl (by omega) (gf := 57) (lb := #[.pointer (some ⟨w.heap.size + 1 + 1, 0, none⟩)]) rfl trivial (enters_of Tryd.func57 (by kernel_rfl) rfl)
    (lines_stops 8 (by omega) (w.heap.size + 1 + 1) s hs W0 (by omega) b2.cell) (fun _ _ => trivial) (fun _ _ _ _ _ _ _ _ => trivial) (Below.refl _ _) (fun _ => rfl)
    (fun pre W => (Box3 W w.heap.size a1 (lcAll l0 c0 pre).1 (lcAll l0 c0 pre).2 ∧ Box3 W (w.heap.size + 1) 0 0 0) ∧ Below w.heap.size w W)
    (fun _ _ _ => False)
    (OwnFrom.and (Own.from (fun s A B row hs hg hr => ⟨box3_kept hs.1 hg hr, box3_kept hs.2 hg hr⟩) _) (ownFrom_below (Nat.le_refl _) (by omega)))
    (fun _ _ _ _ _ hs _ _ => hs)
    ⟨⟨b0, b1⟩, hB0⟩
    (fun x => { tmps := #[.agg #[.int .i64 a0, .int .i64 l0, .int .i64 c0], .string s, .pointer (some ⟨w.heap.size, 0, none⟩), undef, .pointer (some ⟨w.heap.size + 1, 0, none⟩), .int .i64 x.1.1, .string x.1.2, .pointer (some ⟨w.heap.size, 0, none⟩), .int .i64 a0, .string s, .int .i64 s.size, .int .i64 a1, .pointer (some ⟨w.heap.size, 0, none⟩), .string s, .func (.func 57) #[] #[.pointer (some ⟨w.heap.size + 1 + 1, 0, none⟩)], .int .i64 x.1.1, .string x.1.2, undef, undef, undef, undef, undef, undef, undef, undef, undef, undef, undef, undef, undef, undef], defers := [] }) ?assign ?body ?done ?stop
  case assign =>
    intro l x W K hK
    gi_wp2
    exact hK
  case body =>
    rintro l pre x W ⟨⟨k0, k1⟩, hB⟩ _
    obtain ⟨q, hq⟩ : ∃ q, lcAll l0 c0 pre = q := ⟨_, rfl⟩
    have HQ : Hid (lcAll l0 c0 (pre ++ [x]) = lcStep q x) := by show _ = _; rw [lcAll_snoc, hq]
    rw [hq] at k0
    clear hq
    have g1 := k0.cell1
    have g2 := k0.cell2
    have f1 := k0.frozen 1
    have f2 := k0.frozen 2
    have hcount : ∀ w, Calls Tryd.prog 21 #[.string x.1.2] w fun e w' => e = .returned (.int .i64 (P x.1.2).length) ∧ Below w.heap.size w w' := fun w => count_in _ w x.2
    by_cases hx : 1 < x.1.1
    · have HX : Hid (lcStep q x = (wrap64 (q.1 + 1), wrap64 (1 + (P x.1.2).length))) := by show _ = _; unfold lcStep; rw [if_pos hx]
      gi_wp2
      have r0 := (k0.set1 (wrap64 (q.1 + 1))).set2 1
      have r1 := (k1.kept (grown_set W ⟨w.heap.size, 1, none⟩ (.int .i64 (wrap64 (q.1 + 1)))) (by simp)).kept (grown_set _ ⟨w.heap.size, 2, none⟩ (.int .i64 1)) (by simp)
      have hkW := (KeepsOthers.setCell W ⟨w.heap.size, 1, none⟩ (.int .i64 (wrap64 (q.1 + 1)))).trans (KeepsOthers.setCell _ ⟨w.heap.size, 2, none⟩ (.int .i64 1))
      have hB1 := (hB.setCell (p := ⟨w.heap.size, 1, none⟩) (Nat.le_refl _) (.int .i64 (wrap64 (q.1 + 1)))).setCell (p := ⟨w.heap.size, 2, none⟩) (Nat.le_refl _) (.int .i64 1)
      obtain ⟨Wm, hWm⟩ : ∃ Wm, (W.setCell ⟨w.heap.size, 1, none⟩ (.int .i64 (wrap64 (q.1 + 1)))).setCell ⟨w.heap.size, 2, none⟩ (.int .i64 1) = Wm := ⟨_, rfl⟩
      rw [hWm] at r0 r1 hkW hB1 ⊢
      clear hWm g1 g2 f1 f2
      have g2 := r0.cell2
      have f2 := r0.frozen 2
      gi_region_with_o (refine ⟨trivial, ?_⟩; gi_at_call 21; refine (CallsIn.inRound l (callsIn_wide.2 (hcount _))).mono ?_; rintro e w1 ⟨rfl, hb1⟩; have g3 := (r0.drew.below hb1).cell2; have f3 := (r0.drew.below hb1).frozen 2)
      all_goals gi_wp2
      all_goals (try go_bits)
      all_goals exact ⟨((hkW.trans (KeepsOthers.drew _)).trans (keeps_of_below hb1)).trans (KeepsOthers.setCell _ _ _), trivial, ⟨by rw [HQ.out, HX.out]; exact (r0.drew.below hb1).set2 _, (Box3.drew r1 |>.below hb1).kept (grown_set _ _ _) (by simp)⟩, (hB1.drew.trans (hb1.mono hB1.size)).setCell (p := ⟨w.heap.size, 2, none⟩) (Nat.le_refl _) _⟩
    · have HX : Hid (lcStep q x = (q.1, wrap64 (q.2 + (P x.1.2).length))) := by show _ = _; unfold lcStep; rw [if_neg hx]
      gi_wp2
      gi_region_with_o (refine ⟨trivial, ?_⟩; gi_at_call 21; refine (CallsIn.inRound l (callsIn_wide.2 (hcount _))).mono ?_; rintro e w1 ⟨rfl, hb1⟩; have g3 := (k0.drew.below hb1).cell2; have f3 := (k0.drew.below hb1).frozen 2)
      all_goals gi_wp2
      all_goals (try go_bits)
      all_goals exact ⟨((KeepsOthers.drew _).trans (keeps_of_below hb1)).trans (KeepsOthers.setCell _ _ _), trivial, ⟨by rw [HQ.out, HX.out]; exact (k0.drew.below hb1).set2 _, (k1.drew.below hb1).kept (grown_set _ _ _) (by simp)⟩, (hB.drew.trans (hb1.mono hB.size)).setCell (p := ⟨w.heap.size, 2, none⟩) (Nat.le_refl _) _⟩
  case done =>
    rintro D ys W hD hS ⟨⟨k0, k1⟩, hB⟩ hK
    rw [lc_all s l0 c0 hl0 ys hS] at k0
    obtain ⟨L, hL⟩ : ∃ L, aLine l0 s = L := ⟨_, rfl⟩
    obtain ⟨C, hC⟩ : ∃ C, aCol c0 s = C := ⟨_, rfl⟩
    rw [hL, hC] at k0
    have HL : Hid (aLine l0 s = L) := hL
    have HC : Hid (aCol c0 s = C) := hC
    clear hL hC
    have g0 := k0.cell0
    have g1 := k0.cell1
    have g2 := k0.cell2
    have e0 := k1.cell0
    have e1 := k1.cell1
    have e2 := k1.cell2
    have f0 := k1.frozen 0
    have f1 := k1.frozen 1
    have f2 := k1.frozen 2
    gi_wp2
    have hK' := (((KeepsOthers.setCell W ⟨w.heap.size + 1, 0, none⟩ (.int .i64 a1)).trans (KeepsOthers.setCell _ ⟨w.heap.size + 1, 1, none⟩ (.int .i64 L))).trans (KeepsOthers.setCell _ ⟨w.heap.size + 1, 2, none⟩ (.int .i64 C))).same D _ hK rfl
    have j1 := ((k1.set0 a1).set1 L).set2 C
    have hB3 := ((hB.setCell (p := ⟨w.heap.size + 1, 0, none⟩) (by simp) (.int .i64 a1)).setCell (p := ⟨w.heap.size + 1, 1, none⟩) (by simp) (.int .i64 L)).setCell (p := ⟨w.heap.size + 1, 2, none⟩) (by simp) (.int .i64 C)
    have m := box3_put (o' := .deferred none) j1 hK' rfl
    have m0 := m.cell0
    have m1 := m.cell1
    have m2 := m.cell2
    refine ⟨by simp, .inl ⟨_, _, rfl, run_takeDeferred hK', ?_⟩⟩
    refine ⟨.agg #[.int .i64 a1, .int .i64 L, .int .i64 C], ?_, by rw [HA.out, HL.out, HC.out]; rfl, hB3.trans (belowK_b (w := w) (Nat.le_refl _) _ D _ _ (by omega) hK' rfl rfl)⟩
    simp [results, Tryd.f22, go_sem, m0, m1, m2]
  case stop =>
    rintro D c pre W _ _ h _
    exact h.elim

end Go.Proofs.YtfkegaencoodbaaDoor
