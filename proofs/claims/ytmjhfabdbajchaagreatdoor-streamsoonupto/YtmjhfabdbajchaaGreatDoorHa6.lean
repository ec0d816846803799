import Derived.Test.YtmjhfabdbajchaaGreatDoorG6
import Derived.Test.YtmjhfabdbajchaaGreatDoorG4
import Derived.Deep.RegionHeld3
set_option linter.unusedVariables false
set_option linter.unusedSimpArgs false
namespace Go.Proofs.YtmjhfabdbajchaaGreatDoor
open Go.RowKit

theorem hide9 {p : Prop} (h : p) : Hid p := h

/-! Frames over a set of labels. -/
structure FrP (P : Nat → Prop) (own own' : Nat → Nat) (w w' : World) : Prop where
  os : w'.os = w.os
  tape : w'.tape = w.tape
  output : w'.output = w.output
  size : w.heap.size ≤ w'.heap.size
  block : ∀ k, k < w.heap.size → ¬ P (own k) → w'.heap[k]? = w.heap[k]?
  old : ∀ k, k < w.heap.size → ¬ P (own k) → own' k = own k
section
variable {P : Nat → Prop} {own own' own2 : Nat → Nat} {w w' w2 : World}
theorem FrP.refl (P : Nat → Prop) (own : Nat → Nat) (w : World) : FrP P own own w w := ⟨rfl, rfl, rfl, Nat.le_refl _, fun _ _ _ => rfl, fun _ _ _ => rfl⟩
theorem FrP.trans (h : FrP P own own' w w') (k : FrP P own' own2 w' w2) : FrP P own own2 w w2 :=
  ⟨k.os.trans h.os, k.tape.trans h.tape, k.output.trans h.output, Nat.le_trans h.size k.size,
   fun j hj hi => (k.block j (Nat.lt_of_lt_of_le hj h.size) (by rw [h.old j hj hi]; exact hi)).trans (h.block j hj hi),
   fun j hj hi => (k.old j (Nat.lt_of_lt_of_le hj h.size) (by rw [h.old j hj hi]; exact hi)).trans (h.old j hj hi)⟩
theorem FrP.mono {P' : Nat → Prop} (h : FrP P own own' w w') (hp : ∀ i, P i → P' i) : FrP P' own own' w w' :=
  ⟨h.os, h.tape, h.output, h.size, fun k hk hn => h.block k hk (fun e => hn (hp _ e)), fun k hk hn => h.old k hk (fun e => hn (hp _ e))⟩
theorem Fr.toP {i : Nat} (h : Fr i own own' w w') (hp : P i) : FrP P own own' w w' :=
  ⟨h.os, h.tape, h.output, h.size, fun k hk hn => h.block k hk (fun e => hn (by rw [e]; exact hp)), fun k hk _ => h.old k hk⟩
theorem FrP.of_below (h : Below w.heap.size w w') : FrP P own own w w' := ⟨h.os, h.tape, h.output, h.size, fun k hk _ => h.block k hk, fun _ _ _ => rfl⟩
theorem RG.keptP {β : Type} {T e : TypeId} {enc : β → List Value} {i g room : Nat} {sv : Value} {zs : List β} {front : Nat} {l : List β} (h : RG T e enc own i w g room sv zs front l) (hf : FrP P own own' w w') (hi : ¬ P i) : RG T e enc own' i w' g room sv zs front l := by
  refine ⟨(hf.block g (blk_lt h.blk) (by rw [h.lab]; exact hi)).trans h.blk, (hf.old g (blk_lt h.blk) (by rw [h.lab]; exact hi)).trans h.lab, h.r1, h.r2, h.len, ?_, h.hold⟩
  rcases h.row with h1 | ⟨b, h1, h2, h3, h4, h5⟩
  · exact .inl h1
  · exact .inr ⟨b, h1, (hf.block b (blk_lt h2) (by rw [h3]; exact hi)).trans h2, (hf.old b (blk_lt h2) (by rw [h3]; exact hi)).trans h3, h4, h5⟩
theorem rowP {i e sz n : Nat} {v : Value} {xs : List Value} (hf : FrP P own own' w w') (hi : ¬ P i) (h : w.ownsRow 0 e sz v n xs ∧ ∀ k, v.ownBlock = some k → own k = i) : w'.ownsRow 0 e sz v n xs ∧ ∀ k, v.ownBlock = some k → own' k = i := by
  obtain ⟨h1, h2⟩ := h
  refine ⟨⟨h1.1, ?_⟩, fun k hk => ?_⟩
  · rcases h1.2 with h3 | ⟨g, cap, cur, rfl, h4, h5, h6⟩
    · exact .inl h3
    · exact .inr ⟨g, cap, cur, rfl, h4, (hf.block g (blk_lt h5) (by rw [h2 g rfl]; exact hi)).trans h5, h6⟩
  · rw [hf.old k (h1.lt k hk).2 (by rw [h2 k hk]; exact hi)]; exact h2 k hk
theorem SK.keptP {i g : Nat} {s : St6} (h : SK own i w g s) (hf : FrP P own own' w w') (hi : ¬ P i) : SK own' i w' g s := by
  obtain ⟨tv, gv, text, gs, h1, h2, h3, h4⟩ := h.ex
  exact ⟨(hf.old g (blk_lt h1) (by rw [h.lab]; exact hi)).trans h.lab, tv, gv, text, gs, (hf.block g (blk_lt h1) (by rw [h.lab]; exact hi)).trans h1, rowP hf hi h2, rowP hf hi h3, h4⟩
end
theorem bel_drewN (w : World) (m : Nat) : Below w.heap.size w (w.drewN m) := by
  rw [World.drewN]; exact ⟨rfl, rfl, rfl, Nat.le_refl _, fun _ _ => rfl⟩

/-! A row: rings, one behind the other. -/
def Lr (j l : Nat) : Prop := l = 3 + j ∨ (10 ≤ l ∧ l % 2 = j)
def fl (cs : List (Nat × List Nat)) : List Nat := cs.flatMap (·.2)
theorem fl_app (a b : List (Nat × List Nat)) : fl (a ++ b) = fl a ++ fl b := List.flatMap_append
theorem fl_cons (x : Nat × List Nat) (b : List (Nat × List Nat)) : fl (x :: b) = x.2 ++ fl b := rfl
structure Rw9 (own : Nat → Nat) (j : Nat) (W : World) (q : Nat) (cs : List (Nat × List Nat)) : Prop where
  j2 : j < 2
  out : ∃ sv zs front, RgQ own (3 + j) W q 2097152 sv zs front (cs.map fun x => some x.1)
  part : ∀ x ∈ cs, (∃ sv zs front, RgP own (10 + 2 * x.1 + j) W x.1 1024 sv zs front (x.2.map some)) ∧ x.2 ≠ []
  mid : ∀ x ∈ cs.tail.dropLast, x.2.length = 1024
  nd : (cs.map (·.1)).Nodup
section
variable {own own' : Nat → Nat} {j : Nat} {W W' : World} {q : Nat} {cs : List (Nat × List Nat)}
theorem Rw9.kept {P : Nat → Prop} (h : Rw9 own j W q cs) (hf : FrP P own own' W W') (hp : ∀ i, Lr j i → ¬ P i) : Rw9 own' j W' q cs := by
  obtain ⟨sv, zs, front, h1⟩ := h.out
  refine ⟨h.j2, ⟨sv, zs, front, h1.keptP hf (hp _ (.inl rfl))⟩, fun x hx => ?_, h.mid, h.nd⟩
  obtain ⟨⟨sv, zs, front, h2⟩, h3⟩ := h.part x hx
  have := h.j2
  exact ⟨⟨sv, zs, front, h2.keptP hf (hp _ (.inr ⟨by omega, by omega⟩))⟩, h3⟩
theorem Rw9.below (h : Rw9 own j W q cs) (hb : Below W.heap.size W W') : Rw9 own j W' q cs := h.kept (P := fun _ => False) (FrP.of_below hb) (fun _ _ h => h)
theorem Rw9.len (h : Rw9 own j W q cs) : cs.length ≤ 2097152 := by
  obtain ⟨sv, zs, front, h1⟩ := h.out
  have := h1.hold.1
  have := h1.len
  rw [List.length_map] at *
  omega
theorem Rw9.plen (h : Rw9 own j W q cs) {x : Nat × List Nat} (hx : x ∈ cs) : x.2.length ≤ 1024 := by
  obtain ⟨⟨sv, zs, front, h1⟩, _⟩ := h.part x hx
  have := h1.hold.1
  have := h1.len
  rw [List.length_map] at *
  omega
/-- How many rings there are. -/
theorem mids (cs : List (Nat × List Nat)) (hm : ∀ x ∈ cs.tail.dropLast, x.2.length = 1024) : cs.length * 1024 ≤ (fl cs).length + 2048 := by
  have key : ∀ l : List (Nat × List Nat), (∀ x ∈ l, x.2.length = 1024) → (fl l).length = l.length * 1024 := by
    intro l
    induction l with
    | nil => intro _; rfl
    | cons x r ih =>
      intro h
      rw [fl_cons, List.length_append, ih (fun y hy => h y (List.mem_cons_of_mem _ hy)), h x List.mem_cons_self, List.length_cons]; omega
  cases cs with
  | nil => simp
  | cons x r =>
    rw [List.tail_cons] at hm
    have h1 := key _ hm
    by_cases hr : r = []
    · subst hr; simp
    · have h2 : r = r.dropLast ++ [r.getLast hr] := (List.dropLast_concat_getLast hr).symm
      have h3 : (fl r).length = (fl r.dropLast).length + (r.getLast hr).2.length := by
        conv => lhs; rw [h2]
        rw [fl_app, List.length_append]; simp [fl]
      rw [fl_cons, List.length_append, List.length_cons]
      rw [List.length_dropLast] at h1
      have : 0 < r.length := List.length_pos_iff.2 hr
      omega
/-- One of the rings has turned. -/
theorem Rw9.turn {u v : List (Nat × List Nat)} {r : Nat} {c c' : List Nat} (h : Rw9 own j W q (u ++ (r, c) :: v)) (ha : AfP own (10 + 2 * r + j) W W' r 1024 (c'.map some)) (hc : c' ≠ []) (hm : ∀ x ∈ (u ++ (r, c') :: v).tail.dropLast, x.2.length = 1024) :
    ∃ own', Nf own' W' ∧ FrP (Lr j) own own' W W' ∧ Rw9 own' j W' q (u ++ (r, c') :: v) := by
  obtain ⟨own', sv, zs, front, h1, h2, h3⟩ := ha
  have hj := h.j2
  have hP : FrP (fun i => i = 10 + 2 * r + j) own own' W W' := h2.toP rfl
  refine ⟨own', h1, h2.toP (.inr ⟨by omega, by omega⟩), hj, ?_, fun x hx => ?_, hm, ?_⟩
  · obtain ⟨sv, zs, front, k1⟩ := h.out
    refine ⟨sv, zs, front, ?_⟩
    have := k1.keptP hP (by omega)
    simpa using this
  · have hnd := h.nd
    rw [List.map_append, List.map_cons] at hnd
    have hne : ∀ y ∈ u ++ v, y.1 ≠ r := by
      intro y hy e
      rw [List.nodup_append] at hnd
      rcases List.mem_append.1 hy with hy | hy
      · exact hnd.2.2 y.1 (List.mem_map_of_mem hy) r List.mem_cons_self e
      · have := (List.nodup_cons.1 hnd.2.1).1
        exact this (List.mem_map.2 ⟨y, hy, e⟩)
    rcases List.mem_append.1 hx with hx | hx
    · obtain ⟨⟨sv, zs, front, k1⟩, k2⟩ := h.part x (List.mem_append_left _ hx)
      have := hne x (List.mem_append_left _ hx)
      exact ⟨⟨sv, zs, front, k1.keptP hP (by omega)⟩, k2⟩
    · rcases List.mem_cons.1 hx with rfl | hx
      · exact ⟨⟨sv, zs, front, h3⟩, hc⟩
      · obtain ⟨⟨sv, zs, front, k1⟩, k2⟩ := h.part x (List.mem_append_right _ (List.mem_cons_of_mem _ hx))
        have := hne x (List.mem_append_right _ hx)
        exact ⟨⟨sv, zs, front, k1.keptP hP (by omega)⟩, k2⟩
  · have hnd := h.nd
    simpa using hnd
/-- The row of rings has turned, its rings have not. -/
theorem Rw9.outer {cs' : List (Nat × List Nat)} (h : Rw9 own j W q cs) (ha : AfQ own (3 + j) W W' q 2097152 (cs'.map fun x => some x.1)) (hsub : ∀ x ∈ cs', x ∈ cs) (hm : ∀ x ∈ cs'.tail.dropLast, x.2.length = 1024) (hn : (cs'.map (·.1)).Nodup) :
    ∃ own', Nf own' W' ∧ FrP (Lr j) own own' W W' ∧ Rw9 own' j W' q cs' := by
  obtain ⟨own', sv, zs, front, h1, h2, h3⟩ := ha
  have hj := h.j2
  refine ⟨own', h1, h2.toP (.inl rfl), hj, ⟨sv, zs, front, h3⟩, fun x hx => ?_, hm, hn⟩
  obtain ⟨⟨sv, zs, front, k1⟩, k2⟩ := h.part x (hsub x hx)
  exact ⟨⟨sv, zs, front, k1.keptP (h2.toP (P := fun i => i = 3 + j) rfl) (by omega)⟩, k2⟩
end
end Go.Proofs.YtmjhfabdbajchaaGreatDoor
set_option linter.unusedVariables false
set_option linter.unusedSimpArgs false
namespace Go.Proofs.YtmjhfabdbajchaaGreatDoor
open Go.RowKit

section
variable {own : Nat → Nat} {j : Nat} {W : World} {q : Nat} {cs : List (Nat × List Nat)}
theorem Rw9.c3 (h : Rw9 own j W q cs) : W.cell? ⟨q, 3, none⟩ = some (.int .i64 (cs.length : Nat)) := by
  obtain ⟨sv, zs, front, h1⟩ := h.out
  have := h1.c3
  rw [List.length_map] at this; exact this
/-- The k-th ring. -/
theorem Rw9.atq (h : Rw9 own j W q cs) (k : Int) (hk : -1 ≤ k) : Calls Tryz.prog 127 #[.pointer (some ⟨q, 0, none⟩), .int .i64 k] W fun e w' => (∃ y, e = .returned (.tuple #[.pointer (pa (if k < 0 then none else (cs[k.toNat]?).map (·.1))), .int .i64 y])) ∧ Below W.heap.size W w' := by
  obtain ⟨sv, zs, front, h1⟩ := h.out
  have c3 := h.c3
  by_cases hb : k < 0 ∨ (cs.length : Int) ≤ k
  · refine (atQ_bad q cs.length k W c3 hb).mono ?_
    rintro e w' ⟨rfl, rfl⟩
    refine ⟨⟨1, ?_⟩, Below.refl _ _⟩
    by_cases hk0 : k < 0
    · rw [if_pos hk0]; rfl
    · rw [if_neg hk0, List.getElem?_eq_none (by omega)]; rfl
  · obtain ⟨n, rfl⟩ : ∃ n : Nat, k = n := ⟨k.toNat, by omega⟩
    have hn : n < cs.length := by omega
    have hx : (cs.map fun x => some x.1)[n]? = some (some cs[n].1) := by
      rw [List.getElem?_map, List.getElem?_eq_getElem hn]; rfl
    refine (atQ_any own (3 + j) q 2097152 front n sv zs _ _ W h1 hx).mono ?_
    rintro e w' ⟨rfl, m, rfl⟩
    refine ⟨⟨0, ?_⟩, bel_drewN _ _⟩
    rw [if_neg (by omega), Int.toNat_natCast, List.getElem?_eq_getElem hn]; rfl
end

section
variable {own : Nat → Nat} {j : Nat} {W : World} {g o q : Nat} {cs : List (Nat × List Nat)}
theorem front_any (h : Rw9 own j W q cs) (hq : W.cell? ⟨g, o, none⟩ = some (.pointer (some ⟨q, 0, none⟩))) :
    Calls Tryz.prog 95 #[.pointer (some ⟨g, o, none⟩)] W fun e w' => e = .returned (.pointer (pa (cs.head?.map (·.1)))) ∧ Below W.heap.size W w' := by
  have HA : Hid (Calls Tryz.prog 127 #[.pointer (some ⟨q, 0, none⟩), .int .i64 0] W fun e w' => (∃ y, e = .returned (.tuple #[.pointer (pa (cs.head?.map (·.1))), .int .i64 y])) ∧ Below W.heap.size W w') := by
    have := h.atq 0 (by omega)
    rw [if_neg (by omega)] at this
    rw [List.head?_eq_getElem?]
    exact this
  clear h
  generalize pa (cs.head?.map (·.1)) = z at *
  go_enter Tryz.func95, Tryz.ntmps95
  go_wp2_with (go_at_call 127; refine HA.out.mono ?_; rintro e w1 ⟨⟨y, rfl⟩, hb⟩)
  go_ret
  exact ⟨rfl, hb⟩
set_option maxHeartbeats 1000000 in
theorem back_any (h : Rw9 own j W q cs) (hq : W.cell? ⟨g, o, none⟩ = some (.pointer (some ⟨q, 0, none⟩))) :
    Calls Tryz.prog 91 #[.pointer (some ⟨g, o, none⟩)] W fun e w' => e = .returned (.pointer (pa (cs.getLast?.map (·.1)))) ∧ Below W.heap.size W w' := by
  have hln := h.len
  have hlt := World.block_lt_of_cell? _ _ hq
  have HA : Hid (∀ V, Below W.heap.size W V → Calls Tryz.prog 127 #[.pointer (some ⟨q, 0, none⟩), .int .i64 ((cs.length : Nat) - 1 : Int)] V fun e w' => (∃ y, e = .returned (.tuple #[.pointer (pa (cs.getLast?.map (·.1))), .int .i64 y])) ∧ Below V.heap.size V w') := fun V hV => by
    have := (h.below hV).atq ((cs.length : Nat) - 1 : Int) (by omega)
    have e : (if ((cs.length : Nat) - 1 : Int) < 0 then none else (cs[((cs.length : Nat) - 1 : Int).toNat]?).map (·.1)) = cs.getLast?.map (·.1) := by
      rw [List.getLast?_eq_getElem?]
      by_cases h0 : cs.length = 0
      · rw [if_pos (by omega), List.getElem?_eq_none (by omega)]; rfl
      · rw [if_neg (by omega)]; congr 2; omega
    rw [e] at this
    exact this
  have HL : Hid (∀ V, Below W.heap.size W V → Calls Tryz.prog 128 #[.pointer (some ⟨q, 0, none⟩)] V fun e w' => e = .returned (.int .i64 (cs.length : Nat)) ∧ w' = V) := fun V hV => lenQ q cs.length V ((h.below hV).c3)
  have HK : Hid (∀ V, Below W.heap.size W V → V.cell? ⟨g, o, none⟩ = some (.pointer (some ⟨q, 0, none⟩)) ∧ Below W.heap.size W V) := fun V hV => ⟨(hV.cell (p := ⟨g, o, none⟩) hlt).trans hq, hV⟩
  clear h
  generalize cs.length = n at *
  generalize pa (cs.getLast?.map (·.1)) = x at *
  have hwr : IntKind.i64.wrap ((n : Int) - 1) = (n : Int) - 1 := by rw [IntKind.wrap_i64]; omega
  go_enter Tryz.func91, Tryz.ntmps91
  go_wp2_with fail
  go_region_held3 (fun w' => w'.cell? ⟨g, o, none⟩ = some (.pointer (some ⟨q, 0, none⟩)) ∧ Below W.heap.size W w') (first | (exact HK.out _ (by assumption)) | (exact HK.out _ (Below.refl _ _).drew) | go_keep) (first | (go_at_call 128; refine (HL.out _ (by first | assumption | exact (Below.refl _ _).drew)).mono ?_; rintro e w1 ⟨rfl, rfl⟩) | (go_at_call 127; refine (HA.out _ (by first | assumption | exact (Below.refl _ _).drew)).mono ?_; rintro e w2 ⟨⟨y, rfl⟩, hb2⟩; have hbW := (by first | exact (Below.refl W.heap.size W).drew.trans (hb2.mono (Nat.le_refl _)) | assumption : Below W.heap.size W w2)))
  all_goals (
    go_wp2_with fail
    go_ret
    exact ⟨rfl, hbW⟩)
end
end Go.Proofs.YtmjhfabdbajchaaGreatDoor
set_option linter.unusedVariables false
set_option linter.unusedSimpArgs false
namespace Go.Proofs.YtmjhfabdbajchaaGreatDoor
open Go.RowKit

section
variable {own : Nat → Nat} {j : Nat} {W : World} {g o q : Nat} {cs : List (Nat × List Nat)}
set_option maxHeartbeats 1000000 in
theorem first_any (h : Rw9 own j W q cs) (hq : W.cell? ⟨g, o, none⟩ = some (.pointer (some ⟨q, 0, none⟩))) :
    Calls Tryz.prog 61 #[.pointer (some ⟨g, o, none⟩)] W fun e w' => e = .returned (.tuple #[.pointer (pa (fl cs).head?), .bool (!(fl cs).isEmpty)]) ∧ Below W.heap.size W w' := by
  have HF : Hid (Calls Tryz.prog 95 #[.pointer (some ⟨g, o, none⟩)] W fun e w' => e = .returned (.pointer (pa (cs.head?.map (·.1)))) ∧ Below W.heap.size W w') := front_any h hq
  have HA : Hid (∀ V, Below W.heap.size W V → Calls Tryz.prog 96 #[.pointer (pa (cs.head?.map (·.1))), .int .i64 0] V fun e w' => (∃ y : Int, e = .returned (.tuple #[.pointer (pa (fl cs).head?), .int .i64 y]) ∧ decide (y = 0) = !(fl cs).isEmpty) ∧ Below V.heap.size V w') := fun V hV => by
    cases cs with
    | nil =>
      refine (atP_nil 0 V).mono ?_
      rintro e w' ⟨rfl, rfl⟩
      exact ⟨⟨3, rfl, rfl⟩, Below.refl _ _⟩
    | cons x t =>
      obtain ⟨⟨sv, zs, front, h1⟩, h2⟩ := (h.below hV).part x List.mem_cons_self
      obtain ⟨b, c, hc⟩ : ∃ b c, x.2 = b :: c := by
        cases hx : x.2 with
        | nil => exact absurd hx h2
        | cons b c => exact ⟨b, c, rfl⟩
      have hx : (x.2.map some)[0]? = some (some b) := by rw [hc]; rfl
      refine (atP_any own _ x.1 1024 front 0 sv zs _ _ V h1 hx).mono ?_
      rintro e w' ⟨rfl, m, rfl⟩
      refine ⟨⟨0, ?_, ?_⟩, bel_drewN _ _⟩
      · rw [fl_cons, hc]; rfl
      · rw [fl_cons, hc]; rfl
  clear h
  generalize pa (fl cs).head? = x at *
  generalize pa (cs.head?.map (·.1)) = z at *
  generalize (!(fl cs).isEmpty) = b at *
  go_enter Tryz.func61, Tryz.ntmps61
  go_wp2_with fail
  refine HF.out.mono ?_
  rintro e w1 ⟨rfl, hb1⟩
  have HB : Hid (Below W.heap.size W w1) := hb1
  clear hb1
  go_wp2_with (go_at_call 96; refine (HA.out _ HB.out).mono ?_; rintro e w2 ⟨⟨y, rfl, hy⟩, hb2⟩)
  go_ret2
  exact ⟨by rw [← hy]; simp [Bool.beq_eq_decide_eq], HB.out.trans (hb2.mono HB.out.size)⟩
theorem last_of (cs : List (Nat × List Nat)) (hn : ∀ x ∈ cs, x.2 ≠ []) : (cs.getLast? = none ∧ fl cs = []) ∨ ∃ u r c b, cs = u ++ [(r, c ++ [b])] ∧ cs.getLast? = some (r, c ++ [b]) ∧ fl cs = fl u ++ c ++ [b] := by
  rcases List.eq_nil_or_concat cs with rfl | ⟨u, x, rfl⟩
  · exact .inl ⟨rfl, rfl⟩
  · obtain ⟨r, l⟩ := x
    have hl := hn (r, l) (by simp)
    rcases List.eq_nil_or_concat l with rfl | ⟨c, b, rfl⟩
    · exact absurd rfl hl
    · exact .inr ⟨u, r, c, b, by simp, by simp, by simp [fl]⟩
set_option maxHeartbeats 1000000 in
theorem last_any (h : Rw9 own j W q cs) (hq : W.cell? ⟨g, o, none⟩ = some (.pointer (some ⟨q, 0, none⟩))) :
    Calls Tryz.prog 66 #[.pointer (some ⟨g, o, none⟩)] W fun e w' => e = .returned (.tuple #[.pointer (pa (fl cs).getLast?), .bool (!(fl cs).isEmpty)]) ∧ Below W.heap.size W w' := by
  have HF : Hid (Calls Tryz.prog 91 #[.pointer (some ⟨g, o, none⟩)] W fun e w' => e = .returned (.pointer (pa (cs.getLast?.map (·.1)))) ∧ Below W.heap.size W w') := back_any h hq
  have hA : ∃ n : Nat, n ≤ 1024 ∧ (∀ V, Below W.heap.size W V → Calls Tryz.prog 105 #[.pointer (pa (cs.getLast?.map (·.1)))] V fun e w' => e = .returned (.int .i64 (n : Nat)) ∧ w' = V) ∧ (∀ V, Below W.heap.size W V → Calls Tryz.prog 96 #[.pointer (pa (cs.getLast?.map (·.1))), .int .i64 ((n : Int) - 1)] V fun e w' => (∃ y : Int, e = .returned (.tuple #[.pointer (pa (fl cs).getLast?), .int .i64 y]) ∧ decide (y = 0) = !(fl cs).isEmpty) ∧ Below V.heap.size V w') := by
    rcases last_of cs (fun x hx => (h.part x hx).2) with ⟨e1, e2⟩ | ⟨u, r, c, b, e0, e1, e2⟩
    · refine ⟨0, by omega, fun V hV => ?_, fun V hV => ?_⟩
      · rw [e1]; exact lenP_nil V
      · rw [e1, e2]
        refine (atP_nil _ V).mono ?_
        rintro e w' ⟨rfl, rfl⟩
        exact ⟨⟨3, rfl, rfl⟩, Below.refl _ _⟩
    · have hmem : (r, c ++ [b]) ∈ cs := by rw [e0]; simp
      refine ⟨(c ++ [b]).length, h.plen hmem, fun V hV => ?_, fun V hV => ?_⟩
      · obtain ⟨⟨sv, zs, front, h1⟩, h2⟩ := (h.below hV).part _ hmem
        rw [e1]
        have c3 := h1.c3
        rw [List.length_map] at c3
        exact lenP r _ V c3
      · obtain ⟨⟨sv, zs, front, h1⟩, h2⟩ := (h.below hV).part _ hmem
        rw [e1, e2]
        have hx : ((c ++ [b]).map some)[c.length]? = some (some b) := by simp
        have := atP_any own _ r 1024 front c.length sv zs _ _ V h1 hx
        rw [show (((c ++ [b]).length : Nat) : Int) - 1 = ((c.length : Nat) : Int) by simp]
        refine this.mono ?_
        rintro e w' ⟨rfl, m, rfl⟩
        refine ⟨⟨0, ?_, ?_⟩, bel_drewN _ _⟩
        · simp
        · simp
  obtain ⟨n, hn, hL, hA⟩ := hA
  have HL := hide9 hL
  have HA := hide9 hA
  clear h hL hA
  generalize pa (fl cs).getLast? = x at *
  generalize pa (cs.getLast?.map (·.1)) = z at *
  generalize (!(fl cs).isEmpty) = b at *
  go_enter Tryz.func66, Tryz.ntmps66
  go_wp2_with fail
  refine HF.out.mono ?_
  rintro e w1 ⟨rfl, hb1⟩
  have HB : Hid (Below W.heap.size W w1) := hb1
  clear hb1
  go_wp2_with (first | (go_at_call 105; refine (HL.out _ HB.out).mono ?_; rintro e w2 ⟨rfl, rfl⟩) | (go_at_call 96; refine (HA.out _ HB.out).mono ?_; rintro e w2 ⟨⟨y, rfl, hy⟩, hb2⟩))
  go_ret2
  exact ⟨by rw [← hy]; simp [Bool.beq_eq_decide_eq], HB.out.trans (hb2.mono HB.out.size)⟩
end
end Go.Proofs.YtmjhfabdbajchaaGreatDoor
set_option linter.unusedVariables false
set_option linter.unusedSimpArgs false
namespace Go.Proofs.YtmjhfabdbajchaaGreatDoor
open Go.RowKit

/-- What a method of a row leaves, but for its count. -/
def RA (own : Nat → Nat) (j : Nat) (W w' : World) (q : Nat) (l : List Nat) : Prop := ∃ own' cs, Nf own' w' ∧ FrP (Lr j) own own' W w' ∧ Rw9 own' j w' q cs ∧ fl cs = l
theorem lr2 {j : Nat} (h : j < 2) : ¬ Lr j 2 := by unfold Lr; omega
section
variable {own : Nat → Nat} {j : Nat} {W : World} {g o q : Nat} {cs : List (Nat × List Nat)}
theorem fr_cell {own' : Nat → Nat} {w' : World} {P : Nat → Prop} (hf : FrP P own own' W w') (hg : ¬ P (own g)) {k : Nat} {v : Value} (hc : W.cell? ⟨g, k, none⟩ = some v) : w'.cell? ⟨g, k, none⟩ = some v :=
  (World.cell?_of_block (a := ⟨g, k, none⟩) (hf.block g (World.block_lt_of_cell? W ⟨g, k, none⟩ hc) hg)).trans hc
theorem fr_frozen {own' : Nat → Nat} {w' : World} {P : Nat → Prop} (hf : FrP P own own' W w') (hg : ¬ P (own g)) (hlt : g < W.heap.size) {k : Nat} (hc : W.frozen? ⟨g, k, none⟩ = false) : w'.frozen? ⟨g, k, none⟩ = false := by
  have := hf.block g hlt hg
  unfold World.frozen? at hc ⊢
  simp only at hc ⊢
  rw [this]; exact hc
theorem Rw9.blk (h : Rw9 own j W q cs) {x : Nat × List Nat} (hx : x ∈ cs) : x.1 < W.heap.size := by
  obtain ⟨⟨sv, zs, front, h1⟩, _⟩ := h.part x hx
  exact blk_lt h1.blk
theorem Rw9.qlt (h : Rw9 own j W q cs) : q < W.heap.size := by
  obtain ⟨sv, zs, front, h1⟩ := h.out
  exact blk_lt h1.blk

set_option maxHeartbeats 1000000 in
/-- A push into the last ring. -/
theorem push_in (h : Rw9 own j W q cs) (hnf : Nf own W) (hg : own g = 2) (cnt : Nat) (hcn : cnt ≤ 1000000000) (hq : W.cell? ⟨g, o, none⟩ = some (.pointer (some ⟨q, 0, none⟩))) (hc : W.cell? ⟨g, o + 1, none⟩ = some (.int .i64 (cnt : Nat))) (hz : W.frozen? ⟨g, o + 1, none⟩ = false)
    (b : Nat) {u : List (Nat × List Nat)} {r : Nat} {c : List Nat} (hcs : cs = u ++ [(r, c)]) (hlt : c.length < 1024) :
    Calls Tryz.prog 59 #[.pointer (some ⟨g, o, none⟩), .pointer (some ⟨b, 0, none⟩)] W fun e w' => e = .returned (.tuple #[]) ∧ ∃ W1, w' = W1.setCell ⟨g, o + 1, none⟩ (.int .i64 ((cnt : Int) + 1)) ∧ RA own j W W1 q (fl cs ++ [b]) := by
  have hj := h.j2
  have hglt := World.block_lt_of_cell? _ _ hc
  have HF : Hid (Calls Tryz.prog 91 #[.pointer (some ⟨g, o, none⟩)] W fun e w' => e = .returned (.pointer (some ⟨r, 0, none⟩)) ∧ Below W.heap.size W w') := by
    have := back_any h hq
    rw [hcs] at this
    exact hide9 (by simpa using this)
  have HP : Hid (∀ V, Below W.heap.size W V → Calls Tryz.prog 92 #[.pointer (some ⟨r, 0, none⟩), .pointer (some ⟨b, 0, none⟩)] V fun e w' => e = .returned (.int .i64 0) ∧ Hid (RA own j W w' q (fl cs ++ [b])) ∧ w'.cell? ⟨g, o + 1, none⟩ = some (.int .i64 (cnt : Nat)) ∧ w'.frozen? ⟨g, o + 1, none⟩ = false) := fun V hV => by
    have hb := h.below hV
    rw [hcs] at hb
    obtain ⟨⟨sv, zs, front, h1⟩, h2⟩ := hb.part (r, c) (by simp)
    refine (pushP_any own _ r 1024 front sv zs _ (some b) V h1 (hnf.below hV.size) (by rw [List.length_map]; exact hlt)).mono ?_
    rintro e w' ⟨rfl, ha⟩
    have ha' : AfP own (10 + 2 * r + j) V w' r 1024 ((c ++ [b]).map some) := by rw [List.map_append]; exact ha
    obtain ⟨own', k1, k2, k3⟩ := hb.turn (c' := c ++ [b]) ha' (by simp) (by
      have hm := hb.mid
      cases u with
      | nil => intro x hx; simp at hx
      | cons y u => simp only [List.cons_append, List.tail_cons, List.dropLast_concat] at hm ⊢; exact hm)
    have hf : FrP (Lr j) own own' W w' := (FrP.of_below hV).trans k2
    refine ⟨rfl, ⟨own', _, k1, hf, k3, ?_⟩, fr_cell hf (by rw [hg]; exact lr2 hj) hc, fr_frozen hf (by rw [hg]; exact lr2 hj) hglt hz⟩
    rw [hcs]; simp [fl]
  clear h hcs hnf
  generalize fl cs = l at *
  go_enter Tryz.func59, Tryz.ntmps59
  go_wp2_with fail
  refine HF.out.mono ?_
  rintro e w1 ⟨rfl, hb1⟩
  have HB : Hid (Below W.heap.size W w1) := hb1
  clear hb1
  go_wp2_with fail
  refine (HP.out _ HB.out).mono ?_
  rintro e w2 ⟨rfl, HR, y1, y2⟩
  go_wp2_with fail
  go_end0
  exact ⟨rfl, w2, rfl, HR.out⟩

set_option maxHeartbeats 1000000 in
/-- A push where the last ring is full, or there is none. -/
theorem push_out (h : Rw9 own j W q cs) (hnf : Nf own W) (hg : own g = 2) (cnt : Nat) (hcn : cnt ≤ 1000000000) (hfl : (fl cs).length ≤ 1000000000) (hq : W.cell? ⟨g, o, none⟩ = some (.pointer (some ⟨q, 0, none⟩))) (hc : W.cell? ⟨g, o + 1, none⟩ = some (.int .i64 (cnt : Nat))) (hz : W.frozen? ⟨g, o + 1, none⟩ = false)
    (b : Nat) (hfull : cs = [] ∨ ∃ u r c, cs = u ++ [(r, c)] ∧ c.length = 1024) :
    Calls Tryz.prog 59 #[.pointer (some ⟨g, o, none⟩), .pointer (some ⟨b, 0, none⟩)] W fun e w' => e = .returned (.tuple #[]) ∧ ∃ W1, w' = W1.setCell ⟨g, o + 1, none⟩ (.int .i64 ((cnt : Int) + 1)) ∧ RA own j W W1 q (fl cs ++ [b]) := by
  have hj := h.j2
  have hglt := World.block_lt_of_cell? _ _ hc
  have hln : cs.length < 2097152 := by have := mids cs h.mid; omega
  have hmid : ∀ x ∈ cs.tail, x.2.length = 1024 := by
    rcases hfull with rfl | ⟨u, r, c, rfl, hcl⟩
    · intro x hx; simp at hx
    · have hm := h.mid
      cases u with
      | nil => intro x hx; simp at hx
      | cons y u =>
        simp only [List.cons_append, List.tail_cons, List.dropLast_concat] at hm ⊢
        intro x hx
        rcases List.mem_append.1 hx with hx | hx
        · exact hm x hx
        · rw [List.mem_singleton.1 hx]; exact hcl
  have HF : Hid (Calls Tryz.prog 91 #[.pointer (some ⟨g, o, none⟩)] W fun e w' => e = .returned (.pointer (pa (cs.getLast?.map (·.1)))) ∧ Below W.heap.size W w') := back_any h hq
  have HP0 : Hid (∀ V, Below W.heap.size W V → Calls Tryz.prog 92 #[.pointer (pa (cs.getLast?.map (·.1))), .pointer (some ⟨b, 0, none⟩)] V fun e w' => (∃ y : Int, e = .returned (.int .i64 y) ∧ y ≠ 0) ∧ Below W.heap.size W w') := fun V hV => by
    rcases hfull with rfl | ⟨u, r, c, rfl, hcl⟩
    · refine (pushP_nil (some b) V).mono ?_
      rintro e w' ⟨rfl, rfl⟩
      exact ⟨⟨3, rfl, by decide⟩, hV⟩
    · obtain ⟨⟨sv, zs, front, h1⟩, h2⟩ := (h.below hV).part (r, c) (by simp)
      have c3 := h1.c3
      rw [List.length_map, hcl] at c3
      have := pushP_full r 1024 (some b) V h1.c0 c3
      rw [show (u ++ [(r, c)]).getLast?.map (·.1) = some r by simp]
      refine this.mono ?_
      rintro e w' ⟨rfl, m, rfl⟩
      exact ⟨⟨50, rfl, by decide⟩, hV.trans ((bel_drewN V m).mono hV.size)⟩
  have HP1 : Hid (∀ V, Below W.heap.size W V → Calls Tryz.prog 92 #[.pointer (some ⟨V.heap.size, 0, none⟩), .pointer (some ⟨b, 0, none⟩)] (V.alloc (.cells #[.int .i64 1024, .slice none 0 0, .int .i64 0, .int .i64 0] 178)) fun e w' => e = .returned (.int .i64 0) ∧ Hid (∃ own2, Nf own2 w' ∧ FrP (Lr j) own own2 W w' ∧ Rw9 own2 j w' q cs ∧ (∃ sv zs front, RgP own2 (10 + 2 * V.heap.size + j) w' V.heap.size 1024 sv zs front ([b].map some)) ∧ (∀ x ∈ cs, x.1 ≠ V.heap.size)) ∧ w'.cell? ⟨g, o, none⟩ = some (.pointer (some ⟨q, 0, none⟩))) := fun V hV => by
    have hbel : Below V.heap.size V (V.alloc (.cells #[.int .i64 1024, .slice none 0 0, .int .i64 0, .int .i64 0] 178)) := (Below.refl _ _).alloc (Nat.le_refl _) _
    have hsz : (V.alloc (.cells #[.int .i64 1024, .slice none 0 0, .int .i64 0, .int .i64 0] 178)).heap.size = V.heap.size + 1 := World.size_alloc _ _
    have hb := h.below hV
    have hfr : Fr (10 + 2 * V.heap.size + j) own (fun k => if k = V.heap.size then 10 + 2 * V.heap.size + j else own k) V (V.alloc (.cells #[.int .i64 1024, .slice none 0 0, .int .i64 0, .int .i64 0] 178)) := Fr.label hbel
    have hnew : RgP (fun k => if k = V.heap.size then 10 + 2 * V.heap.size + j else own k) (10 + 2 * V.heap.size + j) (V.alloc (.cells #[.int .i64 1024, .slice none 0 0, .int .i64 0, .int .i64 0] 178)) V.heap.size 1024 (.slice none 0 0) [] 0 [] :=
      ⟨new_at _ _, if_pos rfl, by omega, by omega, by simp, .inl ⟨rfl, rfl, rfl⟩, ⟨by simp, fun i hi => absurd hi (by simp)⟩⟩
    refine (pushP_any _ _ V.heap.size 1024 0 _ [] [] (some b) _ hnew (fun k hk => ?_) (by simp)).mono ?_
    · show (if k = V.heap.size then 10 + 2 * V.heap.size + j else own k) = 0
      rw [hsz] at hk
      have := hV.size
      rw [if_neg (by omega)]; exact hnf k (by omega)
    rintro e w' ⟨rfl, own2, sv, zs, front, k1, k2, k3⟩
    have hfV := hfr.trans k2
    have hf : FrP (Lr j) own own2 W w' := (FrP.of_below hV).trans (hfV.toP (.inr ⟨by omega, by omega⟩))
    have hne : ∀ x ∈ cs, x.1 ≠ V.heap.size := fun x hx e => by have := hb.blk hx; omega
    have hP : FrP (fun i => i = 10 + 2 * V.heap.size + j) own own2 V w' := hfV.toP rfl
    refine ⟨rfl, ⟨own2, k1, hf, ?_, ⟨sv, zs, front, k3⟩, hne⟩, fr_cell hf (by rw [hg]; exact lr2 hj) hq⟩
    obtain ⟨sv, zs, front, r1⟩ := hb.out
    refine ⟨hj, ⟨sv, zs, front, r1.keptP hP (by omega)⟩, fun x hx => ?_, hb.mid, hb.nd⟩
    obtain ⟨⟨sv, zs, front, r2⟩, r3⟩ := hb.part x hx
    have := hne x hx
    exact ⟨⟨sv, zs, front, r2.keptP hP (by omega)⟩, r3⟩
  have HQ : Hid (∀ n w2, (∃ own2, Nf own2 w2 ∧ FrP (Lr j) own own2 W w2 ∧ Rw9 own2 j w2 q cs ∧ (∃ sv zs front, RgP own2 (10 + 2 * n + j) w2 n 1024 sv zs front ([b].map some)) ∧ (∀ x ∈ cs, x.1 ≠ n)) → Calls Tryz.prog 94 #[.pointer (some ⟨q, 0, none⟩), .pointer (some ⟨n, 0, none⟩)] w2 fun e w' => e = .returned (.int .i64 0) ∧ Hid (RA own j W w' q (fl cs ++ [b])) ∧ w'.cell? ⟨g, o + 1, none⟩ = some (.int .i64 (cnt : Nat)) ∧ w'.frozen? ⟨g, o + 1, none⟩ = false) := fun n w2 ⟨own2, k1, k2, k3, ⟨sv2, zs2, front2, k4⟩, k5⟩ => by
    obtain ⟨sv, zs, front, r1⟩ := k3.out
    refine (pushQ_any own2 (3 + j) q 2097152 front sv zs _ (some n) w2 r1 k1 (by rw [List.length_map]; exact hln)).mono ?_
    rintro e w' ⟨rfl, own3, sv3, zs3, front3, i1, i2, i3⟩
    have hf : FrP (Lr j) own own3 W w' := k2.trans (i2.toP (.inl rfl))
    have hP : FrP (fun i => i = 3 + j) own2 own3 w2 w' := i2.toP rfl
    refine ⟨rfl, ⟨own3, cs ++ [(n, [b])], i1, hf, ⟨hj, ⟨sv3, zs3, front3, by rw [List.map_append]; exact i3⟩, fun x hx => ?_, ?_, ?_⟩, by rw [fl_app]; rfl⟩, fr_cell hf (by rw [hg]; exact lr2 hj) hc, fr_frozen hf (by rw [hg]; exact lr2 hj) hglt hz⟩
    · rcases List.mem_append.1 hx with hx | hx
      · obtain ⟨⟨sv, zs, front, r2⟩, r3⟩ := k3.part x hx
        exact ⟨⟨sv, zs, front, r2.keptP hP (by omega)⟩, r3⟩
      · rw [List.mem_singleton.1 hx]
        exact ⟨⟨sv2, zs2, front2, k4.keptP hP (by omega)⟩, by simp⟩
    · cases cs with
      | nil => intro x hx; simp at hx
      | cons y cs => simp only [List.cons_append, List.tail_cons, List.dropLast_concat] at hmid ⊢; exact hmid
    · rw [List.map_append, List.nodup_append]
      refine ⟨k3.nd, by simp, fun a ha b hb => ?_⟩
      obtain ⟨x, hx, rfl⟩ := List.mem_map.1 ha
      simp at hb
      rw [hb]; exact k5 x hx
  clear h hfull hnf hmid
  generalize fl cs = l at *
  generalize pa (cs.getLast?.map (·.1)) = z at *
  go_enter Tryz.func59, Tryz.ntmps59
  go_wp2_with fail
  refine HF.out.mono ?_
  rintro e w1 ⟨rfl, hb1⟩
  have HB : Hid (Below W.heap.size W w1) := hb1
  clear hb1
  go_wp2_with fail
  refine (HP0.out _ HB.out).mono ?_
  rintro e w2 ⟨⟨y, rfl, hy⟩, hb2⟩
  have HB2 : Hid (Below W.heap.size W w2) := hb2
  clear hb2 HB
  have hy2 : (y == 0) = false := by simpa using hy
  go_wp2_with fail
  refine (newP 1024 _ (by omega) (by omega)).mono ?_
  rintro e w3 ⟨rfl, rfl⟩
  go_wp2_with fail
  refine (HP1.out _ HB2.out).mono ?_
  rintro e w4 ⟨rfl, HX, y1⟩
  go_wp2_with fail
  refine (HQ.out _ _ HX.out).mono ?_
  rintro e w5 ⟨rfl, HR, y2, y3⟩
  go_wp2_with fail
  go_end0
  exact ⟨rfl, w5, rfl, HR.out⟩
theorem push_any (h : Rw9 own j W q cs) (hnf : Nf own W) (hg : own g = 2) (cnt : Nat) (hcn : cnt ≤ 1000000000) (hfl : (fl cs).length ≤ 1000000000) (hq : W.cell? ⟨g, o, none⟩ = some (.pointer (some ⟨q, 0, none⟩))) (hc : W.cell? ⟨g, o + 1, none⟩ = some (.int .i64 (cnt : Nat))) (hz : W.frozen? ⟨g, o + 1, none⟩ = false) (b : Nat) :
    Calls Tryz.prog 59 #[.pointer (some ⟨g, o, none⟩), .pointer (some ⟨b, 0, none⟩)] W fun e w' => e = .returned (.tuple #[]) ∧ ∃ W1, w' = W1.setCell ⟨g, o + 1, none⟩ (.int .i64 ((cnt : Int) + 1)) ∧ RA own j W W1 q (fl cs ++ [b]) := by
  rcases List.eq_nil_or_concat cs with rfl | ⟨u, ⟨r, c⟩, hcs⟩
  · exact push_out h hnf hg cnt hcn hfl hq hc hz b (.inl rfl)
  · rw [List.concat_eq_append] at hcs
    have hl := h.plen (x := (r, c)) (by rw [hcs]; simp)
    by_cases hlt : c.length < 1024
    · exact push_in h hnf hg cnt hcn hq hc hz b hcs hlt
    · exact push_out h hnf hg cnt hcn hfl hq hc hz b (.inr ⟨u, r, c, hcs, by simp at hl; omega⟩)
end
end Go.Proofs.YtmjhfabdbajchaaGreatDoor
set_option linter.unusedVariables false
set_option linter.unusedSimpArgs false
namespace Go.Proofs.YtmjhfabdbajchaaGreatDoor
open Go.RowKit

section
variable {own : Nat → Nat} {j : Nat} {W : World} {g o q : Nat} {cs : List (Nat × List Nat)}
/-- A ring has turned that goes. -/
theorem Rw9.gone {w1 : World} {u v : List (Nat × List Nat)} {r : Nat} {c l' : List Nat} (h : Rw9 own j W q (u ++ (r, c) :: v)) (ha : AfP own (10 + 2 * r + j) W w1 r 1024 (l'.map some)) :
    ∃ own1, Nf own1 w1 ∧ FrP (Lr j) own own1 W w1 ∧ (∃ sv zs front, RgQ own1 (3 + j) w1 q 2097152 sv zs front ((u ++ (r, c) :: v).map fun x => some x.1)) ∧ (∀ x ∈ u ++ v, (∃ sv zs front, RgP own1 (10 + 2 * x.1 + j) w1 x.1 1024 sv zs front (x.2.map some)) ∧ x.2 ≠ []) := by
  obtain ⟨own', sv, zs, front, h1, h2, h3⟩ := ha
  have hj := h.j2
  have hP : FrP (fun i => i = 10 + 2 * r + j) own own' W w1 := h2.toP rfl
  refine ⟨own', h1, h2.toP (.inr ⟨by omega, by omega⟩), ?_, fun x hx => ?_⟩
  · obtain ⟨sv, zs, front, k1⟩ := h.out
    exact ⟨sv, zs, front, k1.keptP hP (by omega)⟩
  · have hnd := h.nd
    rw [List.map_append, List.map_cons] at hnd
    have hne : x.1 ≠ r := by
      intro e
      rw [List.nodup_append] at hnd
      rcases List.mem_append.1 hx with hy | hy
      · exact hnd.2.2 x.1 (List.mem_map_of_mem hy) r List.mem_cons_self e
      · have := (List.nodup_cons.1 hnd.2.1).1
        exact this (List.mem_map.2 ⟨x, hy, e⟩)
    obtain ⟨⟨sv, zs, front, k1⟩, k2⟩ := h.part x (by
      rcases List.mem_append.1 hx with hy | hy
      · exact List.mem_append_left _ hy
      · exact List.mem_append_right _ (List.mem_cons_of_mem _ hy))
    exact ⟨⟨sv, zs, front, k1.keptP hP (by omega)⟩, k2⟩
theorem Rw9.went {w1 w2 : World} {own1 : Nat → Nat} {cs' : List (Nat × List Nat)} (hj : j < 2) (hp : ∀ x ∈ cs', (∃ sv zs front, RgP own1 (10 + 2 * x.1 + j) w1 x.1 1024 sv zs front (x.2.map some)) ∧ x.2 ≠ []) (ha : AfQ own1 (3 + j) w1 w2 q 2097152 (cs'.map fun x => some x.1)) (hm : ∀ x ∈ cs'.tail.dropLast, x.2.length = 1024) (hn : (cs'.map (·.1)).Nodup) :
    ∃ own2, Nf own2 w2 ∧ FrP (Lr j) own1 own2 w1 w2 ∧ Rw9 own2 j w2 q cs' := by
  obtain ⟨own', sv, zs, front, h1, h2, h3⟩ := ha
  refine ⟨own', h1, h2.toP (.inl rfl), hj, ⟨sv, zs, front, h3⟩, fun x hx => ?_, hm, hn⟩
  obtain ⟨⟨sv, zs, front, k1⟩, k2⟩ := hp x hx
  exact ⟨⟨sv, zs, front, k1.keptP (h2.toP (P := fun i => i = 3 + j) rfl) (by omega)⟩, k2⟩

set_option maxHeartbeats 1000000 in
theorem popFront_any (h : Rw9 own j W q cs) (hnf : Nf own W) (hg : own g = 2) (cnt : Nat) (hcn : cnt ≤ 1000000000) (hq : W.cell? ⟨g, o, none⟩ = some (.pointer (some ⟨q, 0, none⟩))) (hc : W.cell? ⟨g, o + 1, none⟩ = some (.int .i64 (cnt : Nat))) (hz : W.frozen? ⟨g, o + 1, none⟩ = false)
    {b : Nat} {l : List Nat} (hl : fl cs = b :: l) :
    Calls Tryz.prog 65 #[.pointer (some ⟨g, o, none⟩)] W fun e w' => e = .returned (.tuple #[]) ∧ ∃ W1, w' = W1.setCell ⟨g, o + 1, none⟩ (.int .i64 ((cnt : Int) - 1)) ∧ RA own j W W1 q l := by
  have hj := h.j2
  have hglt := World.block_lt_of_cell? _ _ hc
  obtain ⟨r, c, t, hcs⟩ : ∃ r c t, cs = (r, b :: c) :: t := by
    cases cs with
    | nil => cases hl
    | cons x t =>
      obtain ⟨r, k⟩ := x
      have := (h.part (r, k) List.mem_cons_self).2
      cases k with
      | nil => exact absurd rfl this
      | cons y c =>
        rw [fl_cons] at hl
        simp at hl
        exact ⟨r, c, t, by rw [hl.1]⟩
  have hlc : l = c ++ fl t := by
    rw [hcs, fl_cons] at hl
    simpa using hl.symm
  have HF : Hid (Calls Tryz.prog 95 #[.pointer (some ⟨g, o, none⟩)] W fun e w' => e = .returned (.pointer (some ⟨r, 0, none⟩)) ∧ Below W.heap.size W w') := by
    have := front_any h hq
    rw [hcs] at this
    exact this
  subst hcs
  have hpop : ∀ V, Below W.heap.size W V → Calls Tryz.prog 104 #[.pointer (some ⟨r, 0, none⟩)] V fun e w' => e = .returned (.tuple #[.pointer (some ⟨b, 0, none⟩), .int .i64 0]) ∧ AfP own (10 + 2 * r + j) V w' r 1024 (c.map some) ∧ Rw9 own j V q ([] ++ (r, b :: c) :: t) := fun V hV => by
    have hb := h.below hV
    obtain ⟨⟨sv, zs, front, h1⟩, h2⟩ := hb.part (r, b :: c) List.mem_cons_self
    refine (popFP_any own _ r 1024 front sv zs _ (some b) V h1 (hnf.below hV.size) rfl).mono ?_
    rintro e w' ⟨rfl, ha⟩
    exact ⟨rfl, ha, hb⟩
  by_cases hce : c = []
  · subst hce
    have HP : Hid (∀ V, Below W.heap.size W V → Calls Tryz.prog 104 #[.pointer (some ⟨r, 0, none⟩)] V fun e w' => e = .returned (.tuple #[.pointer (some ⟨b, 0, none⟩), .int .i64 0]) ∧ Hid (∃ own1, Nf own1 w' ∧ FrP (Lr j) own own1 W w' ∧ (∃ sv zs front, RgQ own1 (3 + j) w' q 2097152 sv zs front (((r, [b]) :: t).map fun x => some x.1)) ∧ (∀ x ∈ t, (∃ sv zs front, RgP own1 (10 + 2 * x.1 + j) w' x.1 1024 sv zs front (x.2.map some)) ∧ x.2 ≠ [])) ∧ w'.cell? ⟨r, 3, none⟩ = some (.int .i64 0) ∧ w'.cell? ⟨g, o, none⟩ = some (.pointer (some ⟨q, 0, none⟩))) := fun V hV => by
      refine (hpop V hV).mono ?_
      rintro e w' ⟨rfl, ha, hb⟩
      have c3 : w'.cell? ⟨r, 3, none⟩ = some (.int .i64 0) := by
        obtain ⟨_, _, _, _, _, _, i3⟩ := ha
        exact i3.c3
      obtain ⟨own1, k1, k2, k3, k4⟩ := hb.gone (l' := []) ha
      have hf := (FrP.of_below (P := Lr j) (own := own) hV).trans k2
      exact ⟨rfl, ⟨own1, k1, hf, k3, k4⟩, c3, fr_cell hf (by rw [hg]; exact lr2 hj) hq⟩
    have HL : Hid (∀ w', w'.cell? ⟨r, 3, none⟩ = some (.int .i64 0) → Calls Tryz.prog 105 #[.pointer (some ⟨r, 0, none⟩)] w' fun e w2 => e = .returned (.int .i64 0) ∧ w2 = w') := fun w' hw => lenP r 0 w' hw
    have HQ : Hid (∀ w1, (∃ own1, Nf own1 w1 ∧ FrP (Lr j) own own1 W w1 ∧ (∃ sv zs front, RgQ own1 (3 + j) w1 q 2097152 sv zs front (((r, [b]) :: t).map fun x => some x.1)) ∧ (∀ x ∈ t, (∃ sv zs front, RgP own1 (10 + 2 * x.1 + j) w1 x.1 1024 sv zs front (x.2.map some)) ∧ x.2 ≠ [])) → Calls Tryz.prog 106 #[.pointer (some ⟨q, 0, none⟩)] w1 fun e w' => e = .returned (.tuple #[.pointer (some ⟨r, 0, none⟩), .int .i64 0]) ∧ Hid (RA own j W w' q l) ∧ w'.cell? ⟨g, o + 1, none⟩ = some (.int .i64 (cnt : Nat)) ∧ w'.frozen? ⟨g, o + 1, none⟩ = false) := fun w1 ⟨own1, k1, k2, ⟨sv, zs, front, k3⟩, k4⟩ => by
      refine (popFQ_any own1 (3 + j) q 2097152 front sv zs _ (some r) w1 k3 k1 rfl).mono ?_
      rintro e w' ⟨rfl, ha⟩
      obtain ⟨own2, i1, i2, i3⟩ := Rw9.went hj k4 ha (by
        have hm := h.mid
        rw [List.tail_cons] at hm
        intro x hx
        refine hm x ?_
        cases t with
        | nil => simp at hx
        | cons y t => 
          rw [List.tail_cons] at hx
          cases t with
          | nil => simp at hx
          | cons z t => rw [List.dropLast_cons_of_ne_nil (by simp)]; exact List.mem_cons_of_mem _ hx) (by have := h.nd; rw [List.map_cons] at this; exact (List.nodup_cons.1 this).2)
      have hf := k2.trans i2
      exact ⟨rfl, ⟨own2, t, i1, hf, i3, by rw [hlc]; rfl⟩, fr_cell hf (by rw [hg]; exact lr2 hj) hc, fr_frozen hf (by rw [hg]; exact lr2 hj) hglt hz⟩
    clear h hpop hl hlc hnf
    go_enter Tryz.func65, Tryz.ntmps65
    go_wp2_with fail
    refine HF.out.mono ?_
    rintro e w1 ⟨rfl, hb1⟩
    have HB : Hid (Below W.heap.size W w1) := hb1
    clear hb1
    go_wp2_with fail
    refine (HP.out _ HB.out).mono ?_
    rintro e w2 ⟨rfl, HX, y1, y2⟩
    go_wp2_with fail
    refine (HL.out _ y1).mono ?_
    rintro e w3 ⟨rfl, rfl⟩
    go_wp2_with fail
    refine (HQ.out _ HX.out).mono ?_
    rintro e w5 ⟨rfl, HR, y3, y4⟩
    go_wp2_with fail
    go_end0
    exact ⟨rfl, w5, rfl, HR.out⟩
  · have hlen : 0 < c.length := List.length_pos_iff.2 hce
    have hle : c.length < 1024 := by have := h.plen (x := (r, b :: c)) List.mem_cons_self; simp at this; omega
    have HP : Hid (∀ V, Below W.heap.size W V → Calls Tryz.prog 104 #[.pointer (some ⟨r, 0, none⟩)] V fun e w' => e = .returned (.tuple #[.pointer (some ⟨b, 0, none⟩), .int .i64 0]) ∧ Hid (RA own j W w' q l) ∧ w'.cell? ⟨r, 3, none⟩ = some (.int .i64 (c.length : Nat)) ∧ w'.cell? ⟨g, o + 1, none⟩ = some (.int .i64 (cnt : Nat)) ∧ w'.frozen? ⟨g, o + 1, none⟩ = false) := fun V hV => by
      refine (hpop V hV).mono ?_
      rintro e w' ⟨rfl, ha, hb⟩
      have c3 : w'.cell? ⟨r, 3, none⟩ = some (.int .i64 (c.length : Nat)) := by
        obtain ⟨_, _, _, _, _, _, i3⟩ := ha
        have := i3.c3
        rw [List.length_map] at this; exact this
      obtain ⟨own1, k1, k2, k3⟩ := hb.turn (c' := c) ha hce hb.mid
      have hf := (FrP.of_below (P := Lr j) (own := own) hV).trans k2
      exact ⟨rfl, ⟨own1, _, k1, hf, k3, by rw [hlc]; rfl⟩, c3, fr_cell hf (by rw [hg]; exact lr2 hj) hc, fr_frozen hf (by rw [hg]; exact lr2 hj) hglt hz⟩
    have HL : Hid (∀ w', w'.cell? ⟨r, 3, none⟩ = some (.int .i64 (c.length : Nat)) → Calls Tryz.prog 105 #[.pointer (some ⟨r, 0, none⟩)] w' fun e w2 => e = .returned (.int .i64 (c.length : Nat)) ∧ w2 = w') := fun w' hw => lenP r c.length w' hw
    clear h hpop hl hlc hnf
    generalize c.length = n at *
    have q1 : ((n : Int) == 0) = false := by simp; omega
    have q2 : ¬ ((n : Int) = 0) := by omega
    have q3 : ¬ (n = 0) := by omega
    go_enter Tryz.func65, Tryz.ntmps65
    go_wp2_with fail
    refine HF.out.mono ?_
    rintro e w1 ⟨rfl, hb1⟩
    have HB : Hid (Below W.heap.size W w1) := hb1
    clear hb1
    go_wp2_with fail
    refine (HP.out _ HB.out).mono ?_
    rintro e w2 ⟨rfl, HX, y1, y2, y3⟩
    go_wp2_with fail
    refine (HL.out _ y1).mono ?_
    rintro e w3 ⟨rfl, rfl⟩
    go_wp2_with fail
    go_end0
    exact ⟨rfl, w3, rfl, HX.out⟩

set_option maxHeartbeats 1000000 in
theorem popBack_any (h : Rw9 own j W q cs) (hnf : Nf own W) (hg : own g = 2) (cnt : Nat) (hcn : cnt ≤ 1000000000) (hq : W.cell? ⟨g, o, none⟩ = some (.pointer (some ⟨q, 0, none⟩))) (hc : W.cell? ⟨g, o + 1, none⟩ = some (.int .i64 (cnt : Nat))) (hz : W.frozen? ⟨g, o + 1, none⟩ = false)
    {b : Nat} {l : List Nat} (hl : fl cs = l ++ [b]) :
    Calls Tryz.prog 107 #[.pointer (some ⟨g, o, none⟩)] W fun e w' => e = .returned (.tuple #[]) ∧ ∃ W1, w' = W1.setCell ⟨g, o + 1, none⟩ (.int .i64 ((cnt : Int) - 1)) ∧ RA own j W W1 q l := by
  have hj := h.j2
  have hglt := World.block_lt_of_cell? _ _ hc
  obtain ⟨t, r, c, hcs, hlast, hlc⟩ : ∃ t r c, cs = t ++ [(r, c ++ [b])] ∧ cs.getLast? = some (r, c ++ [b]) ∧ l = fl t ++ c := by
    rcases last_of cs (fun x hx => (h.part x hx).2) with ⟨e1, e2⟩ | ⟨u, r, c, b', e0, e1, e2⟩
    · rw [e2] at hl; simp at hl
    · rw [e2] at hl
      have := List.append_inj' hl rfl
      have hb : b' = b := by simpa using this.2
      subst hb
      exact ⟨u, r, c, e0, e1, this.1.symm⟩
  have HF : Hid (Calls Tryz.prog 91 #[.pointer (some ⟨g, o, none⟩)] W fun e w' => e = .returned (.pointer (some ⟨r, 0, none⟩)) ∧ Below W.heap.size W w') := by
    have := back_any h hq
    rw [hlast] at this
    exact this
  clear hlast
  subst hcs
  have hx0 : ((c ++ [b]).map some)[((c ++ [b]).map some).length - 1]? = some (some b) := by simp
  have hpop : ∀ V, Below W.heap.size W V → Calls Tryz.prog 138 #[.pointer (some ⟨r, 0, none⟩)] V fun e w' => e = .returned (.tuple #[.pointer (some ⟨b, 0, none⟩), .int .i64 0]) ∧ AfP own (10 + 2 * r + j) V w' r 1024 (c.map some) ∧ Rw9 own j V q (t ++ (r, c ++ [b]) :: []) := fun V hV => by
    have hb := h.below hV
    obtain ⟨⟨sv, zs, front, h1⟩, h2⟩ := hb.part (r, c ++ [b]) (by simp)
    refine (popBP_any own _ r 1024 front sv zs _ (some b) V h1 (hnf.below hV.size) (by simp) hx0).mono ?_
    rintro e w' ⟨rfl, ha⟩
    refine ⟨rfl, ?_, hb⟩
    rw [List.map_append, List.map_singleton, List.dropLast_concat] at ha
    exact ha
  by_cases hce : c = []
  · subst hce
    have HP : Hid (∀ V, Below W.heap.size W V → Calls Tryz.prog 138 #[.pointer (some ⟨r, 0, none⟩)] V fun e w' => e = .returned (.tuple #[.pointer (some ⟨b, 0, none⟩), .int .i64 0]) ∧ Hid (∃ own1, Nf own1 w' ∧ FrP (Lr j) own own1 W w' ∧ (∃ sv zs front, RgQ own1 (3 + j) w' q 2097152 sv zs front ((t ++ [(r, [b])]).map fun x => some x.1)) ∧ (∀ x ∈ t, (∃ sv zs front, RgP own1 (10 + 2 * x.1 + j) w' x.1 1024 sv zs front (x.2.map some)) ∧ x.2 ≠ [])) ∧ w'.cell? ⟨r, 3, none⟩ = some (.int .i64 0) ∧ w'.cell? ⟨g, o, none⟩ = some (.pointer (some ⟨q, 0, none⟩))) := fun V hV => by
      refine (hpop V hV).mono ?_
      rintro e w' ⟨rfl, ha, hb⟩
      have c3 : w'.cell? ⟨r, 3, none⟩ = some (.int .i64 0) := by
        obtain ⟨_, _, _, _, _, _, i3⟩ := ha
        exact i3.c3
      obtain ⟨own1, k1, k2, k3, k4⟩ := hb.gone (l' := []) ha
      have hf := (FrP.of_below (P := Lr j) (own := own) hV).trans k2
      exact ⟨rfl, ⟨own1, k1, hf, k3, fun x hx => k4 x (by simpa using hx)⟩, c3, fr_cell hf (by rw [hg]; exact lr2 hj) hq⟩
    have HL : Hid (∀ w', w'.cell? ⟨r, 3, none⟩ = some (.int .i64 0) → Calls Tryz.prog 105 #[.pointer (some ⟨r, 0, none⟩)] w' fun e w2 => e = .returned (.int .i64 0) ∧ w2 = w') := fun w' hw => lenP r 0 w' hw
    have HQ : Hid (∀ w1, (∃ own1, Nf own1 w1 ∧ FrP (Lr j) own own1 W w1 ∧ (∃ sv zs front, RgQ own1 (3 + j) w1 q 2097152 sv zs front ((t ++ [(r, [b])]).map fun x => some x.1)) ∧ (∀ x ∈ t, (∃ sv zs front, RgP own1 (10 + 2 * x.1 + j) w1 x.1 1024 sv zs front (x.2.map some)) ∧ x.2 ≠ [])) → Calls Tryz.prog 139 #[.pointer (some ⟨q, 0, none⟩)] w1 fun e w' => e = .returned (.tuple #[.pointer (some ⟨r, 0, none⟩), .int .i64 0]) ∧ Hid (RA own j W w' q l) ∧ w'.cell? ⟨g, o + 1, none⟩ = some (.int .i64 (cnt : Nat)) ∧ w'.frozen? ⟨g, o + 1, none⟩ = false) := fun w1 ⟨own1, k1, k2, ⟨sv, zs, front, k3⟩, k4⟩ => by
      refine (popBQ_any own1 (3 + j) q 2097152 front sv zs _ (some r) w1 k3 k1 (by simp) (by simp)).mono ?_
      rintro e w' ⟨rfl, ha⟩
      have ha' : AfQ own1 (3 + j) w1 w' q 2097152 (t.map fun x => some x.1) := by
        rw [List.map_append, List.map_singleton, List.dropLast_concat] at ha
        exact ha
      obtain ⟨own2, i1, i2, i3⟩ := Rw9.went hj k4 ha' (by
        have hm := h.mid
        cases t with
        | nil => intro x hx; simp at hx
        | cons y t =>
          simp only [List.cons_append, List.tail_cons, List.dropLast_concat] at hm
          intro x hx
          exact hm x ((List.dropLast_sublist _).subset hx)) (by have := h.nd; rw [List.map_append, List.nodup_append] at this; exact this.1)
      have hf := k2.trans i2
      exact ⟨rfl, ⟨own2, t, i1, hf, i3, by rw [hlc]; simp⟩, fr_cell hf (by rw [hg]; exact lr2 hj) hc, fr_frozen hf (by rw [hg]; exact lr2 hj) hglt hz⟩
    clear h hpop hl hlc hnf hx0
    go_enter Tryz.func107, Tryz.ntmps107
    go_wp2_with fail
    refine HF.out.mono ?_
    rintro e w1 ⟨rfl, hb1⟩
    have HB : Hid (Below W.heap.size W w1) := hb1
    clear hb1
    go_wp2_with fail
    refine (HP.out _ HB.out).mono ?_
    rintro e w2 ⟨rfl, HX, y1, y2⟩
    go_wp2_with fail
    refine (HL.out _ y1).mono ?_
    rintro e w3 ⟨rfl, rfl⟩
    go_wp2_with fail
    refine (HQ.out _ HX.out).mono ?_
    rintro e w5 ⟨rfl, HR, y3, y4⟩
    go_wp2_with fail
    go_end0
    exact ⟨rfl, w5, rfl, HR.out⟩
  · have hlen : 0 < c.length := List.length_pos_iff.2 hce
    have hle : c.length < 1024 := by have := h.plen (x := (r, c ++ [b])) (by simp); simp at this; omega
    have HP : Hid (∀ V, Below W.heap.size W V → Calls Tryz.prog 138 #[.pointer (some ⟨r, 0, none⟩)] V fun e w' => e = .returned (.tuple #[.pointer (some ⟨b, 0, none⟩), .int .i64 0]) ∧ Hid (RA own j W w' q l) ∧ w'.cell? ⟨r, 3, none⟩ = some (.int .i64 (c.length : Nat)) ∧ w'.cell? ⟨g, o + 1, none⟩ = some (.int .i64 (cnt : Nat)) ∧ w'.frozen? ⟨g, o + 1, none⟩ = false) := fun V hV => by
      refine (hpop V hV).mono ?_
      rintro e w' ⟨rfl, ha, hb⟩
      have c3 : w'.cell? ⟨r, 3, none⟩ = some (.int .i64 (c.length : Nat)) := by
        obtain ⟨_, _, _, _, _, _, i3⟩ := ha
        have := i3.c3
        rw [List.length_map] at this; exact this
      obtain ⟨own1, k1, k2, k3⟩ := hb.turn (c' := c) ha hce (by
        have hm := hb.mid
        cases t with
        | nil => intro x hx; simp at hx
        | cons y t => simp only [List.cons_append, List.tail_cons, List.dropLast_concat] at hm ⊢; exact hm)
      have hf := (FrP.of_below (P := Lr j) (own := own) hV).trans k2
      exact ⟨rfl, ⟨own1, _, k1, hf, k3, by rw [hlc]; simp [fl]⟩, c3, fr_cell hf (by rw [hg]; exact lr2 hj) hc, fr_frozen hf (by rw [hg]; exact lr2 hj) hglt hz⟩
    have HL : Hid (∀ w', w'.cell? ⟨r, 3, none⟩ = some (.int .i64 (c.length : Nat)) → Calls Tryz.prog 105 #[.pointer (some ⟨r, 0, none⟩)] w' fun e w2 => e = .returned (.int .i64 (c.length : Nat)) ∧ w2 = w') := fun w' hw => lenP r c.length w' hw
    clear h hpop hl hlc hnf hx0
    generalize c.length = n at *
    have q1 : ((n : Int) == 0) = false := by simp; omega
    have q2 : ¬ ((n : Int) = 0) := by omega
    have q3 : ¬ (n = 0) := by omega
    go_enter Tryz.func107, Tryz.ntmps107
    go_wp2_with fail
    refine HF.out.mono ?_
    rintro e w1 ⟨rfl, hb1⟩
    have HB : Hid (Below W.heap.size W w1) := hb1
    clear hb1
    go_wp2_with fail
    refine (HP.out _ HB.out).mono ?_
    rintro e w2 ⟨rfl, HX, y1, y2, y3⟩
    go_wp2_with fail
    refine (HL.out _ y1).mono ?_
    rintro e w3 ⟨rfl, rfl⟩
    go_wp2_with fail
    go_end0
    exact ⟨rfl, w3, rfl, HX.out⟩
end
end Go.Proofs.YtmjhfabdbajchaaGreatDoor
