import Derived.Test.YtkmmcpkakpglkaaDoorSm
set_option linter.unusedVariables false
set_option linter.unusedSimpArgs false
namespace Go.Proofs.YtkmmcpkakpglkaaDoor
open Go.RowKit
open Go.Lib (strCells strCells_length)

def rk (ov : Value) (nw : Bool) (ind col wait : Int) : Array Value := #[ov, .bool nw, .int .i64 ind, .int .i64 col, .int .i64 wait]

/-- The document's sink, inside a call. -/
structure RB (own : Nat → Nat) (i : Nat) (w0 : World) (g : Nat) (w : World) (ov : Value) (nw : Bool) (ind col wait : Int) (out : List UInt8) : Prop where
  blk : w.heap[g]? = some (.cells (rk ov nw ind col wait) 68 (0, 0))
  row : w.ownsRow 0 5 1 ov out.length (bc out)
  lab : ∀ k, ov.ownBlock = some k → own k = i ∨ w0.heap.size ≤ k
  kp : Kp (fun k => own k = i) w0 w
  gi : own g = i

section
variable {own : Nat → Nat} {i : Nat} {w0 : World} {g : Nat} {w : World} {ov : Value} {nw : Bool} {ind col wait : Int} {out : List UInt8}
theorem RB.c0 (h : RB own i w0 g w ov nw ind col wait out) : w.cell? ⟨g, 0, none⟩ = some ov := blk_cell h.blk rfl
theorem RB.c1 (h : RB own i w0 g w ov nw ind col wait out) : w.cell? ⟨g, 1, none⟩ = some (.bool nw) := blk_cell h.blk rfl
theorem RB.c2 (h : RB own i w0 g w ov nw ind col wait out) : w.cell? ⟨g, 2, none⟩ = some (.int .i64 ind) := blk_cell h.blk rfl
theorem RB.c3 (h : RB own i w0 g w ov nw ind col wait out) : w.cell? ⟨g, 3, none⟩ = some (.int .i64 col) := blk_cell h.blk rfl
theorem RB.c4 (h : RB own i w0 g w ov nw ind col wait out) : w.cell? ⟨g, 4, none⟩ = some (.int .i64 wait) := blk_cell h.blk rfl
theorem RB.fz (h : RB own i w0 g w ov nw ind col wait out) (k : Nat) : w.frozen? ⟨g, k, none⟩ = false := blk_frozen h.blk
theorem RB.below {w' : World} (h : RB own i w0 g w ov nw ind col wait out) (hb : Below w.heap.size w w') : RB own i w0 g w' ov nw ind col wait out :=
  ⟨blk_below h.blk hb, row_below h.row hb, h.lab, h.kp.step (Kp.of_below (S := fun k => own k = i) hb) (fun _ _ h => h), h.gi⟩
theorem RB.setk (h : RB own i w0 g w ov nw ind col wait out) (k : Nat) (v : Value) {cs : Array Value} (hc : (rk ov nw ind col wait).setIfInBounds k v = cs) : (w.setCell ⟨g, k, none⟩ v).heap[g]? = some (.cells cs 68 (0, 0)) ∧ (w.setCell ⟨g, k, none⟩ v).ownsRow 0 5 1 ov out.length (bc out) ∧ Kp (fun k => own k = i) w0 (w.setCell ⟨g, k, none⟩ v) := by
  have hne := row_ne h.row h.blk (by decide)
  refine ⟨by rw [← hc]; exact blk_set h.blk k v, (Kp.set w g k v).row h.row (fun j e1 e2 => hne (by rw [e1, e2])), h.kp.step (Kp.set w g k v) (fun j _ e => by subst e; exact h.gi)⟩
theorem RB.set1 (h : RB own i w0 g w ov nw ind col wait out) (b : Bool) : RB own i w0 g (w.setCell ⟨g, 1, none⟩ (.bool b)) ov b ind col wait out := by
  obtain ⟨a1, a2, a3⟩ := h.setk 1 (.bool b) (cs := rk ov b ind col wait) rfl
  exact ⟨a1, a2, h.lab, a3, h.gi⟩
theorem RB.set2 (h : RB own i w0 g w ov nw ind col wait out) (z : Int) : RB own i w0 g (w.setCell ⟨g, 2, none⟩ (.int .i64 z)) ov nw z col wait out := by
  obtain ⟨a1, a2, a3⟩ := h.setk 2 (.int .i64 z) (cs := rk ov nw z col wait) rfl
  exact ⟨a1, a2, h.lab, a3, h.gi⟩
theorem RB.set3 (h : RB own i w0 g w ov nw ind col wait out) (z : Int) : RB own i w0 g (w.setCell ⟨g, 3, none⟩ (.int .i64 z)) ov nw ind z wait out := by
  obtain ⟨a1, a2, a3⟩ := h.setk 3 (.int .i64 z) (cs := rk ov nw ind z wait) rfl
  exact ⟨a1, a2, h.lab, a3, h.gi⟩
theorem RB.set4 (h : RB own i w0 g w ov nw ind col wait out) (z : Int) : RB own i w0 g (w.setCell ⟨g, 4, none⟩ (.int .i64 z)) ov nw ind col z out := by
  obtain ⟨a1, a2, a3⟩ := h.setk 4 (.int .i64 z) (cs := rk ov nw ind col z) rfl
  exact ⟨a1, a2, h.lab, a3, h.gi⟩
theorem RB.clear (h : RB own i w0 g w ov nw ind col wait out) : RB own i w0 g (w.setCell ⟨g, 0, none⟩ (.slice none 0 0)) (.slice none 0 0) nw ind col wait [] :=
  ⟨blk_set h.blk 0 _, World.ownsRow_nil _ _ _ _, fun k hk => (by cases hk), h.kp.step (Kp.set w g 0 _) (fun j _ e => by subst e; exact h.gi), h.gi⟩
/-- Behind an append. -/
theorem RB.put {w2 : World} {v2 : Value} {l : List UInt8} (h : RB own i w0 g w ov nw ind col wait out) (hg : w.grownBy w2 ov.ownBlock) (ho : w2.ownsRow 0 5 1 v2 (out.length + l.length) (bc out ++ bc l)) (hat : v2.ownBlock = ov.ownBlock ∨ v2.ownBlock = some w.heap.size) : RB own i w0 g (w2.setCell ⟨g, 0, none⟩ v2) v2 nw ind col wait (out ++ l) := by
  have hk := Kp.of_grown hg
  have hne := row_ne h.row h.blk (by decide)
  have hb2 := hk.blk h.blk (fun e => hne e.symm)
  have hne2 := row_ne ho hb2 (by decide)
  refine ⟨blk_set hb2 0 v2, ?_, ?_, ?_, h.gi⟩
  · rw [List.length_append, bc_app]
    exact (Kp.set w2 g 0 v2).row ho (fun k e1 e2 => hne2 (by rw [e1, e2]))
  · intro k hk
    rcases hat with h3 | h3
    · exact h.lab k (by rw [← h3]; exact hk)
    · rw [h3] at hk; injection hk with hk; subst hk; exact .inr h.kp.size
  · refine (h.kp.step hk (fun j hj e => ?_)).step (Kp.set w2 g 0 v2) (fun j _ e => by subst e; exact h.gi)
    rcases h.lab j e.symm with h | h
    · exact h
    · omega
theorem RB.mid {w2 : World} (h : RB own i w0 g w ov nw ind col wait out) (hg : w.grownBy w2 ov.ownBlock) : w2.heap[g]? = some (.cells (rk ov nw ind col wait) 68 (0, 0)) :=
  (Kp.of_grown hg).blk h.blk (fun e => row_ne h.row h.blk (by decide) e.symm)
end

/-- The document's sink at block g, of the label i. -/
structure RSK (own : Nat → Nat) (i : Nat) (w : World) (g : Nat) (s : St6) : Prop where
  lab : own g = i
  ex : ∃ (ov : Value) (ind col : Nat), w.heap[g]? = some (.cells (rk ov s.fresh ind col s.wait) 68 (0, 0)) ∧ s.col = (if s.fresh then ind else col) ∧ (w.ownsRow 0 5 1 ov s.out.length (bc s.out) ∧ ∀ k, ov.ownBlock = some k → own k = i)

theorem RSK.kept {own own' : Nat → Nat} {i j : Nat} {w w' : World} {g : Nat} {s : St6} (h : RSK own i w g s) (hf : Fr j own own' w w') (hij : i ≠ j) : RSK own' i w' g s := by
  obtain ⟨ov, ind, col, h1, h2, h3⟩ := h.ex
  exact ⟨(hf.old g (blk_lt h1)).trans h.lab, ov, ind, col, (hf.block g (blk_lt h1) (by rw [h.lab]; exact hij)).trans h1, h2, fr_row hf hij h3⟩
theorem RSK.below {own : Nat → Nat} {i : Nat} {w w' : World} {g : Nat} {s : St6} (h : RSK own i w g s) (hb : Below w.heap.size w w') : RSK own i w' g s :=
  h.kept (Fr.of_below (i := i + 1) hb) (by omega)
theorem RSK.len {own : Nat → Nat} {i : Nat} {w : World} {g : Nat} {s : St6} (h : RSK own i w g s) : g < w.heap.size := by
  obtain ⟨ov, ind, col, h1, _⟩ := h.ex
  exact blk_lt h1
theorem RSK.open {own : Nat → Nat} {i : Nat} {w : World} {g : Nat} {s : St6} (h : RSK own i w g s) : ∃ (ov : Value) (ind col : Nat), RB own i w g w ov s.fresh ind col s.wait s.out ∧ s.col = (if s.fresh then ind else col) := by
  obtain ⟨ov, ind, col, h1, h2, h3⟩ := h.ex
  exact ⟨ov, ind, col, ⟨h1, h3.1, fun k hk => .inl (h3.2 k hk), Kp.refl _ _, h.lab⟩, h2⟩

def AfR (own : Nat → Nat) (i : Nat) (w w' : World) (g : Nat) (s : St6) : Prop := ∃ own', Nf own' w' ∧ Fr i own own' w w' ∧ RSK own' i w' g s
theorem AfR.here {own : Nat → Nat} {i : Nat} {w w' : World} {g : Nat} {s : St6} (h : RSK own i w g s) (hn : Nf own w) (hb : Below w.heap.size w w') : AfR own i w w' g s :=
  ⟨own, hn.below hb.size, Fr.of_below hb, h.below hb⟩
theorem RB.fin {own : Nat → Nat} {i : Nat} {w0 : World} {g : Nat} {w : World} {ov : Value} {nw : Bool} {ind col wait : Nat} {out : List UInt8} (h : RB own i w0 g w ov nw ind col wait out) (hn : Nf own w0) (hlt : g < w0.heap.size) (s : St6) (h1 : s.fresh = nw) (h2 : s.col = (if nw then ind else col)) (h3 : s.wait = wait) (h4 : s.out = out) : AfR own i w0 w g s := by
  subst h1 h3 h4
  have hs := h.kp.size
  have lt1 := fun k hk => (h.row.lt k hk).2
  refine ⟨fun k => if k < w0.heap.size then own k else if ov.ownBlock = some k then i else 0, ?_, h.kp.fr (fun k _ e => e) (fun k hk => if_pos hk), ?_, ov, ind, col, h.blk, h2, h.row, ?_⟩
  · intro k hkk
    show (if k < w0.heap.size then own k else if ov.ownBlock = some k then i else 0) = 0
    rw [if_neg (by omega), if_neg]
    intro e
    have := lt1 k e; omega
  · show (if g < w0.heap.size then own g else _) = i
    rw [if_pos hlt]; exact h.gi
  · intro k e
    show (if k < w0.heap.size then own k else if ov.ownBlock = some k then i else 0) = i
    by_cases hkk : k < w0.heap.size
    · rw [if_pos hkk]
      rcases h.lab k e with h | h
      · exact h
      · omega
    · rw [if_neg hkk, if_pos e]

theorem rnew_any (w : World) : Calls Tryd.prog 18 #[] w fun e w' => e = .returned (.pointer (some ⟨w.heap.size, 0, none⟩)) ∧ w' = w.alloc (.cells (rk (.slice none 0 0) true 0 0 0) 68) := by
  go_enter Tryd.func18, Tryd.ntmps18
  go_wp2_with fail
  go_ret
  exact ⟨rfl, rfl⟩

set_option maxHeartbeats 1000000 in
theorem rblanks_loop (own : Nat → Nat) (i : Nat) (w0 : World) (g : Nat) (w : World) (ov : Value) (nw : Bool) (ind col wait : Int) (out : List UInt8) (n : Nat) (h : RB own i w0 g w ov nw ind col wait out) (hn : out.length + n ≤ 1073741824) :
    Calls Tryd.prog 50 #[.pointer (some ⟨g, 0, none⟩), .int .i64 n] w fun e w' => e = .returned (.tuple #[]) ∧ ∃ ov', RB own i w0 g w' ov' nw ind col wait (out ++ List.replicate n 32) := by
  obtain ⟨i0, hi, hz0, hz1, hz2⟩ := info_parts Tryd.info5
  have HH : Hid (RB own i w0 g w ov nw ind col wait out) := h
  clear h
  go_enter Tryd.func50, Tryd.ntmps50
  go_wp2_with fail
  go_loopw [4] (fun j wr => ∃ k : Nat, k ≤ n ∧ j = .int .i64 k ∧ Hid (∃ ov', RB own i w0 g wr ov' nw ind col wait (out ++ List.replicate k 32))) (fun j _ => n - (intOf j).toNat)
  case atStart => exact ⟨0, by omega, rfl, ov, by simpa using HH.out⟩
  case round =>
    obtain ⟨k, hk, rfl, HI⟩ := hrel
    obtain ⟨v, h⟩ := HI.out
    by_cases hlt : k < n
    · have c0 := h.c0
      have hgl := blk_lt h.blk
      have q1 : (k : Int) < n := by omega
      obtain ⟨o, ho⟩ : ∃ o, o = out ++ List.replicate k 32 := ⟨_, rfl⟩
      have hol : o.length ≤ 1073741824 := by rw [ho, List.length_append, List.length_replicate]; omega
      rw [← ho] at h
      obtain ⟨p, cap, rfl, _, _⟩ := row_shape h.row
      have HB : Hid (RB own i w0 g (wr.alloc (.cells #[.int .u8 32] 5)) (.slice p o.length cap) nw ind col wait o) := h.below ((Below.refl _ _).alloc (Nat.le_refl _) _)
      have HO : Hid (o ++ [32] = out ++ List.replicate (k + 1) 32) := by
        show _ = _
        rw [ho, List.append_assoc, List.replicate_succ']
      clear h HI ho
      go_wp2_with (first | (at_builtin; refine wpList_append_own_at (P := Tryd.prog) (w := wr.alloc (.cells #[.int .u8 32] 5)) rfl _ _ 39 rfl 0 5 i0 (.int .u8 0) 1 1 Tryd.underlying39 hi hz0 hz1 hz2 rfl (by decide) _ _ _ rfl HB.out.row ⟨wr.heap.size, 0, none⟩ 1 1 [.int .u8 32] rfl rfl ?c1 ?c2 ?c3 ?c4 ?c5 ?_))
      case c1 => exact cell_one_new _ _ _
      case c2 => intro u hu; simp at hu; subst hu; rfl
      case c3 => unfold maxLen; omega
      case c4 => omega
      case c5 => omega
      intro v2 w2 ho2 hg2 _ hat
      have HE : Hid (RB own i w0 g (w2.setCell ⟨g, 0, none⟩ v2) v2 nw ind col wait (o ++ [32])) := HB.out.put (l := [32]) hg2 ho2 (by rw [World.size_alloc]; exact hat)
      have hb2 := HB.out.mid hg2
      have d0 : w2.cell? ⟨g, 0, none⟩ = some (.slice p o.length cap) := blk_cell hb2 rfl
      have f0 : w2.frozen? ⟨g, 0, none⟩ = false := blk_frozen hb2
      obtain ⟨p2, cap2, rfl, _, _⟩ := row_shape ho2
      clear ho2 hg2 hat hb2 HB
      go_wp2_with fail
      refine ⟨⟨k + 1, hlt, by go_num, ?_⟩, by simp [intOf]; omega⟩
      show ∃ ov', _
      rw [← HO.out]
      exact ⟨_, HE.out⟩
    · obtain rfl : k = n := by omega
      have q1 : ¬ ((k : Int) < k) := by omega
      clear h
      go_wp2_with fail
      go_end0
      exact ⟨rfl, HI.out⟩
end Go.Proofs.YtkmmcpkakpglkaaDoor
