import Derived.Test.YtfkegaencoodbaaDoorWa
set_option linter.unusedVariables false
set_option linter.unusedSimpArgs false
namespace Go.Proofs.YtfkegaencoodbaaDoor
open Go.RowKit

theorem Tryd.info3 : (Tryd.prog.info? 3).map (fun i => (i.zero, i.size, i.bytes)) = some (some (.int .i64 0), 1, 8) := by kernel_rfl

/-- A row that is owned is no iterator. -/
theorem own_not_iter {wr : World} {base e k g m cap pos : Nat} {s : ByteArray} {xs : List Value} (hown : wr.ownsRow base e 1 (.slice (some ⟨g, 0, none⟩) m cap) m xs) (hit : wr.heap[k]? = some (.stringIter s pos)) : g ≠ k := by
  rcases hown.2 with ⟨h, _⟩ | ⟨g', cap', cur, hv, _, hh, _⟩
  · cases h
  · cases hv
    intro e
    rw [e, hit] at hh
    cases hh

theorem own_iter {wr : World} {base e k g m cap pos : Nat} {s : ByteArray} {xs : List Value} (hown : wr.ownsRow base e 1 (.slice (some ⟨g, 0, none⟩) m cap) m xs) (hit : wr.heap[k]? = some (.stringIter s pos)) (pos' : Nat) :
    (wr.iterAt k s pos').ownsRow base e 1 (.slice (some ⟨g, 0, none⟩) m cap) m xs := by
  have hne := own_not_iter hown hit
  obtain ⟨h1, h2⟩ := hown
  refine ⟨h1, ?_⟩
  rcases h2 with h2 | ⟨g', cap', cur, a, b, c, d⟩
  · exact .inl h2
  · cases a
    exact .inr ⟨g, cap, cur, rfl, b, by rw [Lib.iterAt_other _ _ _ _ _ hne]; exact c, d⟩

/-- A round of a range over a string that appends one thing to a row of the call's own. -/
theorem iter_round {B base e k g m cap pos pos' : Nat} {s : ByteArray} {xs : List Value} {w wr w2 : World} {o : Obj} (hit : wr.heap[k]? = some (.stringIter s pos)) (hown : wr.ownsRow base e 1 (.slice (some ⟨g, 0, none⟩) m cap) m xs)
    (hbel : Below B w wr) (hk : B ≤ k) (hB : B ≤ base) (hgrow : ((wr.iterAt k s pos').alloc o).grownBy w2 (some g)) : w2.heap[k]? = some (.stringIter s pos') ∧ Below B w w2 := by
  have hne := own_not_iter hown hit
  have hlt : k < wr.heap.size := (Array.getElem?_eq_some_iff.1 hit).1
  have hg := (hown.lt g rfl)
  have hsz : ((wr.iterAt k s pos').alloc o).heap.size = wr.heap.size + 1 := by
    show ((wr.iterAt k s pos').heap.push o).size = _
    rw [Array.size_push, Lib.iterAt_size]
  constructor
  · rw [hgrow.block k (by omega) (fun h => hne (Option.some.inj h).symm), Below.heap_alloc _ _ _ (by rw [Lib.iterAt_size]; exact hlt), Lib.iterAt_heap _ _ _ _ _ hit]
  · exact ((Lib.below_iterAt hbel hk s pos').alloc (by rw [Lib.iterAt_size]; omega) o).grown hgrow (by omega) (fun j hj => by cases hj; omega)

theorem one_new (W : World) (x : Value) (t n : Nat) (h : n = W.heap.size) : ∀ j u, [x][j]? = some u → (W.alloc (.cells #[x] t)).cell? ((⟨n, 0, none⟩ : Addr).add j) = some u := by
  subst h; exact cell_one_new _ _ _

def ivs (l : List Nat) : List Value := l.map (fun i : Nat => Value.int .i64 (i : Int))

set_option maxHeartbeats 400000 in
theorem places_any (s : ByteArray) (w : World) (hs : s.size ≤ 2147483647) :
    Calls Tryd.prog 10 #[.string s] w fun e w' => e = .returned (.slice (some ⟨w.heap.size + 1, 0, none⟩) (P s).length (P s).length) ∧
      w'.ownsRow (w.heap.size + 1) 3 1 (.slice (some ⟨w.heap.size + 1, 0, none⟩) (P s).length (P s).length) (P s).length (ivs (P s)) ∧ Below w.heap.size w w' := by
  have hP := P_len s
  obtain ⟨i0, hi, hz0, hz1, hz2⟩ := info_parts Tryd.info3
  go_enter Tryd.func10, Tryd.ntmps10
  go_wp2_with fail
  refine (count_any s _ (by unfold maxLen; omega)).mono ?_
  rintro e w1 ⟨rfl, p1, rfl⟩
  have hw1 : (w.iter s p1).heap.size = w.heap.size + 1 := by show (w.heap.push _).size = _; simp
  go_wp2_with (first | (at_make; refine wpList_make_own _ rfl _ _ 38 rfl (w.heap.size + 1) 3 i0 (.int .i64 0) 1 Tryd.underlying38 hi hz0 hz1 _ _ _ (P s).length rfl rfl rfl (by rw [hz2]; omega) (by unfold maxLen; omega) (by omega) ?_))
  intro w2 hown hgrow
  have hbel : Below w.heap.size w w2 := (below_iter w s p1).grown hgrow (by omega) (fun _ h => by cases h)
  clear hgrow hw1
  have hz2' : w.heap.size ≤ w2.heap.size := hbel.size
  go_wp2_with fail
  go_loopw [3] (fun v wr => ∃ (pos m : Nat) (pre : List Nat), v = .slice (some ⟨w.heap.size + 1, 0, none⟩) m (P s).length ∧ wr.heap[w2.heap.size]? = some (.stringIter s pos) ∧
      wr.ownsRow (w.heap.size + 1) 3 1 (.slice (some ⟨w.heap.size + 1, 0, none⟩) m (P s).length) m (ivs pre) ∧ pre.length = m ∧ pre ++ pl s pos = P s ∧ Below w.heap.size w wr)
    (fun _ wr => s.size - wr.iterPos w2.heap.size)
  case atStart => exact ⟨0, 0, [], rfl, World.iter_heap _ _ _, hown.alloc _, rfl, rfl, hbel.alloc hz2' _⟩
  case round =>
    clear hown hbel
    obtain ⟨pos, m, pre, rfl, hit, hown, rfl, hpre, hbel⟩ := hrel
    by_cases hp : pos < s.size
    · have hw := dw_facts s pos hp
      have hlen : pre.length + 1 ≤ (P s).length := by rw [← hpre, pl_lt s pos hp]; simp
      have HP : Hid ((pre ++ [pos]) ++ pl s (pos + dw s pos) = P s) := by show _ = _; rw [← hpre, pl_lt s pos hp]; simp
      have hnx := fun ty => Lib.run_next_any_at (P := Tryd.prog) wr w2.heap.size s pos ty hit hp
      have HI : Hid (wr.heap[w2.heap.size]? = some (.stringIter s pos)) := hit
      have hown' := own_iter hown hit (pos + dw s pos)
      have hsz := Lib.iterAt_size wr w2.heap.size s (pos + dw s pos)
      clear hit hpre
      unfold dw at hw hown' hsz
      go_wp2_with (first | (at_builtin; refine wpList_append_fits _ rfl _ _ 38 rfl (w.heap.size + 1) 3 i0 1 Tryd.underlying38 hi hz1 (w.heap.size + 1) _ _ _ rfl (hown'.alloc _) ⟨wr.heap.size, 0, none⟩ 1 1 [.int .i64 pos] rfl rfl ?c1 ?c2 ?c3 ?_))
      case c1 => exact one_new _ _ _ _ hsz.symm
      case c2 => intro u hu; simp at hu; subst hu; rfl
      case c3 => exact hlen
      · intro w3 hown3 hgrow3
        have R := iter_round HI.out hown hbel hz2' (by omega) hgrow3
        clear hown' hgrow3 hown hnx hbel
        go_wp2_with fail
        go_roundw
        case rel => exact ⟨pos + dw s pos, pre.length + 1, pre ++ [pos], rfl, R.1, by simpa [ivs] using hown3, by simp, HP.out, R.2⟩
        case measure =>
          have hq := iterPos_of HI.out
          have hq2 := iterPos_of R.1
          rw [hq, hq2]; omega
    · have hnx := fun ty => Lib.run_next_end_at (P := Tryd.prog) wr w2.heap.size s pos ty hit hp
      rw [pl_ge s pos (by omega), List.append_nil] at hpre
      have HP : Hid (pre = P s) := hpre
      clear hpre
      go_wp2_with fail
      go_ret
      rw [HP.out] at hown
      exact ⟨by rw [HP.out]; rfl, hown, hbel⟩
end Go.Proofs.YtfkegaencoodbaaDoor
