import Derived.Test.YtcokccfbeonlnaaDoorWa
set_option linter.unusedVariables false
set_option linter.unusedSimpArgs false
namespace Go.Proofs.YtcokccfbeonlnaaDoor
open Go.RowKit

theorem Tryd.info3 : (Tryd.prog.info? 3).map (fun i => (i.zero, i.size, i.bytes)) = some (some (.int .i64 0), 1, 8) := by kernel_rfl

/-- A row that is owned is no iterator. -/
theorem own_not_iter {wr : World} {base e k g m cap pos : Nat} {s : ByteArray} {xs : List Value} (hown : wr.ownsRow base e 1 (.slice (some ⟨g, 0, none⟩) m cap) m xs) (hit : wr.heap[k]? = some (.stringIter s pos)) : g ≠ k := by
  rcases hown.2 with ⟨h, _⟩ | ⟨g', cap', cur, hv, _, hh, _⟩
  · cases h
  · cases hv
    intro e
    rw [e, hit] at hh
    cases hh

theorem own_iter {wr : World} {base e k g m cap pos : Nat} {s : ByteArray} {xs : List Value} (hown : wr.ownsRow base e 1 (.slice (some ⟨g, 0, none⟩) m cap) m xs) (hit : wr.heap[k]? = some (.stringIter s pos)) (pos' : Nat) :
    (wr.iterAt k s pos').ownsRow base e 1 (.slice (some ⟨g, 0, none⟩) m cap) m xs := by
  have hne := own_not_iter hown hit
  obtain ⟨h1, h2⟩ := hown
  refine ⟨h1, ?_⟩
  rcases h2 with h2 | ⟨g', cap', cur, a, b, c, d⟩
  · exact .inl h2
  · cases a
    exact .inr ⟨g, cap, cur, rfl, b, by rw [Lib.iterAt_other _ _ _ _ _ hne]; exact c, d⟩

/-- A round of a range over a string that appends one thing to a row of the call's own. -/
theorem iter_round {B base e k g m cap pos pos' : Nat} {s : ByteArray} {xs : List Value} {w wr w2 : World} {o : Obj} (hit : wr.heap[k]? = some (.stringIter s pos)) (hown : wr.ownsRow base e 1 (.slice (some ⟨g, 0, none⟩) m cap) m xs)
    (hbel : Below B w wr) (hk : B ≤ k) (hB : B ≤ base) (hgrow : ((wr.iterAt k s pos').alloc o).grownBy w2 (some g)) : w2.heap[k]? = some (.stringIter s pos') ∧ Below B w w2 := by
  have hne := own_not_iter hown hit
  have hlt : k < wr.heap.size := (Array.getElem?_eq_some_iff.1 hit).1
  have hg := (hown.lt g rfl)
  have hsz : ((wr.iterAt k s pos').alloc o).heap.size = wr.heap.size + 1 := by
    show ((wr.iterAt k s pos').heap.push o).size = _
    rw [Array.size_push, Lib.iterAt_size]
  constructor
  · rw [hgrow.block k (by omega) (fun h => hne (Option.some.inj h).symm), Below.heap_alloc _ _ _ (by rw [Lib.iterAt_size]; exact hlt), Lib.iterAt_heap _ _ _ _ _ hit]
  · exact ((Lib.below_iterAt hbel hk s pos').alloc (by rw [Lib.iterAt_size]; omega) o).grown hgrow (by omega) (fun j hj => by cases hj; omega)

theorem one_new (W : World) (x : Value) (t n : Nat) (h : n = W.heap.size) : ∀ j u, [x][j]? = some u → (W.alloc (.cells #[x] t)).cell? ((⟨n, 0, none⟩ : Addr).add j) = some u := by
  subst h; exact cell_one_new _ _ _

def ivs (l : List Nat) : List Value := l.map (fun i : Nat => Value.int .i64 (i : Int))

end Go.Proofs.YtcokccfbeonlnaaDoor
