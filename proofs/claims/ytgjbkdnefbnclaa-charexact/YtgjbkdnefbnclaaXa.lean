import Derived.Test.YtgjbkdnefbnclaaRg
import Derived.Laws.CopyOwn
set_option linter.unusedVariables false
set_option linter.unusedSimpArgs false
namespace Go.Proofs.Ytgjbkdnefbnclaa
open Go.RowKit

def addI (n k : Int) : Int := if 2147483647 < n ∨ 2147483647 < k then 2147483648 else n + k

set_option maxHeartbeats 400000 in
theorem add_any (n k : Int) (w : World) (hn : 0 ≤ n) (hk : 0 ≤ k) : Calls Try.prog 8 #[.int .i64 n, .int .i64 k] w fun e w' => e = .returned (.int .i64 (addI n k)) ∧ w' = w := by
  unfold addI
  by_cases h1 : 2147483647 < n
  · rw [if_pos (.inl h1)]
    go_enter Try.func8, Try.ntmps8
    go_wp2
    go_ret
    exact ⟨rfl, rfl⟩
  · by_cases h2 : 2147483647 < k
    · rw [if_pos (.inr h2)]
      go_enter Try.func8, Try.ntmps8
      go_wp2
      go_ret
      exact ⟨rfl, rfl⟩
    · rw [if_neg (by omega)]
      go_enter Try.func8, Try.ntmps8
      go_wp2
      go_ret
      exact ⟨rfl, rfl⟩

def iv (l : List Int) : List Value := l.map (Value.int .i64)

/-- A row that is full is its block. -/
theorem own_block {w : World} {base e g n : Nat} {xs : List Value} (h : w.ownsRow base e 1 (.slice (some ⟨g, 0, none⟩) n n) n xs) : w.heap[g]? = some (.cells xs.toArray e (0, 0)) := by
  rcases h.2 with ⟨h0, _⟩ | ⟨g', cap, cur, hv, _, hh, _, _, hs, ht⟩
  · cases h0
  · cases hv
    rw [hh]
    have : cur.toList.take (n * 1) = cur.toList := List.take_of_length_le (by simp; omega)
    rw [this] at ht
    rw [← ht]

theorem blk_set {w : World} {g j t : Nat} {cs : List Value} {u : Value} (h : w.heap[g]? = some (.cells cs.toArray t (0, 0))) : (w.setCell ⟨g, j, none⟩ u).heap[g]? = some (.cells (cs.set j u).toArray t (0, 0)) := by
  simp [World.setCell, Array.getElem?_modify, h]

theorem blk_cell {w : World} {g j t : Nat} {cs : List Value} (h : w.heap[g]? = some (.cells cs.toArray t (0, 0))) : w.cell? ⟨g, j, none⟩ = cs[j]? := by
  simp [World.cell?, h]
theorem blk_free {w : World} {g j t : Nat} {cs : List Value} (h : w.heap[g]? = some (.cells cs.toArray t (0, 0))) : w.frozen? ⟨g, j, none⟩ = false := by
  simp [World.frozen?, h]

theorem Try.size3 : (Try.prog.info? 3).map (·.size) = some 1 := by kernel_rfl
def zer (n : Nat) : List Value := List.replicate n (.int .i64 0)

theorem Row.cells {w : World} {ao : Option Addr} {n : Nat} {zs : List Int} (h : Row w ao n zs) (h0 : 0 < (iv zs).length) : ∃ ad, ao = some ad ∧ ∀ j v, (iv zs)[j]? = some v → w.cell? (ad.add j) = some v := by
  have hl : (iv zs).length = n := by unfold iv; rw [List.length_map, h.1]
  obtain ⟨b, off, rfl, _⟩ := h.2 0 (by omega)
  refine ⟨_, rfl, fun j v hj => ?_⟩
  have hjn : j < n := by have := (List.getElem?_eq_some_iff.1 hj).1; omega
  rw [Addr.add_lit, h.at j hjn]
  rw [← hj]
  have : j < zs.length := by rw [h.1]; exact hjn
  simp [iv, List.getD, this]

theorem iv_one (l : List Int) : ∀ u ∈ iv l, u.oneCell' = true := ints_oneCell _ _

theorem splice_lent (n : Nat) (zs : List Int) (hl : zs.length = n) : ((Go.splice (zer (n + 2)) 0 (iv zs)).set n (.int .i64 (-7))).set (n + 1) (.int .i64 (-8)) = iv (zs ++ [-7, -8]) := by
  have e : Go.splice (zer (n + 2)) 0 (iv zs) = iv zs ++ [.int .i64 0, .int .i64 0] := by
    unfold Go.splice zer
    rw [List.take_zero, List.nil_append, Nat.zero_add]
    congr 1
    have : (iv zs).length = n := by unfold iv; rw [List.length_map, hl]
    rw [this, List.drop_replicate, show n + 2 - n = 2 by omega]; rfl
  have h2 : (iv zs).length = n := by unfold iv; rw [List.length_map, hl]
  rw [e, List.set_append_right _ _ (by omega), h2, Nat.sub_self, List.set_append_right _ _ (by omega), h2, show n + 1 - n = 1 by omega]
  unfold iv
  rw [List.map_append]; rfl

set_option maxRecDepth 100000 in
set_option maxHeartbeats 1000000 in
theorem lent_any (ao : Option Addr) (n cap : Nat) (zs : List Int) (w : World) (hn : n ≤ 2147483647) (hr : Row w ao n zs) :
    Calls Try.prog 24 #[.slice ao n cap] w fun e w' => e = .returned (.slice (some ⟨w.heap.size, 0, none⟩) n (n + 2)) ∧ w'.heap[w.heap.size]? = some (.cells (iv (zs ++ [-7, -8])).toArray 3 (0, 0)) ∧ Below w.heap.size w w' := by
  obtain ⟨i0, hi, hz0, hz1, hz2⟩ := info_parts Try.info3
  have hl := hr.1
  go_enter Try.func24, Try.ntmps24
  go_wp2_with (first | (at_make; refine wpList_make_full _ rfl _ _ 24 rfl w.heap.size 3 i0 (.int .i64 0) 1 Try.underlying24 hi hz0 hz1 _ _ _ _ (n + 2) rfl rfl (by omega) (by omega) (by rw [hz2]; omega) (by unfold maxLen; omega) (by omega) ?_))
  intro w1 hown hgrow
  have hbel : Below w.heap.size w w1 := (Below.refl _ _).grown hgrow (by omega) (fun _ h => by cases h)
  have hblk := own_block hown
  rw [toList_madeCells_one] at hblk
  have HB : Hid (w1.heap[w.heap.size]? = some (.cells (zer (n + 2)).toArray 3 (0, 0))) := hblk
  clear hown hgrow hblk
  have HR1 : Hid (Row w1 ao n zs) := hr.below hbel
  have hiv : (iv zs).length = n := by unfold iv; rw [List.length_map, hl]
  go_wp2_with (first | (refine wpList_copy_splice rfl _ _ 24 24 rfl 3 Try.underlying24 Try.size3 (some ⟨w.heap.size, 0, none⟩) ao (n + 2) (n + 2) n cap rfl rfl w.heap.size 0 (zer (n + 2)) 3 HB.out (iv zs) ?c1 ?c2 ?c3 (iv_one zs) w.heap.size w hbel (Nat.le_refl _) ?_))
  case c1 => rw [hiv]; show n = min n (n + 2); omega
  case c2 => intro h0; exact Row.cells (HR1.out) (by rw [hiv]; exact h0)
  case c3 => rw [hiv]; unfold zer; rw [List.length_replicate]; omega
  · intro w2 hb2 hbel2
    have hls : (Go.splice (zer (n + 2)) 0 (iv zs)).length = n + 2 := by rw [Go.length_splice _ _ _ (by rw [hiv]; unfold zer; rw [List.length_replicate]; omega)]; unfold zer; rw [List.length_replicate]
    have HE : Hid _ := splice_lent n zs hl
    generalize Go.splice (zer (n + 2)) 0 (iv zs) = L at *
    obtain ⟨x1, hx1⟩ : ∃ x, L[n]? = some x := ⟨_, List.getElem?_eq_getElem (by omega)⟩
    obtain ⟨x2, hx2⟩ : ∃ x, L[n + 1]? = some x := ⟨_, List.getElem?_eq_getElem (by omega)⟩
    have c1 : w2.cell? ⟨w.heap.size, n, none⟩ = some x1 := (blk_cell hb2.out).trans hx1
    have c2 : w2.cell? ⟨w.heap.size, n + 1, none⟩ = some x2 := (blk_cell hb2.out).trans hx2
    have f1 : w2.frozen? ⟨w.heap.size, n, none⟩ = false := blk_free hb2.out
    have f2 : w2.frozen? ⟨w.heap.size, n + 1, none⟩ = false := blk_free hb2.out
    have HX : Hid (L[n + 1]? = some x2) := hx2
    clear hx1 hx2 HB hbel HR1
    go_wp2_with fail
    go_ret
    refine ⟨rfl, ?_, (hbel2.setCell (Nat.le_refl _) _).setCell (Nat.le_refl _) _⟩
    have h3 := blk_set (j := n + 1) (u := .int .i64 (-8)) (blk_set (j := n) (u := .int .i64 (-7)) hb2.out)
    rw [HE.out] at h3
    exact h3

/-- Nothing but one block turns. -/
theorem below_other {B g : Nat} {w w' : World} (hb : Below B w w') (hB : B ≤ g) : Below B w w' := hb

set_option maxRecDepth 100000 in
set_option maxHeartbeats 1000000 in
theorem back_any2 (g : Nat) (ao : Option Addr) (n cap B : Nat) (zs : List Int) (w : World) (hn : n ≤ 2147483647) (hr : Row w ao n zs) (hblk : w.heap[g]? = some (.cells (iv (zs ++ [-7, -8])).toArray 3 (0, 0))) (hB : B ≤ g) :
    Calls Try.prog 25 #[.slice (some ⟨g, 0, none⟩) n (n + 2), .slice ao n cap] w fun e w' => e = .returned (.bool true) ∧ Below B w w' := by
  have hl := hr.1
  have hgl : g < w.heap.size := (Array.getElem?_eq_some_iff.1 hblk).1
  have hlen : (iv (zs ++ [-7, -8])).length = n + 2 := by unfold iv; simp [hl]
  have c1 : w.cell? ⟨g, n, none⟩ = some (.int .i64 (-7)) := by rw [blk_cell hblk]; unfold iv; simp [← hl]
  have c2 : w.cell? ⟨g, n + 1, none⟩ = some (.int .i64 (-8)) := by rw [blk_cell hblk]; unfold iv; simp [← hl]
  have hx : Row w (some ⟨g, 0, none⟩) n zs := by
    refine ⟨hl, fun j hj => ⟨g, 0, rfl, ?_⟩⟩
    rw [Nat.zero_add, blk_cell hblk]
    unfold iv
    have : j < zs.length := by omega
    rw [List.map_append, List.getElem?_append_left (by rw [List.length_map]; exact this)]
    simp [List.getD, this]
  have HX : Hid (Row w (some ⟨g, 0, none⟩) n zs) := hx
  have HR : Hid (Row w ao n zs) := hr
  have HBK : Hid _ := hblk
  clear hx hblk hr
  go_enter Try.func25, Try.ntmps25
  go_wp2_with fail
  refine (same_any (some ⟨g, 0, none⟩) ao n n (n + 2) cap zs zs _ hn hn HX.out HR.out).mono ?_
  rintro e w1 ⟨rfl, hb1⟩
  rw [decide_eq_true (rfl : zs = zs)]
  have d1 := (hb1.cell (p := ⟨g, n, none⟩) hgl).trans c1
  have d2 := (hb1.cell (p := ⟨g, n + 1, none⟩) hgl).trans c2
  have HK1 : Hid (w1.heap[g]? = some (.cells (iv (zs ++ [-7, -8])).toArray 3 (0, 0))) := by
    show _ = _
    rw [hb1.block g hgl]; exact HBK.out
  have hbB : Below B w w1 := hb1.mono (by omega)
  clear c1 c2 HX HR HBK hb1
  go_wp2_with fail
  clear d1 d2
  go_loopw [7] (fun i wr => ∃ (k : Nat) (L : List Value), k ≤ n + 2 ∧ i = .int .i64 k ∧ L.length = n + 2 ∧ wr.heap[g]? = some (.cells L.toArray 3 (0, 0)) ∧ Below B w wr) (fun i _ => (n + 2) - (intOf i).toNat)
  case atStart => exact ⟨0, _, Nat.zero_le _, rfl, hlen, HK1.out, hbB⟩
  case round =>
    clear HK1 hbB
    obtain ⟨k, L, hk, rfl, hL, hbk, hb⟩ := hrel
    have HK : Hid _ := hbk
    clear hbk
    by_cases hlt : k < n + 2
    · obtain ⟨x, hx⟩ : ∃ x, L[k]? = some x := ⟨_, List.getElem?_eq_getElem (by omega)⟩
      have q1 : wr.cell? ⟨g, k, none⟩ = some x := (blk_cell HK.out).trans hx
      have q2 : wr.frozen? ⟨g, k, none⟩ = false := blk_free HK.out
      clear hx
      go_wp2_with fail
      go_roundw
      case rel => exact ⟨k + 1, L.set k (.int .i64 65), hlt, by go_num, by rw [List.length_set]; exact hL, blk_set HK.out, hb.setCell hB _⟩
      case measure => simp [intOf]; omega
    · go_wp2_with fail
      go_ret
      exact ⟨rfl, hb⟩
end Go.Proofs.Ytgjbkdnefbnclaa
