import Derived.Test.YtcokccfbeonlnaaDoorYa
import Derived.Test.YtcokccfbeonlnaaDoorIb
import Derived.Test.YtcokccfbeonlnaaDoorGb1
import Derived.Lib.ItoaWalk
set_option linter.unusedVariables false
set_option linter.unusedSimpArgs false
namespace Go.Proofs.YtcokccfbeonlnaaDoor
open Go.RowKit

def ltr (k : Nat) : UInt8 := UInt8.ofNat (97 + k % 26)
theorem ltr_nat (k : Nat) : (ltr k).toNat = 97 + k % 26 := by
  have h : ∀ q : Fin 26, (UInt8.ofNat (97 + q.val)).toNat = 97 + q.val := by decide
  exact h ⟨k % 26, Nat.mod_lt _ (by omega)⟩
def wrd (n k : Nat) : List UInt8 := (List.range n).map fun i => ltr (k + i)
theorem wrd_len (n k : Nat) : (wrd n k).length = n := by simp [wrd]
theorem wrd_wd {n k : Nat} (h1 : 1 ≤ n) (h2 : n ≤ 14) : Wd (wrd n k) := by
  refine ⟨by rw [wrd_len]; exact h1, by rw [wrd_len]; exact h2, fun x hx => ?_⟩
  obtain ⟨i, _, rfl⟩ := List.mem_map.1 hx
  rw [ltr_nat]
  have := Nat.mod_lt (k + i) (show 0 < 26 by omega)
  omega
def wpre (n k j : Nat) : List UInt8 := wrd j k ++ List.replicate (n - j) 0
theorem wpre_len {n k j : Nat} (h : j ≤ n) : (wpre n k j).length = n := by simp [wpre, wrd_len]; omega
theorem wpre_set {n k j : Nat} (h : j < n) : (wpre n k j).set j (ltr (k + j)) = wpre n k (j + 1) := by
  unfold wpre
  rw [List.set_append_right _ _ (by rw [wrd_len]; exact Nat.le_refl _), wrd_len, Nat.sub_self]
  have : n - j = (n - (j + 1)) + 1 := by omega
  rw [this, List.replicate_succ, List.set_cons_zero]
  simp [wrd, List.range_succ]
theorem wpre_end (n k : Nat) : wpre n k n = wrd n k := by simp [wpre]
theorem bc_set (l : List UInt8) (j : Nat) (c : UInt8) : (bc l).toArray.setIfInBounds j (.int .u8 c.toNat) = (bc (l.set j c)).toArray := by
  simp [bc, List.map_set]
set_option maxRecDepth 100000 in
theorem makeB (N : Nat) (hN : N ≤ 100000000) (w : World) : (Instr.makeSlice 32 (.int .i64 (N : Int)) (.int .i64 (N : Int))).run Tryd.prog w = .ok (.slice (some ⟨w.heap.size, 0, none⟩) N N) (w.alloc (.cells (bc (List.replicate N 0)).toArray 5)) := by
  obtain ⟨i0, hi, hz0, hz1, hz2⟩ := info_parts Tryd.info5
  have h := run_make (P := Tryd.prog) w 32 5 i0 (.int .u8 0) Tryd.underlying32 hi hz0 .i64 .i64 (N : Int) (N : Int) (by omega) (by omega) (by rw [hz2]; omega) (by omega)
  rw [h]
  congr 4
  rw [hz1]
  apply Array.toList_inj.1
  show (madeCells #[.int .u8 0] _).toList = _
  rw [toList_madeCells_one]; simp [bc]

set_option maxHeartbeats 1000000 in
set_option maxRecDepth 100000 in
theorem word_any (n k : Nat) (hn : n ≤ 1000) (hk : k ≤ 100000) (w : World) : Calls Tryd.prog 30 #[.int .i64 n, .int .i64 k] w fun e w' => e = .returned (.string ⟨(wrd n k).toArray⟩) ∧ Below w.heap.size w w' := by
  have hmk := makeB n (by omega)
  go_enter Tryd.func30, Tryd.ntmps30
  go_wp2_with fail
  obtain ⟨s, hs⟩ : ∃ s, w.heap.size = s := ⟨_, rfl⟩
  rw [hs]
  go_loopw [6] (fun i wr => ∃ j : Nat, j ≤ n ∧ i = .int .i64 j ∧ Hid (wr.heap[s]? = some (.cells (bc (wpre n k j)).toArray 5 (0, 0)) ∧ Below s w wr)) (fun i _ => n - (intOf i).toNat)
  case atStart =>
    refine ⟨0, Nat.zero_le _, rfl, ?_, ?_⟩
    · rw [← hs]
      have : wpre n k 0 = List.replicate n 0 := by simp [wpre, wrd]
      rw [this]; exact new_at _ _
    · rw [← hs]; exact (Below.refl _ _).alloc (Nat.le_refl _) _
  case round =>
    obtain ⟨j, hj, rfl, HI⟩ := hrel
    obtain ⟨hb, hw⟩ := HI.out
    by_cases hlt : j < n
    · have q1 : (j : Int) < n := by omega
      have q2 : (0 : Int) ≤ j := by omega
      obtain ⟨v0, hv0⟩ : ∃ v, (bc (wpre n k j)).toArray[j]? = some v := ⟨_, Array.getElem?_eq_getElem (by simp [bc_len, wpre_len hj]; exact hlt)⟩
      have c0 := blk_cell (k := j) hb hv0
      have f0 := blk_frozen (k := j) hb
      obtain ⟨y, hy⟩ : ∃ y, (k + j) % 26 = y := ⟨_, rfl⟩
      have hyl : y < 26 := by rw [← hy]; exact Nat.mod_lt _ (by omega)
      have hmd : ((k : Int) + j) % 26 = (y : Int) := by rw [← hy]; omega
      have hct : ((ltr (k + j)).toNat : Int) = 97 + (y : Int) := by rw [ltr_nat, hy]; omega
      have hwr : IntKind.u8.wrap (97 + (y : Int)) = 97 + (y : Int) := by
        have : ∀ q : Fin 26, IntKind.u8.wrap (97 + (q.val : Int)) = 97 + (q.val : Int) := by decide
        exact this ⟨y, hyl⟩
      have HE : Hid ((wr.setCell ⟨s, j, none⟩ (.int .u8 (97 + (y : Int)))).heap[s]? = some (.cells (bc (wpre n k (j + 1))).toArray 5 (0, 0)) ∧ Below s w (wr.setCell ⟨s, j, none⟩ (.int .u8 (97 + (y : Int))))) := by
        refine ⟨?_, hw.setCell (p := ⟨s, j, none⟩) (Nat.le_refl _) _⟩
        rw [← hct, ← wpre_set hlt, ← bc_set]
        exact blk_set hb j _
      clear HI hb hw hv0 hy hct hmk
      go_wp2_with fail
      exact ⟨⟨j + 1, hlt, by go_num, HE.out⟩, by simp [intOf]; omega⟩
    · obtain rfl : j = n := by omega
      have q1 : ¬ ((j : Int) < j) := by omega
      rw [wpre_end] at hb
      have hro : wr.ownsRow 0 5 1 (.slice (some ⟨s, 0, none⟩) (wrd j k).length (wrd j k).length) (wrd j k).length (bc (wrd j k)) :=
        ⟨by rw [bc_len]; omega, .inr ⟨s, _, _, rfl, Nat.zero_le _, hb, Nat.le_refl _, by rw [wrd_len]; unfold maxLen; omega, by simp [bc_len], by simp; rw [List.take_of_length_le (by rw [bc_len]; exact Nat.le_refl _)]⟩⟩
      have hcv := conv_bytes wr 0 _ _ hro
      rw [wrd_len] at hcv
      have HW : Hid (Below s w wr) := hw
      clear HI hb hw hro hmk
      go_wp2_with fail
      go_ret
      exact ⟨rfl, HW.out⟩

/-! Rows of words and gaps. -/
theorem Tryd.info9 : (Tryd.prog.info? 9).map (fun i => (i.zero, i.size, i.bytes)) = some (some (.string ⟨#[]⟩), 1, 16) := by kernel_rfl
def zt (zs : List Wg) : List Value := zs.map fun y => Value.string ⟨y.1.toArray⟩
def zg (zs : List Wg) : List Value := zs.map fun y => Value.int .i64 (y.2 : Int)
structure ZR (B : Nat) (W : World) (v4 v5 : Value) (zs : List Wg) : Prop where
  r4 : W.ownsRow B 9 1 v4 zs.length (zt zs)
  r5 : W.ownsRow B 3 1 v5 zs.length (zg zs)
theorem row_kept {B e sz n : Nat} {w w' : World} {v : Value} {xs : List Value} (hr : w.ownsRow B e sz v n xs) (hb : Below w.heap.size w w') : w'.ownsRow B e sz v n xs := by
  refine ⟨hr.1, ?_⟩
  rcases hr.2 with h1 | ⟨g, cap, cur, rfl, h2, h3, h4⟩
  · exact .inl h1
  · exact .inr ⟨g, cap, cur, rfl, h2, blk_below h3 hb, h4⟩
theorem row_own {B e sz n : Nat} {w : World} {v : Value} {xs : List Value} (h : w.ownsRow B e sz v n xs) : ∀ k, v.ownBlock = some k → B ≤ k := by
  intro k hk
  rcases h.2 with ⟨rfl, _⟩ | ⟨b, cap, cur, rfl, hb, _⟩
  · cases hk
  · cases hk; exact hb
theorem ZR.below {B : Nat} {W W' : World} {v4 v5 : Value} {zs : List Wg} (h : ZR B W v4 v5 zs) (hb : Below W.heap.size W W') : ZR B W' v4 v5 zs := ⟨row_kept h.r4 hb, row_kept h.r5 hb⟩
theorem row_shp {B e sz n : Nat} {w : World} {v : Value} {xs : List Value} (hr : w.ownsRow B e sz v n xs) : ∃ p cap, v = .slice p n cap ∧ n ≤ cap ∧ cap ≤ maxLen := by
  rcases hr.2 with ⟨rfl, rfl⟩ | ⟨b, cap, cur, rfl, _, h3, h4, h5, _⟩
  · exact ⟨none, 0, rfl, Nat.le_refl _, Nat.zero_le _⟩
  · exact ⟨_, cap, rfl, h4, h5⟩
/-- A row stands where another one of another type grows. -/
theorem row_other {B B' e e' sz sz' n n' : Nat} {w w' : World} {v v' : Value} {xs xs' : List Value} (hr : w.ownsRow B e sz v n xs) (hr' : w.ownsRow B' e' sz' v' n' xs') (hne : e ≠ e') (hg : w.grownBy w' v'.ownBlock) : w'.ownsRow B e sz v n xs := by
  refine ⟨hr.1, ?_⟩
  rcases hr.2 with h1 | ⟨g, cap, cur, rfl, h2, h3, h4⟩
  · exact .inl h1
  · exact .inr ⟨g, cap, cur, rfl, h2, (Kp.of_grown hg).blk h3 (fun e1 => row_ne (row_zero hr') h3 hne e1.symm), h4⟩
/-- One cell behind a row of the call's own. -/
theorem app_one {W : World} {ops : Array Oper} {rest : List Oper} {o : Oper} {a : Act} {Q : Exit → Act → World → Prop} (hgd : o.guard = none) (s x : Operand) (T e : TypeId) (z u : Value) (bytes : Nat) (hby : bytes ≤ 16)
    (hinfo : (Tryd.prog.info? e).map (fun i => (i.zero, i.size, i.bytes)) = some (some z, 1, bytes)) (hT : Tryd.prog.underlying T = some (.slice e)) (hzc : z.cells.size = 1) (hu : u.oneCell' = true)
    (ho : o.op = .call { callee := .builtin .append, args := #[s, x], argTypes := #[T, T] }) (B : Nat) (v : Value) (n : Nat) (xs : List Value) (hs : a.eval s = v) (hr : W.ownsRow B e 1 v n xs)
    (g c : Nat) (hx : a.eval x = .slice (some ⟨g, 0, none⟩) 1 c) (hg : W.heap[g]? = some (.cells #[u] e (0, 0))) (hl : n ≤ 1000000000) (hB : B ≤ W.heap.size)
    (h : ∀ v' w', w'.ownsRow B e 1 v' (n + 1) (xs ++ [u]) → Below B W w' → W.grownBy w' v.ownBlock → wpList Tryd.prog ops Q rest (a.put o.dst v') w') : wpList Tryd.prog ops Q (o :: rest) a W := by
  obtain ⟨i0, hi, hz0, hz1, hz2⟩ := info_parts hinfo
  refine wpList_append_own_at (P := Tryd.prog) (w := W) hgd s x T ho B e i0 z 1 bytes hT hi hz0 hz1 hz2 hzc (by decide) v _ _ hs hr ⟨g, 0, none⟩ 1 c [u] hx rfl ?_ (by intro y hy; simp at hy; subst hy; exact hu) (by unfold maxLen; omega) (by have : (n + 1) * bytes ≤ (n + 1) * 16 := Nat.mul_le_mul_left _ hby; omega) hB ?_
  · intro j y hy
    exact World.news_of_block hg j y (by simpa using hy)
  · intro v' w' h1 h2 _ _
    exact h v' w' h1 ((Below.refl B W).grown h2 hB (row_own hr)) h2
end Go.Proofs.YtcokccfbeonlnaaDoor
