import Derived.Test.YtkmmcpkakpglkaaDoorSq
set_option linter.unusedVariables false
set_option linter.unusedSimpArgs false
namespace Go.Proofs.YtkmmcpkakpglkaaDoor
open Go.RowKit
open Go.Lib (strCells strCells_length)

/-- A call of a script. -/
structure Act6 where
  kind : Int
  other : Bool
  t : ByteArray
  n : Int

def Act6.val (a : Act6) : Value := .agg #[.int .i64 a.kind, .bool a.other, .string a.t, .int .i64 a.n]

/-- The acts that a script holds. -/
def Scr (w : World) (ao : Option Addr) (acts : List Act6) : Prop := ∀ j a, acts[j]? = some a → a.t.size ≤ 9223372036854775807 ∧ ∃ b off, ao = some ⟨b, off, none⟩ ∧
  w.cell? ⟨b, off + j * 4, none⟩ = some (.int .i64 a.kind) ∧ w.cell? ⟨b, off + j * 4 + 1, none⟩ = some (.bool a.other) ∧ w.cell? ⟨b, off + j * 4 + 2, none⟩ = some (.string a.t) ∧ w.cell? ⟨b, off + j * 4 + 3, none⟩ = some (.int .i64 a.n)

theorem Scr.below {w w' : World} {ao : Option Addr} {acts : List Act6} (h : Scr w ao acts) (hb : Below w.heap.size w w') : Scr w' ao acts := by
  intro j a ha
  obtain ⟨h0, b, off, h1, c0, c1, c2, c3⟩ := h j a ha
  have hlt := World.block_lt_of_cell? _ _ c0
  exact ⟨h0, b, off, h1, (hb.cell (p := ⟨b, off + j * 4, none⟩) hlt).trans c0, (hb.cell (p := ⟨b, off + j * 4 + 1, none⟩) hlt).trans c1, (hb.cell (p := ⟨b, off + j * 4 + 2, none⟩) hlt).trans c2, (hb.cell (p := ⟨b, off + j * 4 + 3, none⟩) hlt).trans c3⟩

/-- What an act counts. -/
def np (n : Int) : Nat := if 0 < n ∧ n ≤ 1048576 then n.toNat else 0
def cost (a : Act6) : Nat := a.t.size + np a.n
def vsum (acts : List Act6) : Nat → Nat
  | 0 => acts.length
  | k + 1 => vsum acts k + (match acts[k]? with | some a => cost a | none => 0)
def atk (acts : List Act6) : Nat → Nat
  | 0 => 0
  | k + 1 => match acts[k]? with | some a => (if a.kind = 3 ∧ 0 < a.n ∧ a.n ≤ 1048576 then a.n.toNat else atk acts k) | none => atk acts k
def dsum (acts : List Act6) : Nat → Nat
  | 0 => 0
  | k + 1 => dsum acts k + atk acts (k + 1)
theorem vsum_succ {acts : List Act6} {k : Nat} {a : Act6} (h : acts[k]? = some a) : vsum acts (k + 1) = vsum acts k + cost a := by simp only [vsum, h]
theorem atk_succ {acts : List Act6} {k : Nat} {a : Act6} (h : acts[k]? = some a) : atk acts (k + 1) = (if a.kind = 3 ∧ 0 < a.n ∧ a.n ≤ 1048576 then a.n.toNat else atk acts k) := by simp only [atk, h]
theorem dsum_succ (acts : List Act6) (k : Nat) : dsum acts (k + 1) = dsum acts k + atk acts (k + 1) := rfl
theorem atk_le (acts : List Act6) (k : Nat) : atk acts k ≤ 1048576 := by
  induction k with
  | zero => exact Nat.zero_le _
  | succ k ih =>
    simp only [atk]
    split
    · split
      · omega
      · exact ih
    · exact ih
theorem vsum_mono (acts : List Act6) (k m : Nat) (h : k ≤ m) : vsum acts k ≤ vsum acts m := by
  induction h with
  | refl => exact Nat.le_refl _
  | step _ ih => exact Nat.le_trans ih (by simp only [vsum]; omega)
theorem dsum_mono (acts : List Act6) (k m : Nat) (h : k ≤ m) : dsum acts k ≤ dsum acts m := by
  induction h with
  | refl => exact Nat.le_refl _
  | step _ ih => exact Nat.le_trans ih (by simp only [dsum]; omega)

/-- The sum that ends above the bound. -/
def addf (n k : Int) : Int := if 16777216 < n ∨ 16777216 < k then 16777217 else n + k
theorem addf_bd (n k : Int) (h1 : 0 ≤ n) (h2 : 0 ≤ k) : 0 ≤ addf n k ∧ addf n k ≤ 33554432 := by unfold addf; split <;> omega
theorem addf_small {n k : Int} (h1 : 0 ≤ n) (h2 : 0 ≤ k) (h : addf n k ≤ 16777216) : addf n k = n + k ∧ n ≤ 16777216 := by
  unfold addf at h ⊢
  split at h
  · omega
  · rename_i h'; rw [if_neg h']; exact ⟨rfl, by omega⟩
theorem add_any (n k : Int) (w : World) (h1 : 0 ≤ n) (h2 : 0 ≤ k) : Calls Tryd.prog 32 #[.int .i64 n, .int .i64 k] w fun e w' => e = .returned (.int .i64 (addf n k)) ∧ w' = w := by
  unfold addf
  by_cases c1 : 16777216 < n
  · rw [if_pos (.inl c1)]
    go_enter Tryd.func32, Tryd.ntmps32
    go_wp2_with fail
    go_ret
    exact ⟨rfl, rfl⟩
  · by_cases c2 : 16777216 < k
    · rw [if_pos (.inr c2)]
      go_enter Tryd.func32, Tryd.ntmps32
      go_wp2_with fail
      go_ret
      exact ⟨rfl, rfl⟩
    · rw [if_neg (by omega)]
      go_enter Tryd.func32, Tryd.ntmps32
      go_wp2_with fail
      go_ret
      exact ⟨rfl, rfl⟩

/-- A test that, where it says no, tells that P. -/
def Vst (P : Prop) (e : Ending) (w w' : World) : Prop := ∃ r, e = .returned (.bool r) ∧ (r = false → P) ∧ w' = w

set_option maxHeartbeats 1000000 in
theorem vast_any (ao : Option Addr) (acts : List Act6) (cap : Nat) (w : World) (hs : Scr w ao acts) (hl : acts.length ≤ 9223372036854775807) :
    Calls Tryd.prog 15 #[.slice ao acts.length cap] w fun e w' => Vst (vsum acts acts.length ≤ 16777216) e w w' := by
  have HS : Hid (Scr w ao acts) := hs
  clear hs
  have A1 : Hid (∀ (n k : Int) (w : World), 0 ≤ n → 0 ≤ k → Calls Tryd.prog 32 #[.int .i64 n, .int .i64 k] w fun e w' => e = .returned (.int .i64 (addf n k)) ∧ w = w') := fun n k w h1 h2 => (add_any n k w h1 h2).mono fun e w' h => ⟨h.1, h.2.symm⟩
  have hb0 := addf_bd acts.length 0 (by omega) (by omega)
  have HS0 : Hid (addf acts.length 0 ≤ 16777216 → addf acts.length 0 = (vsum acts 0 : Int)) := fun h => by
    rw [(addf_small (by omega) (by omega) h).1]; simp [vsum]
  go_enter Tryd.func15, Tryd.ntmps15
  go_wp2_with fail
  refine (A1.out _ _ _ (by omega) (by omega)).mono ?_
  rintro e w1 ⟨rfl, rfl⟩
  generalize addf acts.length 0 = z0 at *
  go_wp2_with fail
  go_loopw [3, 4] (fun n i wr => ∃ (k : Nat) (z : Int), k ≤ acts.length ∧ n = .int .i64 z ∧ i = .int .i64 k ∧ 0 ≤ z ∧ z ≤ 33554432 ∧ Hid (z ≤ 16777216 → z = (vsum acts k : Int)) ∧ wr = w) (fun _ i _ => acts.length - (intOf i).toNat)
  case atStart => exact ⟨0, z0, by omega, rfl, rfl, hb0.1, hb0.2, HS0.out, rfl⟩
  case round =>
    obtain ⟨k, z, hk, rfl, rfl, hz1, hz2, HZ, hw⟩ := hrel
    have hw' := hw.symm
    subst hw'
    clear hw hb0 HS0
    by_cases hzm : z ≤ 16777216
    · by_cases hlt : k < acts.length
      · obtain ⟨a, ha⟩ : ∃ a, acts[k]? = some a := ⟨acts[k], List.getElem?_eq_getElem hlt⟩
        obtain ⟨hts, b, off, rfl, c0, c1, c2, c3⟩ := HS.out k a ha
        have q1 : (k : Int) < acts.length := by omega
        have hv := vsum_succ ha
        have hZ := HZ.out hzm
        have hb1 := addf_bd z a.t.size (by omega) (by omega)
        have hs1 := @addf_small z a.t.size (by omega) (by omega)
        by_cases hn : 0 < a.n ∧ a.n ≤ 1048576
        · obtain ⟨n1, n2⟩ := hn
          have hc : cost a = a.t.size + a.n.toNat := by unfold cost np; rw [if_pos ⟨n1, n2⟩]
          have hs2 := @addf_small (addf z a.t.size) a.n (by omega) (by omega)
          have hb2 := addf_bd (addf z a.t.size) a.n (by omega) (by omega)
          have HZ2 : Hid (addf (addf z a.t.size) a.n ≤ 16777216 → addf (addf z a.t.size) a.n = (vsum acts (k + 1) : Int)) := fun h => by
            obtain ⟨e1, l1⟩ := hs2 h
            obtain ⟨e2, l2⟩ := hs1 l1
            rw [e1, e2, hv, hc, hZ]; omega
          have d1 : decide (0 < a.n) = true := by simp; exact n1
          have d2 : decide (a.n ≤ 1048576) = true := by simp; exact n2
          clear HZ hZ hs1 hs2 hv hc ha c0 c1
          go_wp2_with fail
          refine (A1.out _ _ _ (by omega) (by omega)).mono ?_
          rintro e w1 ⟨rfl, rfl⟩
          generalize addf z a.t.size = y at *
          go_wp2_with fail
          refine (A1.out _ _ _ (by omega) (by omega)).mono ?_
          rintro e w1 ⟨rfl, rfl⟩
          generalize addf y a.n = y2 at *
          go_wp2_with fail
          exact ⟨⟨k + 1, y2, hlt, rfl, by go_num, hb2.1, hb2.2, HZ2.out, by simp⟩, by simp [intOf]; omega⟩
        · have hc : cost a = a.t.size := by unfold cost np; rw [if_neg hn]; rfl
          have HZ2 : Hid (addf z a.t.size ≤ 16777216 → addf z a.t.size = (vsum acts (k + 1) : Int)) := fun h => by
            obtain ⟨e2, l2⟩ := hs1 h
            rw [e2, hv, hc, hZ]; omega
          clear HZ hZ hs1 hv hc ha c0 c1
          by_cases n1 : 0 < a.n
          · have n2 : ¬ (a.n ≤ 1048576) := fun h => hn ⟨n1, h⟩
            clear hn
            go_wp2_with fail
            refine (A1.out _ _ _ (by omega) (by omega)).mono ?_
            rintro e w1 ⟨rfl, rfl⟩
            generalize addf z a.t.size = y at *
            go_wp2_with fail
            exact ⟨⟨k + 1, y, hlt, rfl, by go_num, hb1.1, hb1.2, HZ2.out, by simp⟩, by simp [intOf]; omega⟩
          · clear hn
            go_wp2_with fail
            refine (A1.out _ _ _ (by omega) (by omega)).mono ?_
            rintro e w1 ⟨rfl, rfl⟩
            generalize addf z a.t.size = y at *
            go_wp2_with fail
            exact ⟨⟨k + 1, y, hlt, rfl, by go_num, hb1.1, hb1.2, HZ2.out, by simp⟩, by simp [intOf]; omega⟩
      · obtain rfl : k = acts.length := by omega
        have q1 : ¬ ((acts.length : Int) < acts.length) := by omega
        have hZ := HZ.out hzm
        have HF : Hid (vsum acts acts.length ≤ 16777216) := by show _ ≤ _; omega
        have q2 : ¬ (16777216 < z) := by omega
        clear HZ hZ
        go_wp2_with fail
        go_ret
        exact ⟨false, rfl, fun _ => HF.out, rfl⟩
    · have q2 : 16777216 < z := by omega
      by_cases hlt : k < acts.length
      · have q1 : (k : Int) < acts.length := by omega
        clear HZ
        go_wp2_with fail
        go_ret
        exact ⟨true, rfl, (fun h => by cases h), rfl⟩
      · have q1 : ¬ ((k : Int) < acts.length) := by omega
        clear HZ
        go_wp2_with fail
        go_ret
        exact ⟨true, rfl, (fun h => by cases h), rfl⟩
end Go.Proofs.YtkmmcpkakpglkaaDoor
