import Derived.Test.YtfkegaencoodbaaDoorUc
set_option linter.unusedVariables false
set_option linter.unusedSimpArgs false
namespace Go.Proofs.YtfkegaencoodbaaDoor
open Go.RowKit

/-! The document's Show. -/
def blk8 (n : Nat) : ByteArray := ⟨(List.replicate n 32).toArray⟩
theorem blk8_sz (n : Nat) : (blk8 n).size = n := by
  show (List.replicate n (32 : UInt8)).toArray.size = n
  simp
theorem blk8_succ (n : Nat) : blk8 (n + 1) = blk8 n ++ ⟨#[32]⟩ := by
  unfold blk8
  rw [List.replicate_succ', ← ByteArray.mk_append_mk]
/-- Is there a mark? -/
abbrev mkd (s : ByteArray) (y z : Int) : Prop := lineB s y = true ∧ 1 ≤ z ∧ z ≤ (P (lineS s y)).length + 1
/-- What stands below the first line. -/
def tlB (t : ByteArray) (n : Nat) : ByteArray := ⟨#[32, 32]⟩ ++ t ++ ⟨#[10, 32, 32]⟩ ++ blk8 n ++ ⟨#[94, 10]⟩
def rshB (name s : ByteArray) (c y z : Int) : ByteArray := if mkd s y z then hdB name c y z ++ ⟨#[32, 32]⟩ ++ shB (lineS s y) (P (lineS s y)).length ++ ⟨#[10, 32, 32]⟩ ++ blk8 (cfB (lineS s y) (z - 1)).toNat ++ ⟨#[94, 10]⟩ else hdB name c y z
theorem lineS_le (s : ByteArray) (n : Int) : (lineS s n).size ≤ s.size := by
  unfold lineS
  split
  · unfold ln
    rw [ByteArray.size_extract]
    omega
  · exact Nat.zero_le _
theorem hdB_sz {name : ByteArray} {c y z : Int} (hc : i64 c) (hy : i64 y) (hz : i64 z) : (hdB name c y z).size ≤ name.size + 100 := by
  have s1 := itB_sz hc
  have s2 := itB_sz hy
  have s3 := itB_sz hz
  unfold hdB
  simp only [ByteArray.size_append]
  have z1 : (⟨#[58, 32]⟩ : ByteArray).size = 2 := rfl
  have z2 : (⟨#[58]⟩ : ByteArray).size = 1 := rfl
  have z3 : (⟨#[58, 32, 101, 114, 114, 111, 114, 32]⟩ : ByteArray).size = 8 := rfl
  have z4 : (⟨#[10]⟩ : ByteArray).size = 1 := rfl
  omega
theorem cfB_bd (s : ByteArray) (f : Int) (hs : s.size ≤ 100000000) : 0 ≤ cfB s f ∧ cfB s f ≤ 10000000000 := by
  rw [← cfK_end]
  exact cfK_bd s f _ (by have := P_len s; omega)
set_option maxHeartbeats 2000000 in
set_option maxRecDepth 100000 in
theorem rshow_any {name s : ByteArray} {c x y z : Int} {W : World} (hn : name.size ≤ 50000000) (hs : s.size ≤ 50000000) (hI : ItP W) (hc : i64 c) (hy : i64 y) (hz : i64 z) :
    Calls Tryd.prog 7 #[.string name, .string s, ftv c x y z] W fun e w' => e = .returned (.string (rshB name s c y z)) ∧ Below W.heap.size W w' := by
  obtain ⟨V, hV⟩ : ∃ V, W.alloc (ftb c x y z) = V := ⟨_, rfl⟩
  obtain ⟨g, hg⟩ : ∃ g, W.heap.size = g := ⟨_, rfl⟩
  have hb : Below W.heap.size W V := by rw [← hV]; exact (Below.refl _ _).alloc (Nat.le_refl _) _
  have hk : V.heap[g]? = some (ftb c x y z) := by rw [← hV, ← hg]; exact new_at _ _
  have c0 : V.cell? ⟨g, 0, none⟩ = some (.int .i64 c) := blk_cell hk rfl
  have c1 : V.cell? ⟨g, 1, none⟩ = some (.int .i64 x) := blk_cell hk rfl
  have c2 : V.cell? ⟨g, 2, none⟩ = some (.int .i64 y) := blk_cell hk rfl
  have c3 : V.cell? ⟨g, 3, none⟩ = some (.int .i64 z) := blk_cell hk rfl
  have HB : Hid (Below W.heap.size W V ∧ V.heap[g]? = some (ftb c x y z)) := ⟨hb, hk⟩
  obtain ⟨h, hh⟩ : ∃ h, hdB name c y z = h := ⟨_, rfl⟩
  have hhz : h.size ≤ 50000100 := by have := hdB_sz (name := name) hc hy hz; rw [hh] at this; omega
  have HH : Hid (∀ U, Below V.heap.size V U → Calls Tryd.prog 13 #[.string name, ftv c x y z] U fun e w' => e = .returned (.string h) ∧ Below U.heap.size U w') := fun U hU => by rw [← hh]; exact rhead_any (by omega) ((hI.below hb).below hU) hc hy hz
  obtain ⟨l, hl⟩ : ∃ l, lineS s y = l := ⟨_, rfl⟩
  obtain ⟨lb, hlb⟩ : ∃ lb, lineB s y = lb := ⟨_, rfl⟩
  have hlz : l.size ≤ 50000000 := by have := lineS_le s y; rw [hl] at this; omega
  have HL : Hid (∀ U, Calls Tryd.prog 14 #[.string s, .int .i64 y] U fun e w' => e = .returned (.tuple #[.string l, .bool lb]) ∧ U = w') := fun U => by rw [← hl, ← hlb]; exact (rline_any s y U (by omega)).mono fun e w' h => ⟨h.1, h.2.symm⟩
  obtain ⟨n, hP⟩ : ∃ n, (P l).length = n := ⟨_, rfl⟩
  have hnz : n ≤ 50000000 := by have := P_len l; omega
  have HC : Hid (∀ U, Calls Tryd.prog 15 #[.string l] U fun e w' => e = .returned (.int .i64 n) ∧ Below U.heap.size U w') := fun U => by rw [← hP]; exact rcount_any l U (by omega)
  have HE : Hid (rshB name s c y z = if (lb = true ∧ 1 ≤ z ∧ z ≤ n + 1) then h ++ ⟨#[32, 32]⟩ ++ shB l n ++ ⟨#[10, 32, 32]⟩ ++ blk8 (cfB l (z - 1)).toNat ++ ⟨#[94, 10]⟩ else h) := (by subst hP; subst hlb; subst hl; subst hh; rfl : rshB name s c y z = _)
  unfold i64 at hz
  clear hb hk hI hc hy hh hl hlb
  go_enter Tryd.func7, Tryd.ntmps7
  go_wp2_with fail
  try rw [hV]
  try rw [hg]
  clear hV hg
  refine (HH.out _ (Below.refl _ _)).mono ?_
  rintro e w1 ⟨rfl, hb1⟩
  have H1 : Hid (Below W.heap.size W w1 ∧ w1.heap[g]? = some (ftb c x y z)) := ⟨HB.out.1.trans (hb1.mono HB.out.1.size), blk_below HB.out.2 hb1⟩
  have d2 : w1.cell? ⟨g, 2, none⟩ = some (.int .i64 y) := blk_cell H1.out.2 rfl
  have d3 : w1.cell? ⟨g, 3, none⟩ = some (.int .i64 z) := blk_cell H1.out.2 rfl
  clear hb1 HB HH c0 c1 c2 c3
  go_wp2_with fail
  refine (HL.out _).mono ?_
  rintro e w2 ⟨rfl, hw⟩
  subst hw
  clear HL
  cases lb
  · go_wp2_with fail
    go_ret
    exact ⟨by rw [HE.out, if_neg (by simp)]; rfl, H1.out.1⟩
  by_cases q1 : z < 1
  · go_wp2_with fail
    go_ret
    exact ⟨by rw [HE.out, if_neg (by omega)]; rfl, H1.out.1⟩
  go_wp2_with fail
  refine (HC.out _).mono ?_
  rintro e w3 ⟨rfl, hb3⟩
  have H3 : Hid (Below W.heap.size W w3 ∧ w3.heap[g]? = some (ftb c x y z)) := ⟨H1.out.1.trans (hb3.mono H1.out.1.size), blk_below H1.out.2 hb3⟩
  have e3 : w3.cell? ⟨g, 3, none⟩ = some (.int .i64 z) := blk_cell H3.out.2 rfl
  clear hb3 H1 HC d2 d3
  by_cases q2 : z > n + 1
  · go_wp2_with fail
    go_ret
    exact ⟨by rw [HE.out, if_neg (by omega)]; rfl, H3.out.1⟩
  have HE2 : Hid (rshB name s c y z = h ++ ⟨#[32, 32]⟩ ++ shB l n ++ ⟨#[10, 32, 32]⟩ ++ blk8 (cfB l (z - 1)).toNat ++ ⟨#[94, 10]⟩) := (HE.out.trans (if_pos (by first | exact ⟨rfl, by omega, by omega⟩ | exact ⟨trivial, by omega, by omega⟩ | exact ⟨by omega, by omega⟩)) : rshB name s c y z = _)
  obtain ⟨cf, hcf⟩ : ∃ cf, cfB l (z - 1) = cf := ⟨_, rfl⟩
  have hcb := cfB_bd l (z - 1) (by omega)
  rw [hcf] at hcb HE2
  obtain ⟨t, ht⟩ : ∃ t, shB l n = t := ⟨_, rfl⟩
  have htz := shB_sz l n
  rw [ht] at htz HE2
  obtain ⟨m, rfl⟩ : ∃ m : Nat, cf = m := ⟨cf.toNat, by omega⟩
  rw [Int.toNat_natCast] at HE2
  have HS : Hid (∀ U, Calls Tryd.prog 16 #[.string l, .int .i64 (z - 1)] U fun e w' => e = .returned (.tuple #[.string t, .int .i64 m]) ∧ Below U.heap.size U w') := fun U => by
    have := rshown_any l (z - 1) U (by omega)
    rw [hP, ht, hcf] at this
    exact this
  clear HE hcf ht
  go_wp2_with fail
  refine (HS.out _).mono ?_
  rintro e w4 ⟨rfl, hb4⟩
  have H4 : Hid (Below W.heap.size W w4) := H3.out.1.trans (hb4.mono H3.out.1.size)
  clear hb4 H3 HS e3
  have u1 : (h ++ ⟨#[32, 32]⟩).size = h.size + 2 := ByteArray.size_append
  have u2 : (h ++ ⟨#[32, 32]⟩ ++ t).size = h.size + 2 + t.size := by rw [ByteArray.size_append, u1]
  have u3 : (h ++ ⟨#[32, 32]⟩ ++ t ++ ⟨#[10, 32, 32]⟩).size = h.size + 2 + t.size + 3 := by rw [ByteArray.size_append, u2]; rfl
  obtain ⟨X, hX⟩ : ∃ X, h ++ ⟨#[32, 32]⟩ ++ t ++ ⟨#[10, 32, 32]⟩ = X := ⟨_, rfl⟩
  go_wp2_with fail
  try rw [hX]
  rw [hX] at u3 HE2
  clear u1 u2 hX
  go_loopw [13, 14] (fun u i wr => ∃ k : Nat, k ≤ m ∧ i = .int .i64 k ∧ Hid (Below W.heap.size W wr ∧ Rb8 W.heap.size wr u (blk8 k))) (fun _ i _ => m - (intOf i).toNat)
  case atStart => exact ⟨0, Nat.zero_le _, rfl, ⟨H4.out, r8_nil _ _⟩⟩
  case round =>
    obtain ⟨k, hk, rfl, HJ⟩ := hrel
    clear H4
    obtain ⟨pu, nu, cu, rfl⟩ : ∃ p n c, u13 = .slice p n c := by
      rcases HJ.out.2.2 with ⟨rfl, _⟩ | ⟨g, cap, cur, rfl, _⟩
      · exact ⟨_, _, _, rfl⟩
      · exact ⟨_, _, _, rfl⟩
    have hbz := blk8_sz k
    by_cases hlt : k < m
    · have q5 : (k : Int) < m := by omega
      have hal : Below wr.heap.size wr (wr.alloc (.cells #[.int .u8 32] 5)) := (Below.refl _ _).alloc (Nat.le_refl _) _
      have HR : Hid (Rb8 W.heap.size (wr.alloc (.cells #[.int .u8 32] 5)) (.slice pu nu cu) (blk8 k) ∧ W.heap.size ≤ (wr.alloc (.cells #[.int .u8 32] 5)).heap.size) := ⟨HJ.out.2.below hal, Nat.le_trans HJ.out.1.size hal.size⟩
      have HQ : Hid (∀ v w5, Rb8 W.heap.size w5 v (blk8 k ++ ⟨#[32]⟩) → Below W.heap.size (wr.alloc (.cells #[.int .u8 32] 5)) w5 → Below W.heap.size W w5 ∧ Rb8 W.heap.size w5 v (blk8 (k + 1))) := fun v w5 h1 h2 => ⟨(HJ.out.1.trans (hal.mono HJ.out.1.size)).trans h2, by rw [blk8_succ]; exact h1⟩
      clear hal HJ
      go_wp2_with (at_builtin; refine app_bs (by rfl) _ _ (by rfl) W.heap.size (.slice pu nu cu) (blk8 k) ⟨#[32]⟩ (by rfl) HR.out.1 wr.heap.size 1 (by rfl) (new_at _ _) (by show (blk8 k).size + 1 ≤ _; omega) HR.out.2 ?_; intro v' w5 h1 h2 h3; have H5 := show Hid _ from HQ.out v' w5 h1 h2; clear h1 h2 h3)
      exact ⟨⟨k + 1, hlt, by go_num, H5⟩, by simp [intOf]; omega⟩
    · obtain rfl : k = m := by omega
      have q5 : ¬ ((k : Int) < k) := by omega
      have hcv := conv_b8 wr _ _ _ HJ.out.2
      obtain ⟨Y, hY⟩ : ∃ Y, blk8 k = Y := ⟨_, rfl⟩
      rw [hY] at hcv hbz HE2
      have u4 : (X ++ Y).size = X.size + Y.size := ByteArray.size_append
      clear hY
      go_wp2_with fail
      go_ret
      exact ⟨by rw [HE2.out]; rfl, HJ.out.1⟩

end Go.Proofs.YtfkegaencoodbaaDoor
