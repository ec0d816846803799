import Derived.Test.YtfkegaencoodbaaDoorUq
import Derived.Test.YtfkegaencoodbaaDoorUr
import Derived.Test.YtfkegaencoodbaaDoorTe
import Derived.Test.YtfkegaencoodbaaDoorRw
set_option linter.unusedVariables false
set_option linter.unusedSimpArgs false
namespace Go.Proofs.YtfkegaencoodbaaDoor
open Go.RowKit

/-! The code's marked: a line and a mark below. -/
def mkB (s : ByteArray) (y z : Int) : ByteArray := if mkd s y z then tlB (shB (lineS s y) (P (lineS s y)).length) (cfB (lineS s y) (z - 1)).toNat else ⟨#[]⟩
theorem rshB_mk (name s : ByteArray) (c y z : Int) : rshB name s c y z = hdB name c y z ++ mkB s y z := by
  unfold rshB mkB tlB
  by_cases h : mkd s y z
  · rw [if_pos h, if_pos h]
    simp only [ByteArray.append_assoc]
  · rw [if_neg h, if_neg h]
    exact (ByteArray.append_empty).symm
theorem r32_cells {w : World} {B g n cap : Nat} {s : ByteArray} (h : w.ownsRow B 21 1 (.slice (some ⟨g, 0, none⟩) n cap) n (r32 (chL s))) (j : Nat) (hj : j < (chL s).length) : w.cell? ((⟨g, 0, none⟩ : Addr).add j) = some (.int .i32 (((chL s).map (fun i : Nat => (i : Int))).getD j 0)) := by
  refine h.cells rfl j _ ?_
  simp [r32, List.getD, List.getElem?_map, List.getElem?_eq_getElem hj]
theorem conv_r32 {w : World} {B g n cap cap' : Nat} {s : ByteArray} (h : w.ownsRow B 21 1 (.slice (some ⟨g, 0, none⟩) n cap) n (r32 (chL s))) (k : Nat) (hk : k ≤ (P s).length) :
    (convert 65 9 (.slice (some ⟨g, 0, none⟩) k cap')).run Tryd.prog w = .ok (.string (shB s k)) w := by
  have hl := chL_len s
  have h2 := run_convert_runes (P := Tryd.prog) w 65 9 21 ⟨g, 0, none⟩ k cap' ((chL s).map (fun i : Nat => (i : Int))) (by rw [List.length_map, hl]; exact hk) Tryd.underlying65 Tryd.underlying21 Tryd.underlying9 (fun j hj => r32_cells h j (by simpa using hj))
  rw [h2, ← List.map_take, runes_rb, chL_rb s k hk]
abbrev plb (x y z : Int) : Obj := .cells #[.int .i64 x, .int .i64 y, .int .i64 z] 24
abbrev plv (x y z : Int) : Value := .agg #[.int .i64 x, .int .i64 y, .int .i64 z]
set_option maxHeartbeats 2000000 in
set_option maxRecDepth 100000 in
theorem marked_any {s : ByteArray} {x y z : Int} {W : World} (hs : s.size ≤ 50000000) (hT : Tab W) (hz : i64 z) :
    Calls Tryd.prog 20 #[.string s, plv x y z] W fun e w' => e = .returned (.string (mkB s y z)) ∧ Below W.heap.size W w' := by
  obtain ⟨V, hV⟩ : ∃ V, W.alloc (plb x y z) = V := ⟨_, rfl⟩
  obtain ⟨g, hg⟩ : ∃ g, W.heap.size = g := ⟨_, rfl⟩
  have hb : Below W.heap.size W V := by rw [← hV]; exact (Below.refl _ _).alloc (Nat.le_refl _) _
  have hk : V.heap[g]? = some (plb x y z) := by rw [← hV, ← hg]; exact new_at _ _
  have c0 : V.cell? ⟨g, 0, none⟩ = some (.int .i64 x) := blk_cell hk rfl
  have c1 : V.cell? ⟨g, 1, none⟩ = some (.int .i64 y) := blk_cell hk rfl
  have c2 : V.cell? ⟨g, 2, none⟩ = some (.int .i64 z) := blk_cell hk rfl
  have HB : Hid (Below W.heap.size W V ∧ V.heap[g]? = some (plb x y z)) := ⟨hb, hk⟩
  obtain ⟨l, hl⟩ : ∃ l, lineS s y = l := ⟨_, rfl⟩
  obtain ⟨lb, hlb⟩ : ∃ lb, lineB s y = lb := ⟨_, rfl⟩
  have hlz : l.size ≤ 50000000 := by have := lineS_le s y; rw [hl] at this; omega
  have HL : Hid (∀ U, Calls Tryd.prog 33 #[.string s, .int .i64 y] U fun e w' => e = .returned (.tuple #[.string l, .bool lb]) ∧ Below U.heap.size U w') := fun U => by rw [← hl, ← hlb]; exact line_any s y U (by omega)
  obtain ⟨n, hP⟩ : ∃ n, (P l).length = n := ⟨_, rfl⟩
  have hnz : n ≤ 50000000 := by have := P_len l; omega
  have HC : Hid (∀ U, Calls Tryd.prog 21 #[.string l] U fun e w' => e = .returned (.int .i64 n) ∧ Below U.heap.size U w') := fun U => by
    rw [← hP]
    exact (count_any l U (by unfold maxLen; omega)).mono fun e w' h => ⟨h.1, by obtain ⟨p, rfl⟩ := h.2; exact below_iter _ _ _⟩
  have HE : Hid (mkB s y z = if (lb = true ∧ 1 ≤ z ∧ z ≤ n + 1) then tlB (shB l n) (cfB l (z - 1)).toNat else ⟨#[]⟩) := (by subst hP; subst hlb; subst hl; rfl : mkB s y z = _)
  have HT : Hid (Tab W) := hT
  have HP : Hid ((P l).length = n) := hP
  unfold i64 at hz
  clear hb hk hl hlb hT hP
  go_enter Tryd.func20, Tryd.ntmps20
  go_wp2_with fail
  try rw [hV]
  try rw [hg]
  clear hV
  refine (HL.out _).mono ?_
  rintro e w1 ⟨rfl, hb1⟩
  have H1 : Hid (Below W.heap.size W w1 ∧ w1.heap[g]? = some (plb x y z)) := ⟨HB.out.1.trans (hb1.mono HB.out.1.size), blk_below HB.out.2 hb1⟩
  clear hb1 HB HL c0 c1 c2
  have d2 : ∀ u : HW (SG w1), u.W.cell? ⟨g, 2, none⟩ = some (.int .i64 z) := fun u => cel_up (blk_cell H1.out.2 rfl) u.h
  have hne : Nonempty (HW (SG w1)) := ⟨⟨w1, Below.refl _ _⟩⟩
  have hex : ∀ u : HW (SG w1), ∃ v : HW (SG w1), u.W = v.W := fun u => ⟨u, rfl⟩
  cases lb
  · clear HC
    go_wp2_with fail
    refine wp_region_quiet_in (S := SG w1) (by kernel_rfl) (by kernel_rfl) (Below.refl _ _).drew ?_
    repeat (go_big_quiet_step (fail))
    refine wpQuiet_nil ?_
    rintro w5 ⟨⟨W5, hS5⟩, rfl⟩
    have HS5 : Hid (Below w1.heap.size w1 w5) := hS5
    clear hS5 d2 hne hex
    go_wp2_with fail
    go_ret
    exact ⟨by rw [HE.out, if_neg (by simp)]; rfl, H1.out.1.trans (HS5.out.mono H1.out.1.size)⟩
  by_cases q1 : z < 1
  · clear HC
    go_wp2_with fail
    refine wp_region_quiet_in (S := SG w1) (by kernel_rfl) (by kernel_rfl) (Below.refl _ _).drew ?_
    repeat (go_big_quiet_step (fail))
    refine wpQuiet_nil ?_
    rintro w5 ⟨⟨W5, hS5⟩, rfl⟩
    have HS5 : Hid (Below w1.heap.size w1 w5) := hS5
    clear hS5 d2 hne hex
    go_wp2_with fail
    go_ret
    exact ⟨by rw [HE.out, if_neg (by omega)]; rfl, H1.out.1.trans (HS5.out.mono H1.out.1.size)⟩
  have dq1 : decide (z < 1) = false := decide_eq_false q1
  by_cases q2 : z > n + 1
  · go_wp2_with fail
    refine wp_region_quiet_in (S := SG w1) (by kernel_rfl) (by kernel_rfl) (Below.refl _ _).drew ?_
    repeat (go_big_quiet_step ((go_at_call 21; exact Calls.quiet_in _ (HC.out _) (fun _ _ => SG.keep))))
    refine wpQuiet_nil ?_
    rintro w5 ⟨⟨W5, hS5⟩, rfl⟩
    have HS5 : Hid (Below w1.heap.size w1 w5) := hS5
    clear hS5 d2 hne hex
    go_wp2_with fail
    go_ret
    exact ⟨by rw [HE.out, if_neg (by omega)]; rfl, H1.out.1.trans (HS5.out.mono H1.out.1.size)⟩
  obtain ⟨m, rfl⟩ : ∃ m : Nat, z = (m : Int) + 1 := ⟨(z - 1).toNat, by omega⟩
  have hmn : m ≤ n := by omega
  have HE2 : Hid (mkB s y ((m : Int) + 1) = tlB (shB l n) (tw (shB l m)).toNat) := (HE.out.trans (by rw [if_pos (by first | exact ⟨rfl, by omega, by omega⟩ | exact ⟨trivial, by omega, by omega⟩ | exact ⟨by omega, by omega⟩), show (m : Int) + 1 - 1 = m by omega, cfB, if_pos (by rw [HP.out]; omega), Int.toNat_natCast]) : mkB s y ((m : Int) + 1) = _)
  clear HE
  go_wp2_with fail
  refine wp_region_quiet_in (S := SG w1) (by kernel_rfl) (by kernel_rfl) (Below.refl _ _).drew ?_
  repeat (go_big_quiet_step ((go_at_call 21; exact Calls.quiet_in _ (HC.out _) (fun _ _ => SG.keep))))
  refine wpQuiet_nil ?_
  rintro w5 ⟨⟨W5, hS5⟩, rfl⟩
  have H5 : Hid (Below W.heap.size W w5 ∧ w5.heap[g]? = some (plb x y ((m : Int) + 1))) := ⟨H1.out.1.trans (Below.mono hS5 H1.out.1.size), blk_below H1.out.2 hS5⟩
  clear hS5 d2 hne hex H1 HC
  have HSH : Hid (∀ U, Calls Tryd.prog 34 #[.string l] U fun e w' => ∃ k, e = .returned (.slice (some ⟨k, 0, none⟩) n n) ∧ w'.ownsRow k 21 1 (.slice (some ⟨k, 0, none⟩) n n) n (r32 (chL l)) ∧ Below U.heap.size U w') := fun U => by
    have h := shown_any l U (by omega)
    rw [HP.out] at h
    exact h.mono fun e w' h => ⟨_, h.1, h.2.1, h.2.2⟩
  obtain ⟨X, hX⟩ : ∃ X, shB l m = X := ⟨_, rfl⟩
  obtain ⟨Y, hY⟩ : ∃ Y, shB l n = Y := ⟨_, rfl⟩
  have hXz : X.size ≤ 4 * m := by rw [← hX]; exact shB_sz l m
  have hYz : Y.size ≤ 4 * n := by rw [← hY]; exact shB_sz l n
  have htb := tw_bd X
  obtain ⟨a, ha⟩ : ∃ a : Nat, tw X = a := ⟨(tw X).toNat, by omega⟩
  rw [hX, hY, ha, Int.toNat_natCast] at HE2
  rw [ha] at htb
  have HX : Hid (∀ (w : World) k, w.ownsRow k 21 1 (.slice (some ⟨k, 0, none⟩) n n) n (r32 (chL l)) → (convert 65 9 (.slice (some ⟨k, 0, none⟩) m n)).run Tryd.prog w = .ok (.string X) w) := fun w k h => by rw [← hX]; exact conv_r32 h m (by rw [HP.out]; exact hmn)
  have HY : Hid (∀ (w : World) k, w.ownsRow k 21 1 (.slice (some ⟨k, 0, none⟩) n n) n (r32 (chL l)) → (convert 65 9 (.slice (some ⟨k, 0, none⟩) n n)).run Tryd.prog w = .ok (.string Y) w) := fun w k h => by rw [← hY]; exact conv_r32 h n (by rw [HP.out]; exact Nat.le_refl _)
  have HTX : Hid (∀ U, Below W.heap.size W U → Calls Tryd.prog 35 #[.string X] U fun e w' => e = .returned (.int .i64 a) ∧ Below U.heap.size U w') := fun U h => by rw [← ha]; exact wtext_any X U (HT.out.below h) (by omega)
  have HRP : Hid (∀ U, Calls Tryd.prog 36 #[.string ⟨#[32]⟩, .int .i64 a] U fun e w' => e = .returned (.string (blk8 a)) ∧ Below U.heap.size U w') := fun U => rep_any a (by omega) U
  clear hX hY ha HT HP
  go_wp2_with fail
  refine (HSH.out _).mono ?_
  rintro e w6 ⟨k, rfl, hr6, hb6⟩
  have H6 : Hid (Below W.heap.size W w6 ∧ w6.heap[g]? = some (plb x y ((m : Int) + 1)) ∧ w6.ownsRow k 21 1 (.slice (some ⟨k, 0, none⟩) n n) n (r32 (chL l))) := ⟨H5.out.1.trans (hb6.mono H5.out.1.size), blk_below H5.out.2 hb6, hr6⟩
  have e2 : w6.cell? ⟨g, 2, none⟩ = some (.int .i64 ((m : Int) + 1)) := blk_cell H6.out.2.1 rfl
  have e3 := HX.out w6 k H6.out.2.2
  clear hr6 hb6 H5 HSH HX
  go_wp2_with fail
  refine (HTX.out _ H6.out.1).mono ?_
  rintro e w7 ⟨rfl, hb7⟩
  have H7 : Hid (Below W.heap.size W w7 ∧ w7.ownsRow k 21 1 (.slice (some ⟨k, 0, none⟩) n n) n (r32 (chL l))) := ⟨H6.out.1.trans (hb7.mono H6.out.1.size), own_below H6.out.2.2 hb7⟩
  have e4 : ∀ u : HW (SG w7), (convert 65 9 (.slice (some ⟨k, 0, none⟩) n n)).run Tryd.prog u.W = .ok (.string Y) u.W := fun u => HY.out _ _ (own_below H7.out.2 u.h)
  clear hb7 H6 HTX e2 e3 HY
  go_wp2_with fail
  have hne : Nonempty (HW (SG w7)) := ⟨⟨w7, Below.refl _ _⟩⟩
  have hex : ∀ u : HW (SG w7), ∃ v : HW (SG w7), u.W = v.W := fun u => ⟨u, rfl⟩
  have u1 : ((⟨#[32, 32]⟩ : ByteArray) ++ Y).size = 2 + Y.size := ByteArray.size_append
  have u2 : ((⟨#[32, 32]⟩ : ByteArray) ++ Y ++ ⟨#[10]⟩).size = 2 + Y.size + 1 := by rw [ByteArray.size_append, u1]; rfl
  have u3 : ((⟨#[32, 32]⟩ : ByteArray) ++ Y ++ ⟨#[10]⟩ ++ ⟨#[32, 32]⟩).size = 2 + Y.size + 1 + 2 := by rw [ByteArray.size_append, u2]; rfl
  have u4 : ((⟨#[32, 32]⟩ : ByteArray) ++ Y ++ ⟨#[10]⟩ ++ ⟨#[32, 32]⟩ ++ blk8 a).size = 2 + Y.size + 1 + 2 + a := by rw [ByteArray.size_append, u3, blk8_sz]
  have b4 := blk8_sz a
  have HZ : Hid (tlB Y a = (⟨#[32, 32]⟩ : ByteArray) ++ Y ++ ⟨#[10]⟩ ++ ⟨#[32, 32]⟩ ++ blk8 a ++ ⟨#[94, 10]⟩) := (by
    unfold tlB
    rw [show (⟨#[10, 32, 32]⟩ : ByteArray) = ⟨#[10]⟩ ++ ⟨#[32, 32]⟩ from rfl]
    simp only [ByteArray.append_assoc] : tlB Y a = _)
  refine wp_region_quiet_in (S := SG w7) (by kernel_rfl) (by kernel_rfl) (Below.refl _ _).drew ?_
  repeat (go_big_quiet_step ((go_at_call 36; exact Calls.quiet_in _ (HRP.out _) (fun _ _ => SG.keep))))
  refine wpQuiet_nil ?_
  rintro w8 ⟨⟨W8, hS8⟩, rfl⟩
  have H8 : Hid (Below W.heap.size W w8) := H7.out.1.trans (Below.mono hS8 H7.out.1.size)
  clear hS8 hne hex H7 HRP e4
  go_wp2_with fail
  go_ret
  exact ⟨by rw [HE2.out, HZ.out]; rfl, H8.out⟩

end Go.Proofs.YtfkegaencoodbaaDoor
