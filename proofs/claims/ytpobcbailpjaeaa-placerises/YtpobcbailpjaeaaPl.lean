import Derived.Test.YtpobcbailpjaeaaPk
import Derived.Test.YtpobcbailpjaeaaPj
import Derived.Test.YtpobcbailpjaeaaRw
import Derived.Deep.CutRange
import Derived.Deep.QuietTactic
import Derived.BigQuiet
set_option linter.unusedVariables false
set_option linter.unusedSimpArgs false
namespace Go.Proofs.Ytpobcbailpjaeaa
open Go.RowKit Go.Shelf

structure R1 (w W : World) (b4 g n : Nat) (A L C : Int) (zs : List Int) : Prop where
  q4 : Box3 W b4 A L C
  row : Row W (some ⟨g, 0, none⟩) n zs
  bel : Below w.heap.size w W
theorem R1.below {w W W' : World} {b4 g n : Nat} {A L C : Int} {zs : List Int} (h : R1 w W b4 g n A L C zs) (hb : Below W.heap.size W W') : R1 w W' b4 g n A L C zs :=
  ⟨h.q4.below hb, h.row.below hb, h.bel.trans (hb.mono h.bel.size)⟩

structure R2 (w W : World) (b4 b7 g n : Nat) (A L C A1 L1 C1 : Int) (zs : List Int) : Prop where
  q4 : Box3 W b4 A L C
  q7 : Box3 W b7 A1 L1 C1
  row : Row W (some ⟨g, 0, none⟩) n zs
  bel : Below w.heap.size w W
theorem R2.below {w W W' : World} {b4 b7 g n : Nat} {A L C A1 L1 C1 : Int} {zs : List Int} (h : R2 w W b4 b7 g n A L C A1 L1 C1 zs) (hb : Below W.heap.size W W') : R2 w W' b4 b7 g n A L C A1 L1 C1 zs :=
  ⟨h.q4.below hb, h.q7.below hb, h.row.below hb, h.bel.trans (hb.mono h.bel.size)⟩

theorem bel_drew (W : World) : Below W.heap.size W W.drew := (Below.refl _ _).drew

theorem P_zs (s : ByteArray) (k : Nat) (h : k < (P s).length) : ((P s).map (fun i : Nat => (i : Int))).getD k 0 = (st s k : Int) := by
  have := P_at s k h
  simp [List.getD, this]

theorem cell_dr {W : World} {p : Addr} {v : Value} (h : W.cell? p = some v) : W.drew.cell? p = some v := h
theorem cell_al {W : World} {p : Addr} {v : Value} (o : Obj) (h : W.cell? p = some v) : (W.alloc o).cell? p = some v := cell_up h ((Below.refl _ _).alloc (Nat.le_refl _) _)
theorem bel_a {W W' : World} (h : Below W.drew.heap.size W.drew W') : Below W.heap.size W W' := (bel_drew W).trans h
theorem bel_b {W W' : World} {o : Obj} (h : Below (W.alloc o).drew.heap.size (W.alloc o).drew W') : Below W.heap.size W W' :=
  (((Below.refl _ W).alloc (Nat.le_refl _) o).drew).trans (h.mono (by show _ ≤ (W.alloc o).heap.size; simp))
theorem bel_c {W W' W'' : World} (h : Below W.heap.size W W') (k : Below W'.heap.size W' W'') : Below W.heap.size W W'' := h.trans (k.mono h.size)
theorem bel_d {W W' W'' : World} {o : Obj} (h : Below W.heap.size W W') (k : Below (W'.alloc o).heap.size (W'.alloc o) W'') : Below W.heap.size W W'' :=
  (h.alloc h.size o).trans (k.mono (by have := h.size; simp; omega))

theorem bel_drewN (W : World) (n : Nat) : Below W.heap.size W (W.drewN n) := ⟨rfl, rfl, rfl, Nat.le_refl _, fun _ _ => rfl⟩
theorem row_other {W : World} {g n b k : Nat} {zs : List Int} {v : Value} (h : Row W (some ⟨g, 0, none⟩) n zs) (hne : g ≠ b) : Row (W.setCell ⟨b, k, none⟩ v) (some ⟨g, 0, none⟩) n zs := by
  refine ⟨h.1, fun j hj => ?_⟩
  obtain ⟨b', off, e, hc⟩ := h.2 j hj
  cases e
  exact ⟨g, 0, rfl, (World.cell?_of_block (Below.heap_setCell _ _ _ g (fun e => hne e))).trans hc⟩

theorem fin_set {w6 w8 : World} {b : Nat} (h8 : Below w6.heap.size w6 w8) (hb : w6.heap.size ≤ b) (v0 v1 v2 : Value) : Below w6.heap.size w6 (((w8.setCell ⟨b, 0, none⟩ v0).setCell ⟨b, 1, none⟩ v1).setCell ⟨b, 2, none⟩ v2) :=
  ((h8.setCell (p := ⟨b, 0, none⟩) hb v0).setCell (p := ⟨b, 1, none⟩) hb v1).setCell (p := ⟨b, 2, none⟩) hb v2

theorem keep7 {w W w1 : World} {x y z k : Nat} {a1 a2 a3 b1 b2 b3 c1 : Value}
    (h : W.cell? ⟨x, 0, none⟩ = some a1 ∧ W.cell? ⟨x, 1, none⟩ = some a2 ∧ W.cell? ⟨x, 2, none⟩ = some a3 ∧ W.cell? ⟨y, 0, none⟩ = some b1 ∧ W.cell? ⟨y, 1, none⟩ = some b2 ∧ W.cell? ⟨y, 2, none⟩ = some b3 ∧ W.cell? ⟨z, k, none⟩ = some c1 ∧ Below w.heap.size w W)
    (hb : Below W.heap.size W w1) :
    w1.cell? ⟨x, 0, none⟩ = some a1 ∧ w1.cell? ⟨x, 1, none⟩ = some a2 ∧ w1.cell? ⟨x, 2, none⟩ = some a3 ∧ w1.cell? ⟨y, 0, none⟩ = some b1 ∧ w1.cell? ⟨y, 1, none⟩ = some b2 ∧ w1.cell? ⟨y, 2, none⟩ = some b3 ∧ w1.cell? ⟨z, k, none⟩ = some c1 ∧ Below w.heap.size w w1 := by
  obtain ⟨h1, h2, h3, h4, h5, h6, h7, h10⟩ := h
  exact ⟨cell_up h1 hb, cell_up h2 hb, cell_up h3 hb, cell_up h4 hb, cell_up h5 hb, cell_up h6 hb, cell_up h7 hb, h10.trans (hb.mono h10.size)⟩

set_option maxRecDepth 100000 in
set_option maxHeartbeats 4000000 in
theorem rises_small (s : ByteArray) (w : World) (hs : s.size ≤ 4000) :
    Calls Try.prog 5 #[.string s] w fun x w' => x = .returned (.bool true) ∧ Below w.heap.size w w' := by
  have hP := P_len s
  have h1 : ¬ ((268435455 : Int) < (s.size : Int)) := by omega
  have h2 : ¬ ((4000 : Int) < (s.size : Int)) := by omega
  obtain ⟨e1, e2, e3⟩ := place_at s 0 hs
  have e4 : pLn s 0 = 1 := rfl
  have e5 : pCl s 0 = 1 := by
    have hz : (s.extract 0 0).size = 0 := by rw [size_ext _ _ _ (Nat.zero_le _)]
    have := P_len (s.extract 0 0)
    show 1 + (P (s.extract 0 0)).length = 1
    omega
  have HPC0 : Hid ((1 : Int) = (pCl s 0 : Int)) := by show _ = _; rw [e5]; rfl
  rw [e4] at e2
  rw [e5] at e3
  have hof : ∀ w, Calls Try.prog 7 #[.string s, .int .i64 0] w fun x w' => x = .returned (.tuple #[.agg #[.int .i64 0, .int .i64 1, .int .i64 1], .int .i64 0]) ∧ Below w.heap.size w w' := by
    intro w
    have h := of_in s 0 w (by omega) (Nat.zero_le _)
    have h0 : st s 0 = 0 := rfl
    rw [h0] at e1 e2 e3
    rw [e1, e2, e3] at h
    exact h
  have HOF : Hid _ := hof
  have HPL : Hid _ := places_any s
  clear e1 e2 e3 e4 e5 hof
  obtain ⟨n, hn⟩ : ∃ n, (P s).length = n := ⟨_, rfl⟩
  have HN : Hid ((P s).length = n) := hn
  rw [hn] at hP
  clear hn
  go_enter Try.func5, Try.ntmps5
  go_wp2_with fail
  refine (HPL.out _ (by omega)).mono ?_
  rintro e w1 ⟨rfl, hown, hb1⟩
  rw [ivs_eq] at hown
  have hrow := own_row hown
  rw [HN.out] at hrow ⊢
  obtain ⟨g, hg⟩ : ∃ g, w.heap.size + 1 = g := ⟨_, rfl⟩
  rw [hg] at hrow ⊢
  obtain ⟨zs, hzs⟩ : ∃ zs, (P s).map (fun i : Nat => (i : Int)) = zs := ⟨_, rfl⟩
  rw [hzs] at hrow
  have HZS : Hid ((P s).map (fun i : Nat => (i : Int)) = zs) := hzs
  have hg1 : g < w1.heap.size := by rw [← hg]; exact (hown.lt _ rfl).2
  have hgw : w.heap.size + 1 = g := hg
  clear hg hzs hown
  go_wp2_with fail
  refine (HOF.out _).mono ?_
  rintro e w2 ⟨rfl, hb2⟩
  have r2 : R1 w (w2.alloc (.cells #[.int .i64 0, .int .i64 1, .int .i64 1] 23)) w2.heap.size g n 0 1 1 zs :=
    ⟨Box3.new w2 0 1 1, (hrow.below hb2).below ((Below.refl _ _).alloc (Nat.le_refl _) _), ((hb1.trans (hb2.mono hb1.size))).alloc (Nat.le_trans hb1.size hb2.size) _⟩
  have hz2 := hb2.size
  clear hb1 hb2 hrow
  obtain ⟨b4, hb4⟩ : ∃ b4, w2.heap.size = b4 := ⟨_, rfl⟩
  rw [hb4] at r2
  obtain ⟨W3, hW3⟩ : ∃ W3, w2.alloc (.cells #[.int .i64 0, .int .i64 1, .int .i64 1] 23) = W3 := ⟨_, rfl⟩
  rw [hW3] at r2
  go_wp2_with fail
  try rw [hW3]
  have hgb4 : g ≠ b4 := by omega
  have hb4w : w.heap.size ≤ b4 := by omega
  clear hW3 hb4 hg1 hgw hz2
  have HS : Hid (W3.cell? ⟨b4, 0, none⟩ = some (.int .i64 0) ∧ W3.cell? ⟨b4, 1, none⟩ = some (.int .i64 1) ∧ W3.cell? ⟨b4, 2, none⟩ = some (.int .i64 1) ∧ Below W3.heap.size W3 W3.drew) := ⟨r2.q4.cell0, r2.q4.cell1, r2.q4.cell2, bel_drew _⟩
  have HR2 : Hid _ := r2
  clear r2
  go_region_held3 (fun w' => w'.cell? ⟨b4, 0, none⟩ = some (.int .i64 0) ∧ w'.cell? ⟨b4, 1, none⟩ = some (.int .i64 1) ∧ w'.cell? ⟨b4, 2, none⟩ = some (.int .i64 1) ∧ Below W3.heap.size W3 w')
    (first | (exact keep3 (by assumption) (by assumption)) | (exact HS.out) | go_keep)
    (first | (go_at_call 16; refine (start_any _).mono ?_; rintro e w5 ⟨rfl, hb5⟩))
  rename_i hheld
  have r3 := HR2.out.below hheld.2.2.2
  clear hheld HS HR2 hb5
  go_wp2_with fail
  go_loopw [6] (fun i wr => ∃ (j : Nat) (A L C : Int), i = .int .i64 ((j : Int) + 1) ∧ Hid (j ≤ n) ∧ Hid (L = (pLn s j : Int)) ∧ Hid (C = (pCl s j : Int)) ∧ Hid (R1 w wr b4 g n A L C zs)) (fun i _ => n + 1 - (RowKit.intOf i).toNat)
  case atStart => exact ⟨0, 0, 1, 1, rfl, Nat.zero_le _, rfl, HPC0.out, r3⟩
  case round =>
    obtain ⟨j, A, L, C, rfl, HJ, HL, HC, HR⟩ := hrel
    have hj4 : j ≤ 4000 := by have := HJ.out; omega
    by_cases hlt : j + 1 < n
    · have hk1 : j + 1 < (P s).length := by rw [HN.out]; exact hlt
      obtain ⟨p1, p2, p3⟩ := place_at s (j + 1) hs
      obtain ⟨l1, l2⟩ := line_of s (j + 1) hk1
      have hst1 := st_le s (j + 1)
      have hst1' := (st_lt s (j + 1)).2 hk1
      have hst0' := (st_lt s j).2 (by omega)
      have hdw := dw_facts s (st s (j + 1)) hst1'
      have hcell1 : zs.getD (j + 1) 0 = (st s (j + 1) : Int) := by rw [← HZS.out]; exact P_zs s (j + 1) hk1
      have hcell0 : zs.getD j 0 = (st s j : Int) := by rw [← HZS.out]; exact P_zs s j (by omega)
      have hpl : pLn s (j + 1) ≤ 4001 := by have := cn_le s (st s (j + 1)); unfold pLn; omega
      have hpc : pCl s (j + 1) ≤ 4001 := by have := cnt_le s (lf s (st s (j + 1))) (st s (j + 1)) hst1; unfold pCl; omega
      have hpl0 : pLn s j ≤ 4001 := by have := cn_le s (st s j); unfold pLn; omega
      have hpc0 : pCl s j ≤ 4001 := by have := cnt_le s (lf s (st s j)) (st s j) (st_le s j); unfold pCl; omega
      have hls := lineS_size s (pLn s (j + 1) : Int)
      have hof : ∀ w, Calls Try.prog 7 #[.string s, .int .i64 (st s (j + 1) : Int)] w fun x w' => x = .returned (.tuple #[.agg #[.int .i64 (st s (j + 1) : Int), .int .i64 (pLn s (j + 1) : Int), .int .i64 (pCl s (j + 1) : Int)], .int .i64 0]) ∧ Below w.heap.size w w' := by
        intro w
        have h := of_in s (st s (j + 1)) w (by omega) hst1
        rw [p1, p2, p3] at h
        exact h
      have hadv : ∀ w, Calls Try.prog 11 #[.agg #[.int .i64 0, .int .i64 1, .int .i64 1], .string (s.extract 0 (st s (j + 1)))] w fun x w' => x = .returned (.agg #[.int .i64 (st s (j + 1) : Int), .int .i64 (pLn s (j + 1) : Int), .int .i64 (pCl s (j + 1) : Int)]) ∧ Below w.heap.size w w' := by
        intro w
        have h := adv_lit 0 1 1 (s.extract 0 (st s (j + 1))) w (by rw [size_ext _ _ _ hst1]; omega) (by omega)
        rw [p1, p2, p3] at h
        exact h
      have hline : ∀ w, Calls Try.prog 9 #[.string s, .int .i64 (pLn s (j + 1) : Int)] w fun x w' => x = .returned (.tuple #[.string (lineS s (pLn s (j + 1) : Int)), .bool true]) ∧ Below w.heap.size w w' := by
        intro w; rw [← l1]; exact line_any s _ w (by omega)
      have hnext : ∀ w, Calls Try.prog 17 #[.string s, .int .i64 (st s (j + 1) : Int)] w fun x w' => x = .returned (.tuple #[.int .i64 (dp s (st s (j + 1))), .int .i64 (dw s (st s (j + 1))), .bool (gd s (st s (j + 1)))]) ∧ Below w.heap.size w w' := by
        intro w
        exact next_in s (st s (j + 1) : Int) w (by unfold maxLen; omega) (by omega) (by omega)
      have hcnt : ∀ w, Calls Try.prog 18 #[.string (lineS s (pLn s (j + 1) : Int))] w fun x w' => x = .returned (.int .i64 (P (lineS s (pLn s (j + 1) : Int))).length) ∧ Below w.heap.size w w' := fun w => count_in _ w (by unfold maxLen; omega)
      have hsf := step_feed s j (by omega)
      have hso := step_other s j (by omega)
      rw [p1] at p1
      clear p1 p2 p3 l1
      obtain ⟨E1, hE1⟩ : ∃ E1, st s (j + 1) = E1 := ⟨_, rfl⟩
      obtain ⟨E0, hE0⟩ : ∃ E0, st s j = E0 := ⟨_, rfl⟩
      obtain ⟨PL, hPL⟩ : ∃ x, pLn s (j + 1) = x := ⟨_, rfl⟩
      obtain ⟨PC, hPC⟩ : ∃ x, pCl s (j + 1) = x := ⟨_, rfl⟩
      obtain ⟨DP, hDP⟩ : ∃ x, dp s (st s (j + 1)) = x := ⟨_, rfl⟩
      obtain ⟨DW, hDW⟩ : ∃ x, dw s (st s (j + 1)) = x := ⟨_, rfl⟩
      obtain ⟨GD, hGD⟩ : ∃ x, gd s (st s (j + 1)) = x := ⟨_, rfl⟩
      obtain ⟨LS, hLS⟩ : ∃ x, lineS s (pLn s (j + 1) : Int) = x := ⟨_, rfl⟩
      obtain ⟨CT, hCT⟩ : ∃ x, (P (lineS s (pLn s (j + 1) : Int))).length = x := ⟨_, rfl⟩
      simp only [hLS, hCT, hDP, hDW, hGD] at hnext hcnt hline l2 hdw
      rw [hLS] at hCT
      simp only [hPL, hPC, hE1] at hof hadv hline hnext hcnt hsf hso l2 hdw hcell1 hst1 hst1' hpl hpc
      simp only [hCT] at hcnt l2
      simp only [hE0] at hsf hso hcell0 hst0'
      have HOF1 : Hid _ := hof
      have HAD1 : Hid _ := hadv
      have HLI1 : Hid _ := hline
      have HNX1 : Hid _ := hnext
      have HCN1 : Hid _ := hcnt
      have HL2 : Hid _ := l2
      have HSF : Hid _ := hsf
      have HSO : Hid _ := hso
      have HPLC : Hid (pLn s (j + 1) = PL ∧ pCl s (j + 1) = PC) := ⟨hPL, hPC⟩
      clear hof hadv hline hnext hcnt l2 hsf hso hPL hPC hE0 hE1 hDP hDW hGD hLS hCT
      have k1 := HR.out.row.at (j + 1) hlt
      rw [hcell1, Nat.zero_add] at k1
      have k0 := HR.out.row.at j (by omega)
      rw [hcell0, Nat.zero_add] at k0
      have hL0 : 0 ≤ L := by rw [HL.out]; omega
      have hL1 : L ≤ 4001 := by rw [HL.out]; omega
      have hC0 : 0 ≤ C := by rw [HC.out]; omega
      have hC1 : C ≤ 4001 := by rw [HC.out]; omega
      go_wp2_with fail
      refine (HOF1.out _).mono ?_
      rintro e w1 ⟨rfl, hb1⟩
      have r1 := HR.out.below hb1
      have r2 : R2 w (w1.alloc (.cells #[.int .i64 (E1 : Int), .int .i64 (PL : Int), .int .i64 (PC : Int)] 23)) b4 w1.heap.size g n A L C E1 PL PC zs :=
        ⟨r1.q4.alloc _, Box3.new _ _ _ _, r1.row.below ((Below.refl _ _).alloc (Nat.le_refl _) _), r1.bel.alloc r1.bel.size _⟩
      clear hb1 r1 HR k1 k0
      obtain ⟨b7, hb7⟩ : ∃ b7, w1.heap.size = b7 := ⟨_, rfl⟩
      rw [hb7] at r2
      obtain ⟨W2, hW2⟩ : ∃ W2, w1.alloc (.cells #[.int .i64 (E1 : Int), .int .i64 (PL : Int), .int .i64 (PC : Int)] 23) = W2 := ⟨_, rfl⟩
      rw [hW2] at r2
      have c40 := r2.q4.cell0
      have c41 := r2.q4.cell1
      have c42 := r2.q4.cell2
      have c70 := r2.q7.cell0
      have c71 := r2.q7.cell1
      have c72 := r2.q7.cell2
      have k1 := r2.row.at (j + 1) hlt
      rw [hcell1, Nat.zero_add] at k1
      have k0 := r2.row.at j (by omega)
      rw [hcell0, Nat.zero_add] at k0
      have HR2 : Hid _ := r2
      clear r2
      go_wp2_with fail
      clear hW2 hb7
      go_region
      have r4 := HR2.out.below (bel_drew W2)
      clear HR2
      clear c40 c41 c42 c70 c71 c72 k1 k0
      obtain ⟨W4, hW4⟩ : ∃ W4, W2.drew = W4 := ⟨_, rfl⟩
      rw [hW4] at r4
      try rw [hW4]
      clear hW4
      have c40 := r4.q4.cell0
      have c41 := r4.q4.cell1
      have c42 := r4.q4.cell2
      have c70 := r4.q7.cell0
      have c71 := r4.q7.cell1
      have c72 := r4.q7.cell2
      have k1 := r4.row.at (j + 1) hlt
      rw [hcell1, Nat.zero_add] at k1
      have k0 := r4.row.at j (by omega)
      rw [hcell0, Nat.zero_add] at k0
      have HR4 : Hid _ := r4
      clear r4
      have hi1 : (0 : Int) ≤ (j : Int) + 1 := by omega
      have hi2 : (j : Int) + 1 < (n : Int) := by omega
      have hi3 : (0 : Int) ≤ (E1 : Int) := by omega
      have hi4 : (E1 : Int) ≤ (s.size : Int) := by omega
      go_upto_region 14 with fail
      go_cut [9, 104] from 38 to 155 (fun f p wx => (∃ fb : Bool, f = .bool fb) ∧ p = .bool false ∧ wx = W4)
      case first =>
        by_cases hf : by8 s E0 = 10
        · have hfb : (((s[E0]'hst0').toNat : Int) == 10) = true := by rw [by8_get s E0 hst0', hf]; rfl
          have hx1 : ((PL : Int) != L + 1) = false := by have := (HSF.out hf).1; have := HL.out; simp; omega
          have hx2 : ((PC : Int) != 1) = false := by have := (HSF.out hf).2; simp; omega
          clear hf
          go_wp2_with fail
          go_meet
          exact ⟨⟨_, rfl⟩, rfl, rfl⟩
        · have hfb : (((s[E0]'hst0').toNat : Int) == 10) = false := by rw [by8_get s E0 hst0']; simp; omega
          have hx1 : ((PL : Int) != L) = false := by have := (HSO.out hf).1; have := HL.out; simp; omega
          have hx2 : ((PC : Int) != C + 1) = false := by have := (HSO.out hf).2; have := HC.out; simp; omega
          clear hf
          go_wp2_with fail
          go_meet
          exact ⟨⟨_, rfl⟩, rfl, rfl⟩
      case rest =>
        obtain ⟨⟨fb, rfl⟩, rfl, rfl⟩ := hcut
        go_wp2_with fail
        refine (HLI1.out _).mono ?_
        rintro e w5 ⟨rfl, hb5⟩
        have r5 := HR4.out.below hb5
        clear hb5 HR4
        clear c40 c41 c42 c70 c71 c72 k1 k0
        have c40 := r5.q4.cell0
        have c41 := r5.q4.cell1
        have c42 := r5.q4.cell2
        have c70 := r5.q7.cell0
        have c71 := r5.q7.cell1
        have c72 := r5.q7.cell2
        have k1 := r5.row.at (j + 1) hlt
        rw [hcell1, Nat.zero_add] at k1
        have k0 := r5.row.at j (by omega)
        rw [hcell0, Nat.zero_add] at k0
        have HR5 : Hid _ := r5
        clear r5
        go_wp2_with fail
        refine (HNX1.out _).mono ?_
        rintro e w6 ⟨rfl, hb6⟩
        have r6 := HR5.out.below hb6
        clear hb6 HR5
        clear c40 c41 c42 c70 c71 c72 k1 k0
        have c40 := r6.q4.cell0
        have c41 := r6.q4.cell1
        have c42 := r6.q4.cell2
        have c70 := r6.q7.cell0
        have c71 := r6.q7.cell1
        have c72 := r6.q7.cell2
        have k1 := r6.row.at (j + 1) hlt
        rw [hcell1, Nat.zero_add] at k1
        have k0 := r6.row.at j (by omega)
        rw [hcell0, Nat.zero_add] at k0
        have HR6 : Hid _ := r6
        clear r6
        go_wp2_with fail
        go_cut [15] from 38 to 155 (fun p wx => ∃ b15 : Nat, p = .pointer (some ⟨b15, 0, none⟩) ∧ Hid (R2 w wx b4 b7 g n A L C E1 PL PC zs) ∧ Hid (Box3 wx b15 E1 PL PC))
        case first =>
          have hg6 : g < w6.heap.size := World.block_lt_of_cell? w6 _ k1
          go_region_with (first
            | (go_at_call 16; refine (start_any _).mono ?_; rintro e w7 ⟨rfl, hb7⟩
               have k7 : w7.cell? ⟨g, j + 1, none⟩ = some (.int .i64 (E1 : Int)) := cell_up (by first | exact cell_dr k1 | exact cell_dr (cell_al _ k1)) hb7
               have hg7 : g < w7.heap.size := World.block_lt_of_cell? w7 _ k7
               have h7 : Below w6.heap.size w6 w7 := by first | exact bel_a hb7 | exact bel_b hb7
               try (have z7 := (Box3.drew (Box3.new w6 0 0 0)).below hb7))
            | (go_at_call 11; refine (HAD1.out _).mono ?_; rintro e w8 ⟨rfl, hb8⟩
               have h8 : Below w6.heap.size w6 w8 := by first | exact bel_c h7 hb8 | exact bel_d h7 hb8
               try (have z8 := z7.below hb8; have zc0 := z8.cell0; have zc1 := z8.cell1; have zc2 := z8.cell2; have zf0 := z8.frozen 0; have zf1 := z8.frozen 1; have zf2 := z8.frozen 2)
               try (have z8 := (Box3.new w7 0 0 0).below hb8; have zc0 := z8.cell0; have zc1 := z8.cell1; have zc2 := z8.cell2; have zf0 := z8.frozen 0; have zf1 := z8.frozen 1; have zf2 := z8.frozen 2)))
          all_goals go_wp2_with fail
          all_goals go_meet
          all_goals first
            | exact ⟨_, rfl, HR6.out.below (fin_set h8 h7.size _ _ _), ((z8.set0 _).set1 _).set2 _⟩
            | exact ⟨_, rfl, HR6.out.below (fin_set h8 (Nat.le_refl _) _ _ _), ((z8.set0 _).set1 _).set2 _⟩
            | exact ⟨_, rfl, HR6.out.below (h8.alloc h8.size _), Box3.new _ _ _ _⟩
        case rest =>
          obtain ⟨b15, rfl, HR9, HB9⟩ := hcut
          clear c40 c41 c42 c70 c71 c72 k1 k0 HR6
          have k1 := HR9.out.row.at (j + 1) hlt
          rw [hcell1, Nat.zero_add] at k1
          have HS9 : Hid (wc.cell? ⟨b15, 0, none⟩ = some (.int .i64 (E1 : Int)) ∧ wc.cell? ⟨b15, 1, none⟩ = some (.int .i64 (PL : Int)) ∧ wc.cell? ⟨b15, 2, none⟩ = some (.int .i64 (PC : Int)) ∧ wc.cell? ⟨b7, 0, none⟩ = some (.int .i64 (E1 : Int)) ∧ wc.cell? ⟨b7, 1, none⟩ = some (.int .i64 (PL : Int)) ∧ wc.cell? ⟨b7, 2, none⟩ = some (.int .i64 (PC : Int)) ∧ wc.cell? ⟨g, j + 1, none⟩ = some (.int .i64 (E1 : Int)) ∧ Below wc.heap.size wc wc.drew) :=
            ⟨HB9.out.cell0, HB9.out.cell1, HB9.out.cell2, HR9.out.q7.cell0, HR9.out.q7.cell1, HR9.out.q7.cell2, k1, bel_drew _⟩
          clear k1
          have hd1 : ¬ ((DW : Int) < 1) := by omega
          go_upto_region 21 with fail
          go_cut [154] from 38 to 155 (fun p wx => p = .bool false ∧ Hid (R2 w wx b4 b7 g n A L C E1 PL PC zs))
          case first =>
            by_cases hf : by8 s E1 = 10
            · have hfb : (((s[E1]'hst1').toNat : Int) != 10) = false := by rw [by8_get s E1 hst1', hf]; rfl
              obtain ⟨d0, d1, d2, d3, d4, d5, d6, _⟩ := HS9.out
              clear hf
              go_quiet (fail)
              go_wp2_with fail
              go_meet
              exact ⟨rfl, HR9.out.below (bel_drewN _ _)⟩
            · have hfb : (((s[E1]'hst1').toNat : Int) != 10) = true := by rw [by8_get s E1 hst1']; simp; omega
              have hct : ¬ (CT < PC) := by have := HL2.out hf; omega
              have hct2 : decide (CT < PC) = false := decide_eq_false hct
              have hct3 : ¬ ((CT : Int) < (PC : Int)) := by omega
              clear hf
              go_region_held3 (fun w' => w'.cell? ⟨b15, 0, none⟩ = some (.int .i64 (E1 : Int)) ∧ w'.cell? ⟨b15, 1, none⟩ = some (.int .i64 (PL : Int)) ∧ w'.cell? ⟨b15, 2, none⟩ = some (.int .i64 (PC : Int)) ∧ w'.cell? ⟨b7, 0, none⟩ = some (.int .i64 (E1 : Int)) ∧ w'.cell? ⟨b7, 1, none⟩ = some (.int .i64 (PL : Int)) ∧ w'.cell? ⟨b7, 2, none⟩ = some (.int .i64 (PC : Int)) ∧ w'.cell? ⟨g, j + 1, none⟩ = some (.int .i64 (E1 : Int)) ∧ Below wc.heap.size wc w')
                (first | (exact keep7 (by assumption) (by assumption)) | (exact HS9.out) | go_keep)
                (first | (go_at_call 18; refine (HCN1.out _).mono ?_; rintro e w9 ⟨rfl, hb9⟩))
              all_goals
                rename_i hheld
                have hfin := hheld.2.2.2.2.2.2.2
                go_wp2_with fail
                go_meet
                exact ⟨rfl, HR9.out.below hfin⟩
          case rest =>
            obtain ⟨rfl, HR10⟩ := hcut
            have c70 := HR10.out.q7.cell0
            have c71 := HR10.out.q7.cell1
            have c72 := HR10.out.q7.cell2
            have c40 := HR10.out.q4.cell0
            have c41 := HR10.out.q4.cell1
            have c42 := HR10.out.q4.cell2
            have f40 := HR10.out.q4.frozen 0
            have f41 := HR10.out.q4.frozen 1
            have f42 := HR10.out.q4.frozen 2
            go_wp2_with fail
            refine ⟨⟨j + 1, E1, PL, PC, by go_num, by show _ ≤ _; omega, by show _ = _; rw [HPLC.out.1], by show _ = _; rw [HPLC.out.2], ?_⟩, by simp [RowKit.intOf]; omega⟩
            exact ⟨((HR10.out.q4.set0 _).set1 _).set2 _, row_other (row_other (row_other HR10.out.row hgb4) hgb4) hgb4, (((HR10.out.bel.setCell (p := ⟨b4, 0, none⟩) hb4w _).setCell (p := ⟨b4, 1, none⟩) hb4w _).setCell (p := ⟨b4, 2, none⟩) hb4w _)⟩
    · have hge : ¬ ((j : Int) + 1 < (n : Int)) := by omega
      have hbelE := HR.out.bel
      go_wp2_with fail
      refine (awake_any _).mono ?_
      rintro e w6 ⟨rfl, hb6⟩
      have hbel6 := hbelE.trans (hb6.mono hbelE.size)
      go_wp2_with fail
      go_ret
      exact ⟨rfl, hbel6⟩

set_option maxRecDepth 100000 in
set_option maxHeartbeats 1000000 in
theorem rises_big (s : ByteArray) (w : World) (hm : s.size ≤ maxLen) (hs : 4000 < s.size) :
    Calls Try.prog 5 #[.string s] w fun x w' => x = .returned (.bool true) ∧ Below w.heap.size w w' := by
  unfold maxLen at hm
  by_cases h : 268435455 < s.size
  · have h1 : ((268435455 : Int) < (s.size : Int)) := by omega
    go_enter Try.func5, Try.ntmps5
    go_wp2_with fail
    go_ret
    exact ⟨rfl, Below.refl _ _⟩
  · have h1 : ¬ ((268435455 : Int) < (s.size : Int)) := by omega
    have h2 : ((4000 : Int) < (s.size : Int)) := by omega
    go_enter Try.func5, Try.ntmps5
    go_wp2_with fail
    go_ret
    exact ⟨rfl, Below.refl _ _⟩

theorem rises_any (s : ByteArray) (w : World) (hm : s.size ≤ maxLen) :
    Calls Try.prog 5 #[.string s] w fun x w' => x = .returned (.bool true) ∧ Below w.heap.size w w' := by
  by_cases h : 4000 < s.size
  · exact rises_big s w hm h
  · exact rises_small s w (by omega)

end Go.Proofs.Ytpobcbailpjaeaa
