import Derived.Lib.OthersKept
import Derived.Test.YtojjfbnpjhjidaaGreatDoorM18
set_option linter.unusedVariables false
set_option linter.unusedSimpArgs false
namespace Go.Proofs.YtojjfbnpjhjidaaGreatDoor.Lx
open Go.RowKit
theorem look_kp {w0 W : World} {g : Nat} {s : ByteArray} {a : Nat} {p n : Int} {b f : Nat} {l : List Tv} (h : Rq w0 W g s a p n b f l) (hs : s.size ≤ 2147483647) (ha : a ≤ s.size) :
    Calls Tryz.prog 40 #[.pointer (some ⟨g, 0, none⟩)] W fun e w' => e = .returned (.tuple #[]) ∧ Rs w0 w' g s a b f l ∧ Kp (fun k => k = g) W w' := by
  obtain ⟨h1, h2, v, h3, h4⟩ := h
  obtain ⟨c0, c1, c2, c3, c4, c5, c6, c7, c8⟩ := Rq.cells h3
  by_cases hlt : a < s.size
  · have hd := dp_le s a
    obtain ⟨hw1, hw2, hw3⟩ := dw_facts s a hlt
    have HN : Hid (∀ w, Calls Tryz.prog 55 #[.string s, .int .i64 a] w fun e w' => e = .returned (.tuple #[.int .i64 (dp s a), .int .i64 (dw s a), .bool (gd s a)]) ∧ Below w.heap.size w w') := fun w => by
      have := next_in s a w (by unfold maxLen; omega) (by omega) (by omega)
      rw [Int.toNat_natCast] at this
      exact this
    have HR : Hid (∀ w', Below W.heap.size W w' → Below w0.heap.size w0 w' ∧ RB w' g s a p n b f v ∧ Rt w0.heap.size w' v l) := fun w' hb => ⟨h1.trans (hb.mono h1.size), blk_below h3 hb, h4.below hb⟩
    have HK : Hid (∀ V, Below W.heap.size W V → V.cell? ⟨g, 0, none⟩ = some (.string s) ∧ V.cell? ⟨g, 1, none⟩ = some (.int .i64 a) ∧ Below W.heap.size W V) := fun V hV => ⟨blk_cell (blk_below h3 hV) rfl, blk_cell (blk_below h3 hV) rfl, hV⟩
    have e1 := rpt_in hlt
    have e2 := rsz_in hlt
    have HE : Hid (rpt s a = dp s a ∧ rsz s a = dw s a) := ⟨e1, e2⟩
    generalize dp s a = x at *
    generalize dw s a = y at *
    generalize gd s a = z at *
    clear e1 e2 h1 h3 h4 c0 c1 c2 c3 c4 c5 c6 c7 c8
    go_enter Tryz.func40, Tryz.ntmps40
    go_wp2_with fail
    go_region_held3 (fun w' => w'.cell? ⟨g, 0, none⟩ = some (.string s) ∧ w'.cell? ⟨g, 1, none⟩ = some (.int .i64 a) ∧ Below W.heap.size W w') (first | (exact HK.out _ (by assumption)) | (exact HK.out _ (Below.refl _ _).drew) | go_keep) (first | (go_at_call 55; refine (HN.out _).mono ?_; rintro e w1 ⟨rfl, hb1⟩; have hbW := (by first | exact (Below.refl W.heap.size W).drew.trans (hb1.mono (Nat.le_refl _)) | exact (by assumption : Below W.heap.size W _).trans (hb1.mono (Below.size (by assumption))) : Below W.heap.size W w1)))
    all_goals (
      obtain ⟨k1, k3, k4⟩ := HR.out _ hbW
      have z2 := k3.frozen 2
      have z3 := k3.frozen 3
      obtain ⟨_, _, c2, c3, _⟩ := Rq.cells k3
      obtain ⟨m1, m3, m4⟩ := Rq.set k1 h2 k3 k4 2 (.int .i32 x) (p' := x) rfl rfl
      obtain ⟨n1, n3, n4⟩ := Rq.set m1 h2 m3 m4 3 (.int .i64 y) (n' := y) rfl rfl
      have HF : Hid (Rs w0 ((w1.setCell ⟨g, 2, none⟩ (.int .i32 x)).setCell ⟨g, 3, none⟩ (.int .i64 y)) g s a b f l ∧ Kp (fun k => k = g) W ((w1.setCell ⟨g, 2, none⟩ (.int .i32 x)).setCell ⟨g, 3, none⟩ (.int .i64 y))) := ⟨⟨n1, h2, v, by rw [HE.out.1, HE.out.2]; exact n3, n4⟩, ((Kp.of_below hbW).step (Kp.set _ g 2 _) (fun _ _ h => h)).step (Kp.set _ g 3 _) (fun _ _ h => h)⟩
      clear k1 k3 k4 m1 m3 m4 n1 n3 n4
      go_wp2_with fail
      go_end0
      exact ⟨rfl, HF.out⟩)
  · have HN : Hid (∀ w, Calls Tryz.prog 55 #[.string s, .int .i64 a] w fun e w' => e = .returned (.tuple #[.int .i64 0, .int .i64 0, .bool false]) ∧ Below w.heap.size w w') := fun w => next_out s a w (by unfold maxLen; omega) (.inr (by omega))
    have HR : Hid (∀ w', Below W.heap.size W w' → Below w0.heap.size w0 w' ∧ RB w' g s a p n b f v ∧ Rt w0.heap.size w' v l) := fun w' hb => ⟨h1.trans (hb.mono h1.size), blk_below h3 hb, h4.below hb⟩
    have HK : Hid (∀ V, Below W.heap.size W V → V.cell? ⟨g, 0, none⟩ = some (.string s) ∧ V.cell? ⟨g, 1, none⟩ = some (.int .i64 a) ∧ Below W.heap.size W V) := fun V hV => ⟨blk_cell (blk_below h3 hV) rfl, blk_cell (blk_below h3 hV) rfl, hV⟩
    have HE : Hid (rpt s a = -1 ∧ rsz s a = 0) := ⟨rpt_out (by omega), rsz_out (by omega)⟩
    clear h1 h3 h4 c0 c1 c2 c3 c4 c5 c6 c7 c8
    go_enter Tryz.func40, Tryz.ntmps40
    go_wp2_with fail
    go_region_held3 (fun w' => w'.cell? ⟨g, 0, none⟩ = some (.string s) ∧ w'.cell? ⟨g, 1, none⟩ = some (.int .i64 a) ∧ Below W.heap.size W w') (first | (exact HK.out _ (by assumption)) | (exact HK.out _ (Below.refl _ _).drew) | go_keep) (first | (go_at_call 55; refine (HN.out _).mono ?_; rintro e w1 ⟨rfl, hb1⟩; have hbW := (by first | exact (Below.refl W.heap.size W).drew.trans (hb1.mono (Nat.le_refl _)) | exact (by assumption : Below W.heap.size W _).trans (hb1.mono (Below.size (by assumption))) : Below W.heap.size W w1)))
    all_goals (
      obtain ⟨k1, k3, k4⟩ := HR.out _ hbW
      have z2 := k3.frozen 2
      have z3 := k3.frozen 3
      obtain ⟨_, _, c2, c3, _⟩ := Rq.cells k3
      obtain ⟨m1, m3, m4⟩ := Rq.set k1 h2 k3 k4 2 (.int .i32 0) (p' := 0) rfl rfl
      obtain ⟨n1, n3, n4⟩ := Rq.set m1 h2 m3 m4 3 (.int .i64 0) (n' := 0) rfl rfl
      obtain ⟨o1, o3, o4⟩ := Rq.set n1 h2 n3 n4 2 (.int .i32 (-1)) (p' := -1) rfl rfl
      have HF : Hid (Rs w0 (((w1.setCell ⟨g, 2, none⟩ (.int .i32 0)).setCell ⟨g, 3, none⟩ (.int .i64 0)).setCell ⟨g, 2, none⟩ (.int .i32 (-1))) g s a b f l ∧ Kp (fun k => k = g) W (((w1.setCell ⟨g, 2, none⟩ (.int .i32 0)).setCell ⟨g, 3, none⟩ (.int .i64 0)).setCell ⟨g, 2, none⟩ (.int .i32 (-1)))) := ⟨⟨o1, h2, v, by rw [HE.out.1, HE.out.2]; exact o3, o4⟩, (((Kp.of_below hbW).step (Kp.set _ g 2 _) (fun _ _ h => h)).step (Kp.set _ g 3 _) (fun _ _ h => h)).step (Kp.set _ g 2 _) (fun _ _ h => h)⟩
      clear k1 k3 k4 m1 m3 m4 n1 n3 n4 o1 o3 o4
      go_wp2_with fail
      go_end0
      exact ⟨rfl, HF.out⟩)
theorem take_kp {w0 W : World} {g : Nat} {s : ByteArray} {a b f : Nat} {l : List Tv} (h : Rs w0 W g s a b f l) (hs : s.size ≤ 2147483647) (ha : a ≤ s.size) :
    Calls Tryz.prog 76 #[.pointer (some ⟨g, 0, none⟩)] W fun e w' => e = .returned (.tuple #[]) ∧ Rs w0 w' g s (a + rsz s a) b f l ∧ Kp (fun k => k = g) W w' := by
  have hle := rsz_le s a ha
  obtain ⟨h1, h2, v, h3, h4⟩ := h
  obtain ⟨c0, c1, c2, c3, c4, c5, c6, c7, c8⟩ := Rq.cells h3
  have z1 := h3.frozen 1
  obtain ⟨m1, m3, m4⟩ := Rq.set h1 h2 h3 h4 1 (.int .i64 ((a + rsz s a : Nat) : Int)) (a' := a + rsz s a) rfl rfl
  have hwr : IntKind.i64.wrap ((a : Int) + (rsz s a : Int)) = (a : Int) + (rsz s a : Int) := by rw [IntKind.wrap_i64]; omega
  have HL : Hid (∀ V, Below (W.setCell ⟨g, 1, none⟩ (.int .i64 ((a : Int) + (rsz s a : Int)))).heap.size (W.setCell ⟨g, 1, none⟩ (.int .i64 ((a : Int) + (rsz s a : Int)))) V → Calls Tryz.prog 40 #[.pointer (some ⟨g, 0, none⟩)] V fun e w' => e = .returned (.tuple #[]) ∧ Rs w0 w' g s (a + rsz s a) b f l ∧ Kp (fun k => k = g) W w') := by
    intro V hV
    rw [Int.natCast_add] at m1 m3 m4
    refine (look_kp (Rq.below ⟨m1, h2, v, m3, m4⟩ hV) hs hle).mono ?_
    rintro e w' ⟨rfl, r1, r2⟩
    exact ⟨rfl, r1, ((Kp.set W g 1 _).step (Kp.of_below (S := fun k => k = g) hV) (fun _ _ h => h)).step r2 (fun _ _ h => h)⟩
  generalize rsz s a = y at *
  clear h1 h3 h4 m1 m3 m4
  go_enter Tryz.func76, Tryz.ntmps76
  go_wp2_with fail
  go_region_law (fail)
  all_goals (
    go_wp2_with (go_at_call 40; refine (HL.out _ (Below.refl _ _).drew).mono ?_; rintro e w1 ⟨rfl, h5⟩)
    go_end0
    exact ⟨rfl, h5⟩)
theorem Rs.kp {w0 W W' : World} {g : Nat} {s : ByteArray} {a b f : Nat} {l : List Tv} {S : Nat → Prop} (h : Rs w0 W g s a b f l) (hb : Below w0.heap.size W W') (hk : Kp S W W') (hg : ¬ S g) (hv : ∀ k cs T z, W.heap[k]? = some (.cells cs T z) → ¬ S k) : Rs w0 W' g s a b f l := by
  obtain ⟨h1, h2, v, h3, h4⟩ := h
  refine ⟨h1.trans hb, h2, v, hk.blk h3 hg, ?_⟩
  refine h4.kp hk (fun k e => ?_)
  rcases h4.2 with ⟨rfl, _⟩ | ⟨q, cap, cur, rfl, _, x3, _⟩
  · cases e
  · simp only [Value.ownBlock, Option.some.injEq] at e
    subst e
    exact hv _ _ _ _ x3
theorem bgn6 {s : ByteArray} {a : Nat} (h : tkBgn s a = 6) : (sg s a).size ≠ 0 := by
  unfold tkBgn at h
  repeat' split at h
  all_goals first | assumption | (cases h; done)
theorem sign0 : ∀ x ∈ signL, by8 x 0 < 128 ∧ (x.size = 2 → by8 x 1 < 128) := by decide
set_option maxHeartbeats 2000000 in
theorem sign_tok {w0 W : World} {g : Nat} {s : ByteArray} {a f : Nat} {l : List Tv} (hK : Kab w0) (h : Rs w0 W g s a a f l) (hs : s.size ≤ 2147483647) (ha : a < s.size) (hb : bd s a) (hk : tkBgn s a = 6) (hl : l.length ≤ 2147483647) :
    Calls Tryz.prog 65 #[.pointer (some ⟨g, 0, none⟩)] W fun e w' => e = .returned (.int .i64 ((tkEnd s a 6).2 : Nat)) ∧ TP w0 w' g s 6 a f l := by
  have hE : tkEnd s a 6 = (a + (sg s a).size, 0) := by unfold tkEnd; simp
  have hz := bgn6 hk
  obtain ⟨g1, g2, g3⟩ := sg_in s a hz
  have g4 := (sign_asc _ g3).1
  have g5 := sign0 _ g3
  have hby : ∀ j, j < (sg s a).size → by8 s (a + j) = by8 (sg s a) j ∧ by8 (sg s a) j < 128 := fun j hj => by
    have e := by8_ext' s a (a + (sg s a).size) j (by omega)
    rw [g2] at e
    refine ⟨e.symm, ?_⟩
    rcases (show j = 0 ∨ (j = 1 ∧ (sg s a).size = 2) by omega) with rfl | ⟨rfl, h2⟩
    · exact g5.1
    · exact g5.2 h2
  have HTk : Hid (∀ V j, j < (sg s a).size → Rs w0 V g s (a + j) a f l → Calls Tryz.prog 76 #[.pointer (some ⟨g, 0, none⟩)] V fun e w' => e = .returned (.tuple #[]) ∧ Rs w0 w' g s (a + (j + 1)) a f l ∧ Kp (fun k => k = g) V w') := fun V j hj hV => by
    have := take_kp hV hs (by omega)
    rw [rsz_in (by omega), (chr_asc s (a + j) (by rw [(hby j hj).1]; exact (hby j hj).2)).1] at this
    exact this
  have HDc : Hid (∀ j, j < (sg s a).size → (Utf8.decode (sg s a) j).2 = 1 ∧ (Utf8.decode (sg s a) j).1 < 128) := fun j hj => by
    obtain ⟨e1, e2, _⟩ := chr_asc (sg s a) j (hby j hj).2
    unfold dw at e1
    unfold dp at e2
    exact ⟨e1, by rw [e2]; exact (hby j hj).2⟩
  obtain ⟨x, hx⟩ : ∃ x, sg s a = x := ⟨_, rfl⟩
  have HTl : Hid (∀ V, Rs w0 V g s (a + x.size) a f l → Calls Tryz.prog 79 #[.pointer (some ⟨g, 0, none⟩), .int .u8 6] V fun e w' => e = .returned (.int .i64 0) ∧ Rs w0 w' g s (a + x.size) a 0 (l ++ [tv s (tkTok s 6 a (a + x.size) f)])) := fun V hV => tell_any hV 6 hs (by omega) (by rw [← hx]; exact g1) hl (by intro h; cases h)
  have HS : Hid (∀ V, Below W.heap.size W V → Calls Tryz.prog 85 #[.string s, .int .i64 a] V fun e w' => e = .returned (.string x) ∧ Below V.heap.size V w') := fun V hV => by
    rw [← hx]
    exact sign_in s a V (hK.below (h.bel.trans (hV.mono h.bel.size))).2.2 ha
  have HE : Hid (tkEnd s a 6 = (a + x.size, 0)) := by rw [← hx]; exact hE
  rw [hx] at HTk HDc hz g4
  have HR : Hid (∀ V, Below W.heap.size W V → Rs w0 V g s a a f l) := fun V hV => h.below hV
  have HK : Hid (∀ V, Below W.heap.size W V → V.cell? ⟨g, 0, none⟩ = some (.string s) ∧ V.cell? ⟨g, 1, none⟩ = some (.int .i64 a) ∧ Below W.heap.size W V) := fun V hV => by
    obtain ⟨h1, h2, v, h3, h4⟩ := Rq.below h hV
    exact ⟨(Rq.cells h3).1, (Rq.cells h3).2.1, hV⟩
  have hxe : x.toList.isEmpty = false := by
    cases e : x.toList with
    | cons _ _ => rfl
    | nil =>
      rw [tl_data] at e
      have : x.data.toList.length = 0 := by rw [e]; rfl
      rw [Array.length_toList] at this
      exact absurd this hz
  clear hE g1 g2 g3 g5 hby hx h hk
  go_enter Tryz.func65, Tryz.ntmps65
  go_wp2_with fail
  go_region_held3 (fun w' => w'.cell? ⟨g, 0, none⟩ = some (.string s) ∧ w'.cell? ⟨g, 1, none⟩ = some (.int .i64 a) ∧ Below W.heap.size W w') (first | (exact HK.out _ (by assumption)) | (exact HK.out _ (Below.refl _ _).drew) | go_keep) (first | (go_at_call 85; refine (HS.out _ (by first | assumption | exact (Below.refl _ _).drew)).mono ?_; rintro e w1 ⟨rfl, hb1⟩; have hbW := (by first | exact (Below.refl W.heap.size W).drew.trans (hb1.mono (Nat.le_refl _)) | exact (by assumption : Below W.heap.size W _).trans (hb1.mono (Below.size (by assumption))) : Below W.heap.size W w1)))
  all_goals (
    have HR1 : Hid (Rs w0 (w1.iter x 0) g s (a + 0) a f l ∧ (w1.iter x 0).heap[w1.heap.size]? = some (.stringIter x 0)) := ⟨(HR.out _ hbW).below (below_iter w1 x 0), World.iter_heap w1 x 0⟩
    have HG : Hid (g ≠ w1.heap.size) := by
      obtain ⟨_, _, v, h3, _⟩ := HR.out _ hbW
      have := blk_lt h3
      show g ≠ _
      omega
    have HW0 : Hid (w0.heap.size ≤ w1.heap.size) := (HR.out _ hbW).bel.size
    clear HR HK HS
    go_wp2_with fail
    go_loopw [] (fun wr => ∃ pos : Nat, pos ≤ x.size ∧ Hid (Rs w0 wr g s (a + pos) a f l ∧ wr.heap[w1.heap.size]? = some (.stringIter x pos))) (fun wr => x.size - wr.iterPos w1.heap.size)
    case atStart => exact ⟨0, Nat.zero_le _, HR1⟩
    case round =>
      obtain ⟨pos, hp3, HI⟩ := hrel
      by_cases hp : pos < x.size
      · have hnx : ∀ ty, (Instr.next (.pointer (some ⟨w1.heap.size, 0, none⟩)) true ty).run Tryz.prog wr = _ := fun ty => Lib.run_next_any_at wr w1.heap.size x pos ty HI.out.2 hp
        obtain ⟨d1, d2⟩ := HDc.out pos hp
        have HI2 : Hid (Rs w0 (wr.iterAt w1.heap.size x (pos + 1)) g s (a + pos) a f l ∧ (wr.iterAt w1.heap.size x (pos + 1)).heap[w1.heap.size]? = some (.stringIter x (pos + 1))) := by
          refine ⟨Rs.kp (S := fun k => k = w1.heap.size) HI.out.1 (Lib.below_iterAt (Below.refl _ _) HW0.out x _) ⟨rfl, rfl, rfl, by rw [Lib.iterAt_size]; exact Nat.le_refl _, fun k _ hk => Lib.iterAt_other _ _ _ _ _ hk⟩ HG.out (fun k cs T z hk e => ?_), Lib.iterAt_heap _ _ _ _ _ HI.out.2⟩
          rw [e, HI.out.2] at hk
          cases hk
        have HM : Hid (wr.iterPos w1.heap.size = pos) := by
          show _ = _
          unfold World.iterPos
          rw [HI.out.2]
        rw [d1] at hnx
        clear HI
        go_wp2_with (first | (go_at_call 76; refine (HTk.out _ pos hp HI2.out.1).mono ?_; rintro e w3 ⟨rfl, hr3, hk3⟩))
        refine ⟨⟨pos + 1, hp, hr3, hk3.blk HI2.out.2 (fun e => HG.out e.symm)⟩, ?_⟩
        rw [HM.out]
        have e : w3.iterPos w1.heap.size = pos + 1 := by unfold World.iterPos; rw [hk3.blk HI2.out.2 (fun e => HG.out e.symm)]
        rw [e]
        omega
      · have hnx : ∀ ty, (Instr.next (.pointer (some ⟨w1.heap.size, 0, none⟩)) true ty).run Tryz.prog wr = _ := fun ty => Lib.run_next_end_at wr w1.heap.size x pos ty HI.out.2 hp
        have HI2 : Hid (Rs w0 wr g s (a + x.size) a f l) := by
          have := HI.out.1
          rw [show pos = x.size by omega] at this
          exact this
        clear HI
        go_wp2_with (first | (go_at_call 79; refine (HTl.out _ HI2.out).mono ?_; rintro e w3 ⟨rfl, hr3⟩))
        go_ret
        rw [HE.out]
        exact ⟨rfl, TP.ok HE.out hr3⟩)
theorem sign_none {w0 W : World} {g : Nat} {s : ByteArray} {a f : Nat} {l : List Tv} (hK : Kab w0) (h : Rs w0 W g s a a f l) (hs : s.size ≤ 2147483647) (ha : a < s.size) (hz : (sg s a).size = 0) :
    Calls Tryz.prog 65 #[.pointer (some ⟨g, 0, none⟩)] W fun e w' => e = .returned (.int .i64 100) ∧ Rs w0 w' g s a a f l := by
  have hx : sg s a = ⟨#[]⟩ := by8_ext _ _ (by rw [hz]; rfl) (fun j hj => by omega)
  have HS : Hid (∀ V, Below W.heap.size W V → Calls Tryz.prog 85 #[.string s, .int .i64 a] V fun e w' => e = .returned (.string ⟨#[]⟩) ∧ Below V.heap.size V w') := fun V hV => by
    rw [← hx]
    exact sign_in s a V (hK.below (h.bel.trans (hV.mono h.bel.size))).2.2 ha
  have HR : Hid (∀ V, Below W.heap.size W V → Rs w0 V g s a a f l) := fun V hV => h.below hV
  have HK : Hid (∀ V, Below W.heap.size W V → V.cell? ⟨g, 0, none⟩ = some (.string s) ∧ V.cell? ⟨g, 1, none⟩ = some (.int .i64 a) ∧ Below W.heap.size W V) := fun V hV => by
    obtain ⟨h1, h2, v, h3, h4⟩ := Rq.below h hV
    exact ⟨(Rq.cells h3).1, (Rq.cells h3).2.1, hV⟩
  clear hx h hz
  go_enter Tryz.func65, Tryz.ntmps65
  go_wp2_with fail
  go_region_held3 (fun w' => w'.cell? ⟨g, 0, none⟩ = some (.string s) ∧ w'.cell? ⟨g, 1, none⟩ = some (.int .i64 a) ∧ Below W.heap.size W w') (first | (exact HK.out _ (by assumption)) | (exact HK.out _ (Below.refl _ _).drew) | go_keep) (first | (go_at_call 85; refine (HS.out _ (by first | assumption | exact (Below.refl _ _).drew)).mono ?_; rintro e w1 ⟨rfl, hb1⟩; have hbW := (by first | exact (Below.refl W.heap.size W).drew.trans (hb1.mono (Nat.le_refl _)) | exact (by assumption : Below W.heap.size W _).trans (hb1.mono (Below.size (by assumption))) : Below W.heap.size W w1)))
  all_goals (
    go_wp2_with fail
    go_ret
    exact ⟨rfl, HR.out _ hbW⟩)
end Go.Proofs.YtojjfbnpjhjidaaGreatDoor.Lx
