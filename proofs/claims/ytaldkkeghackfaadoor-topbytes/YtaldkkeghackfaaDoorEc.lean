import Derived.Test.YtaldkkeghackfaaDoorEd
import Derived.Test.YtaldkkeghackfaaDoorCg
set_option linter.unusedVariables false
set_option linter.unusedSimpArgs false
namespace Go.Proofs.YtaldkkeghackfaaDoor
open Go.RowKit

theorem CS.name {s : ByteArray} {k u h z : Nat} (c : CS s k u h z) (hk : k < (toks s).length) : ∃ (kk ta te tf : Nat), (toks s)[k]? = some ⟨kk, s.extract ta te, ta, pL s ta, pC s ta, tf⟩ ∧ gap s u ta tf ∧ ta < te ∧ te ≤ s.size ∧ (kk = 1 → nm (s.extract ta te) = true) ∧ (kk = 2 → ky (s.extract ta te) = true) ∧ CS s (k + 1) te ta z := by
  unfold toks at hk ⊢
  rw [List.length_map] at hk
  obtain ⟨t, t1, t2, t3, t4, t5, t6, t7⟩ := c.next hk
  have hn := scn_names s t (List.mem_of_getElem? t1)
  exact ⟨t.k, t.a, t.e, t.f, by rw [List.getElem?_map, t1]; rfl, t2, t3, t4, hn.1, hn.2, t7⟩

set_option maxRecDepth 100000 in
set_option maxHeartbeats 2500000 in
theorem top_core (s : ByteArray) (w : World) (c last : Nat) (L : List Tv) (X Y Z : Int) (hs : s.size ≤ 1048576) (hL : L.length ≤ s.size) (hx : last ≤ s.size) (hP : Last c last s X Y Z) (CSp : Nat → Nat → Nat → Prop) (h0 : CSp 0 0 0)
    (hN : ∀ k u h, CSp k u h → k < L.length → ∃ (kk ta te tf : Nat), L[k]? = some ⟨kk, s.extract ta te, ta, pL s ta, pC s ta, tf⟩ ∧ gap s u ta tf ∧ ta < te ∧ te ≤ s.size ∧ (kk = 1 → nm (s.extract ta te) = true) ∧ (kk = 2 → ky (s.extract ta te) = true) ∧ CSp (k + 1) te ta)
    (hfin : ∀ u h, CSp L.length u h → u ≤ last ∧ (c = 0 → ∃ n, gap s u s.size n))
    (HA : Hid (Calls Tryd.prog 17 #[] w fun e w' => e = .returned (.bool true) ∧ Below w.heap.size w w'))
    (HNm : Hid (∀ W T, Below w.heap.size w W → T.size ≤ 2147483647 → Calls Tryd.prog 19 #[.string T] W fun e w' => e = .returned (.bool (nm T)) ∧ Below W.heap.size W w'))
    (HKy : Hid (∀ W T, Below w.heap.size w W → Calls Tryd.prog 20 #[.string T] W fun e w' => e = .returned (.bool (ky T)) ∧ Below W.heap.size W w'))
    (H1 : Hid (∀ W, Below w.heap.size w W → Calls Tryd.prog 9 #[.string s] W fun e w' => AL W s c (X, Y, Z) L e w')) :
    Calls Tryd.prog 7 #[.string s] w fun e w' => e = .returned (.bool true) ∧ Below w.heap.size w w' := by
  unfold AL at H1
  have q0 : ¬ (1048576 : Int) < s.size := by omega
  have HS2 : Hid (s.size ≤ 2147483647) := by show _ ≤ _; omega
  have HH : Hid (CSp 0 0 0 ∧ (∀ k u h, CSp k u h → k < L.length → ∃ (kk ta te tf : Nat), L[k]? = some ⟨kk, s.extract ta te, ta, pL s ta, pC s ta, tf⟩ ∧ gap s u ta tf ∧ ta < te ∧ te ≤ s.size ∧ (kk = 1 → nm (s.extract ta te) = true) ∧ (kk = 2 → ky (s.extract ta te) = true) ∧ CSp (k + 1) te ta) ∧ (∀ u h, CSp L.length u h → u ≤ last ∧ (c = 0 → ∃ n, gap s u s.size n))) := ⟨h0, hN, hfin⟩
  have HP : Hid (Last c last s X Y Z) := hP
  clear h0 hN hfin hP
  go_enter Tryd.func7, Tryd.ntmps7
  go_upto_if 28 with (first | (go_at_call 17; refine HA.out.mono ?_; rintro e w1 ⟨rfl, hb1⟩))
  go_cut [] from 25 (fun wx => wx = w1)
  case first =>
    go_wp2_with fail
    go_meet
    exact rfl
  case rest =>
  have hwc : w1 = wc := hcut.symm
  clear hcut
  subst hwc
  go_wp2_with (first | (go_at_call 9; refine (H1.out _ hb1).mono ?_; rintro e w2 ⟨⟨p2, c2, rfl, x2, y2, hL2, hp2⟩, hb2⟩; have hbX := hb1.trans (hb2.mono hb1.size)))
  have HC4 : Hid (CW w (w2.alloc (.cells #[.int .i64 X, .int .i64 Y, .int .i64 Z] 26)) p2 L w2.heap.size X Y Z) := ⟨hbX.alloc hbX.size _, hL2.below ((Below.refl _ _).alloc (Nat.le_refl _) _), Box3.new _ _ _ _⟩
  clear hL2 hb2 hbX hp2 hb1 H1 HA
  go_loopw [7, 8] (fun at' i wr => ∃ k u h : Nat, at' = .int .i64 u ∧ i = .int .i64 k ∧ k ≤ L.length ∧ u ≤ s.size ∧ Hid (CSp k u h ∧ CW w wr p2 L w2.heap.size X Y Z)) (fun _ i _ => L.length - (intOf i).toNat)
  case atStart => exact ⟨0, 0, 0, rfl, rfl, Nat.zero_le _, Nat.zero_le _, HH.out.1, HC4.out⟩
  case round =>
    obtain ⟨k, u, h, rfl, rfl, hk, hu, HR⟩ := hrel
    obtain ⟨w5, e5⟩ : ∃ w5, w5 = wr := ⟨wr, rfl⟩
    subst e5
    obtain ⟨hcs, cw⟩ := HR.out
    by_cases hlt : k < L.length
    · have q1 : (k : Int) < L.length := by omega
      have q2 : (0 : Int) ≤ k := by omega
      obtain ⟨kk, ta, te, tf, t1, t2, t3, t4, t5, t6, t7⟩ := HH.out.2.1 k u h hcs hlt
      obtain ⟨b, off, hp, c0, c1, c2', c3, c4, c5⟩ := cw.row k _ t1
      subst hp
      simp only at c0 c1 c2' c3 c4 c5
      have hta : ta ≤ s.size := by omega
      have HBo : Hid (∀ V, Calls Tryd.prog 18 #[.string (s.extract u ta)] V fun e w' => e = .returned (.tuple #[.int .i64 tf, .bool true]) ∧ w' = V) := fun V => bonly_p s u ta tf V HS2.out t2
      have HOf : Hid (∀ V, Calls Tryd.prog 13 #[.string s, .int .i64 ta] V fun e w' => e = .returned (.tuple #[.agg #[.int .i64 ta, .int .i64 (pL s ta), .int .i64 (pC s ta)], .int .i64 0]) ∧ Below V.heap.size V w') := fun V => of_p s ta V HS2.out hta
      have hez : (s.extract ta te).size = te - ta := size_ext s ta te t4
      have hez2 : (s.extract ta te).size ≤ 2147483647 := by omega
      have wE : IntKind.i64.wrap ((ta : Int) + ((s.extract ta te).size : Int)) = (te : Int) := by rw [IntKind.wrap_i64, hez]; omega
      have HT7 : Hid (CSp (k + 1) te ta) := t7
      have HCW : Hid (CW w w5 (some ⟨b, off, none⟩) L w2.heap.size X Y Z) := cw
      have n1 : (s.extract ta te).toList.isEmpty = false := by rw [tl_data, List.isEmpty_eq_false_iff]; intro e; have := congrArg List.length e; rw [Array.length_toList] at this; have h9 : (s.extract ta te).size = 0 := this; omega
      have i0 : ¬ (ta : Int) < u := by have := t2.1; omega
      have i1 : (ta : Int) ≤ te := by omega
      have i2 : (te : Int) ≤ s.size := by omega
      have i3 : (0 : Int) ≤ ta := by omega
      have i4 : (0 : Int) ≤ u := by omega
      have i5 : (u : Int) ≤ ta := by have := t2.1; omega
      have i6 : (ta : Int) ≤ s.size := by omega
      have i7 : ¬ (s.size : Int) < te := by omega
      have HNk : Hid (kk = 1 → ∀ V, Below w.heap.size w V → Calls Tryd.prog 19 #[.string (s.extract ta te)] V fun e w' => e = .returned (.bool true) ∧ Below V.heap.size V w') := fun h1 V hV => by
        have := HNm.out V (s.extract ta te) hV hez2
        rw [t5 h1] at this
        exact this
      have HKk : Hid (kk = 2 → ∀ V, Below w.heap.size w V → Calls Tryd.prog 20 #[.string (s.extract ta te)] V fun e w' => e = .returned (.bool true) ∧ Below V.heap.size V w') := fun h1 V hV => by
        have := HKy.out V (s.extract ta te) hV
        rw [t6 h1] at this
        exact this
      clear t1 t2 t5 t6 t7 hcs cw HR hez hez2 hta
      generalize hE : s.extract ta te = E at *
      have HE : Hid (s.extract ta te = E) := hE
      obtain ⟨A1, hA1⟩ : ∃ A1, pL s ta = A1 := ⟨_, rfl⟩
      obtain ⟨A2, hA2⟩ : ∃ A2, pC s ta = A2 := ⟨_, rfl⟩
      rw [hA1] at c3 HOf
      rw [hA2] at c4 HOf
      clear hA1 hA2
      have tb5 : TB (w5.alloc (.cells #[.int .u8 kk, .string E, .int .i64 ta, .int .i64 A1, .int .i64 A2, .int .i64 tf] 37)) w5.heap.size ⟨kk, E, ta, A1, A2, tf⟩ := World.alloc_heap_new w5 _
      have cw5 := HCW.out.below ((Below.refl _ _).alloc (Nat.le_refl _) (.cells #[.int .u8 kk, .string E, .int .i64 ta, .int .i64 A1, .int .i64 A2, .int .i64 tf] 37))
      go_upto_region 10 with fail
      go_quiet (fail)
      have bq := bel_dn (w5.alloc (.cells #[.int .u8 kk, .string E, .int .i64 ta, .int .i64 A1, .int .i64 A2, .int .i64 tf] 37)) nq
      have tb7 : TB ((w5.alloc (.cells #[.int .u8 kk, .string E, .int .i64 ta, .int .i64 A1, .int .i64 A2, .int .i64 tf] 37)).drewN nq) w5.heap.size ⟨kk, E, ta, A1, A2, tf⟩ := blk_below tb5 bq
      have cw7 := cw5.below bq
      clear bq tb5 cw5
      generalize (w5.alloc (.cells #[.int .u8 kk, .string E, .int .i64 ta, .int .i64 A1, .int .i64 A2, .int .i64 tf] 37)).drewN nq = w7 at *
      obtain ⟨b0, b1, b2, b3, b4, b5, _, _, b8⟩ := tb7.cells
      go_upto_region 16 with (first | (go_at_call 18; refine (HBo.out _).mono ?_; rintro e w8 ⟨rfl, hw⟩; replace hw := hw.symm; subst hw) | (go_at_call 13; refine (HOf.out _).mono ?_; rintro e w9 ⟨rfl, hb9⟩; have cw9 := cw7.below hb9; have tb9 : TB w9 w5.heap.size ⟨kk, E, ta, A1, A2, tf⟩ := blk_below tb7 hb9; clear b0 b1 b2 b3 b4 b5 b8; obtain ⟨b0, b1, b2, b3, b4, b5, _, _, b8⟩ := tb9.cells))
      have hba : Below w9.heap.size w9 (w9.alloc (.cells #[.int .i64 ta, .int .i64 A1, .int .i64 A2] 26)) := (Below.refl _ _).alloc (Nat.le_refl _) _
      have cwA := cw9.below hba
      have tbA : TB (w9.alloc (.cells #[.int .i64 ta, .int .i64 A1, .int .i64 A2] 26)) w5.heap.size ⟨kk, E, ta, A1, A2, tf⟩ := blk_below tb9 hba
      go_cut [140] from 36 to 147 (fun cnd wx => cnd = .bool false ∧ Hid (CW w wx (some ⟨b, off, none⟩) L w2.heap.size X Y Z ∧ TB wx w5.heap.size ⟨kk, E, ta, A1, A2, tf⟩))
      case first =>
        clear hba
        by_cases k1 : kk = 1
        · have e1 : ((kk : Int) == 1) = true := by simp; omega
          have e2 : ((kk : Int) == 2) = false := by simp; omega
          have HC19 : Hid (∀ V, Below w.heap.size w V → Calls Tryd.prog 19 #[.string E] V fun e w' => e = .returned (.bool true) ∧ Below V.heap.size V w') := HNk.out k1
          clear k1
          go_wp2_with (first | (go_at_call 19; refine (HC19.out _ cwA.bel).mono ?_; rintro e w10 ⟨rfl, hb10⟩; have d0 : w10.cell? ⟨w5.heap.size, 0, none⟩ = some (.int .u8 kk) := blk_cell (blk_below tbA hb10) rfl))
          go_meet
          exact ⟨rfl, cwA.below hb10, blk_below tbA hb10⟩
        · by_cases k2 : kk = 2
          · have e1 : ((kk : Int) == 1) = false := by simp; omega
            have e2 : ((kk : Int) == 2) = true := by simp; omega
            have HC20 : Hid (∀ V, Below w.heap.size w V → Calls Tryd.prog 20 #[.string E] V fun e w' => e = .returned (.bool true) ∧ Below V.heap.size V w') := HKk.out k2
            clear k1 k2
            go_wp2_with (first | (go_at_call 20; refine (HC20.out _ cwA.bel).mono ?_; rintro e w10 ⟨rfl, hb10⟩))
            go_meet
            exact ⟨rfl, cwA.below hb10, blk_below tbA hb10⟩
          · have e1 : ((kk : Int) == 1) = false := by simp; omega
            have e2 : ((kk : Int) == 2) = false := by simp; omega
            clear k1 k2
            go_wp2_with fail
            go_meet
            exact ⟨rfl, cwA, tbA⟩
      case rest =>
        obtain ⟨rfl, HX⟩ := hcut
        obtain ⟨cwB, tbB⟩ := HX.out
        clear b0 b1 b2 b3 b4 b5 b8 tbA cwA hba tb9 cw9 tb7 cw7
        obtain ⟨b0, b1, b2, b3, b4, b5, _, _, b8⟩ := tbB.cells
        have HCB : Hid (CW w wc (some ⟨b, off, none⟩) L w2.heap.size X Y Z) := cwB
        clear cwB tbB HX
        go_wp2_with fail
        exact ⟨⟨k + 1, te, ta, by go_num, by go_num, hlt, t4, HT7.out, HCB.out⟩, by simp [intOf]; omega⟩
    · obtain rfl : k = L.length := by omega
      have q1 : ¬ (L.length : Int) < L.length := by omega
      obtain ⟨f1, f2⟩ := HH.out.2.2 u h hcs
      have HCW : Hid (CW w w5 p2 L w2.heap.size X Y Z) := cw
      have u0 : (0 : Int) ≤ u := by omega
      have u1 : (u : Int) ≤ s.size := by omega
      go_upto_if 149 with fail
      go_cut [] from 25 (fun wx => Hid (Below w.heap.size w wx))
      case first =>
        rcases HP.out with ⟨hc, hl⟩ | ⟨hc, hX, hY, hZ⟩
        · obtain ⟨n, hn⟩ := f2 hc
          have HBo : Hid (∀ V, Calls Tryd.prog 18 #[.string (s.extract u s.size)] V fun e w' => e = .returned (.tuple #[.int .i64 n, .bool true]) ∧ w' = V) := fun V => bonly_p s u s.size n V HS2.out hn
          have q5 : ((c : Int) == 0) = true := by rw [beq_iff_eq]; omega
          clear hn f1 f2 hc hl hcs cw HR
          go_wp2_with (first | (go_at_call 18; refine (HBo.out _).mono ?_; rintro e w8 ⟨rfl, hw⟩; replace hw := hw.symm; subst hw))
          go_meet
          exact HCW.out.bel
        · have q5 : ((c : Int) == 0) = false := by rw [beq_eq_false_iff_ne]; omega
          have HOf : Hid (∀ V, Calls Tryd.prog 13 #[.string s, .int .i64 last] V fun e w' => e = .returned (.tuple #[.agg #[.int .i64 X, .int .i64 Y, .int .i64 Z], .int .i64 0]) ∧ Below V.heap.size V w') := fun V => by
            rw [hX, hY, hZ]; exact of_p s _ V HS2.out hx
          rw [← hX] at HOf
          have j0 : ¬ X < (u : Int) := by rw [hX]; omega
          have g0 := HCW.out.box.cell0
          have g1 := HCW.out.box.cell1
          have g2 := HCW.out.box.cell2
          clear hX hY hZ f1 f2 hc hcs cw HR
          go_wp2_with (first | (go_at_call 13; refine (HOf.out _).mono ?_; rintro e w9 ⟨rfl, hb9⟩; have cw9 := HCW.out.below hb9; have m0 := cw9.box.cell0; have m1 := cw9.box.cell1; have m2 := cw9.box.cell2; have mlt := cw9.box.lt))
          go_meet
          exact cw9.bel.alloc cw9.bel.size _
      case rest =>
        have HBW : Hid (Below w.heap.size w wc) := hcut
        obtain ⟨N, F, G, D, B, n0, n1, n2, n3, n4, n5⟩ := chars_all s HS2.out
        have H3 : Hid (∀ k, k < N → F k < s.size ∧ 1 ≤ D k ∧ F (k + 1) = F k + D k ∧ F (k + 1) ≤ s.size ∧ ∀ V, Calls Tryd.prog 23 #[.string s, .int .i64 (F k : Nat)] V fun e w' => e = .returned (.tuple #[.int .i64 (G k : Nat), .int .i64 (D k : Nat), .bool (B k)]) ∧ Below V.heap.size V w') := n3
        have H4 : Hid (∀ V, Calls Tryd.prog 21 #[.string s] V fun e w' => ∃ b, e = .returned (.slice (some ⟨b, 0, none⟩) N N) ∧ Nr w' b N F ∧ Below V.heap.size V w') := n4
        have H5 : Hid (∀ V, Calls Tryd.prog 22 #[.string s] V fun e w' => ∃ b, e = .returned (.slice (some ⟨b, 0, none⟩) N N) ∧ Nr w' b N G ∧ Below V.heap.size V w') := n5
        have HF : Hid (F 0 = 0 ∧ F N = s.size) := ⟨n1, n2⟩
        clear n1 n2 n3 n4 n5 HH HCW HNm HKy HP HC4 hcut f1 f2 hcs cw HR u0 u1
        go_wp2_with (first | (go_at_call 21; refine (H4.out _).mono ?_; rintro e w10 ⟨bp, rfl, hr10, hb10⟩; have hbA := HBW.out.trans (hb10.mono HBW.out.size)) | (go_at_call 22; refine (H5.out _).mono ?_; rintro e w11 ⟨bq, rfl, hr11, hb11⟩; have hbB := hbA.trans (hb11.mono hbA.size); have hr12 := hr10.below hb11))
        have HI : Hid (Below w.heap.size w w11 ∧ Nr w11 bp N F ∧ Nr w11 bq N G) := ⟨hbB, hr12, hr11⟩
        clear hbA hb10 hb11 hbB hr10 hr11 hr12 HBW
        go_loopw [20, 21] (fun kv iv wr => ∃ k i : Nat, k ≤ N ∧ kv = .int .i64 k ∧ iv = .int .i64 i ∧ Hid (i = F k) ∧ Hid (Below w.heap.size w wr ∧ Nr wr bp N F ∧ Nr wr bq N G)) (fun kv _ _ => N - (intOf kv).toNat)
        case atStart => exact ⟨0, 0, Nat.zero_le _, rfl, rfl, HF.out.1.symm, HI⟩
        case round =>
          obtain ⟨k, i, hk, rfl, rfl, HFk, HI2⟩ := hrel
          obtain ⟨w12, e12⟩ : ∃ w12, w12 = wr := ⟨wr, rfl⟩
          subst e12
          by_cases hlt : k < N
          · obtain ⟨g1, g2, g3, g4, g5⟩ := H3.out k hlt
            obtain ⟨gk, hgk⟩ : ∃ x, G k = x := ⟨_, rfl⟩
            obtain ⟨dk, hdk⟩ : ∃ x, D k = x := ⟨_, rfl⟩
            obtain ⟨bk, hbk⟩ : ∃ x, B k = x := ⟨_, rfl⟩
            rw [← HFk.out] at g1 g3 g5
            rw [hgk, hdk, hbk] at g5
            rw [hdk] at g2 g3
            have HNx : Hid (∀ V, Calls Tryd.prog 23 #[.string s, .int .i64 i] V fun e w' => e = .returned (.tuple #[.int .i64 gk, .int .i64 dk, .bool bk]) ∧ Below V.heap.size V w') := g5
            have HF2 : Hid (i + dk = F (k + 1)) := g3.symm
            have HGk : Hid (G k = gk) := hgk
            rw [g3] at g4
            have r1 : (i : Int) < s.size := by omega
            have r2 : ¬ (N : Int) ≤ k := by omega
            have r3 : ¬ (dk : Int) < 1 := by omega
            have r4 : (0 : Int) ≤ k := by omega
            have r5 : (k : Int) < N := by omega
            have HI3 : Hid (∀ V, Below w12.heap.size w12 V → (V.cell? ⟨bp, k, none⟩ = some (.int .i64 i) ∧ V.cell? ⟨bq, k, none⟩ = some (.int .i64 gk)) ∧ (Below w.heap.size w V ∧ Nr V bp N F ∧ Nr V bq N G)) := fun V hV => by
              obtain ⟨x1, x2, x3⟩ := HI2.out
              refine ⟨⟨?_, ?_⟩, x1.trans (hV.mono x1.size), x2.below hV, x3.below hV⟩
              · have := x2.below hV k hlt; rw [← HFk.out] at this; exact this
              · have := x3.below hV k hlt; rw [HGk.out] at this; exact this
            clear g1 g2 g3 g5 hgk hdk hbk HI2
            go_wp2_with (first | (go_at_call 23; refine (HNx.out _).mono ?_; rintro e w13 ⟨rfl, hb13⟩; obtain ⟨⟨m1, m2⟩, m3⟩ := HI3.out _ hb13; have HM : Hid (Below w.heap.size w w13 ∧ Nr w13 bp N F ∧ Nr w13 bq N G) := m3; clear m3))
            exact ⟨⟨k + 1, i + dk, hlt, by go_num, by go_num, HF2.out, HM.out⟩, by simp [intOf]; omega⟩
          · obtain rfl : k = N := by omega
            have r1 : ¬ (i : Int) < s.size := by have := HFk.out; rw [HF.out.2] at this; omega
            have hbw := HI2.out.1
            go_wp2_with fail
            go_ret
            exact ⟨rfl, hbw⟩

end Go.Proofs.YtaldkkeghackfaaDoor
