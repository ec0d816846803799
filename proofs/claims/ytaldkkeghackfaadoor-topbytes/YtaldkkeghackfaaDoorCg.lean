import Derived.Test.YtaldkkeghackfaaDoorCf
import Derived.Test.YtaldkkeghackfaaDoorDa
import Derived.BigQuiet
import Derived.Deep.QuietTactic
set_option linter.unusedVariables false
set_option linter.unusedSimpArgs false
namespace Go.Proofs.YtaldkkeghackfaaDoor
open Go.RowKit

theorem CS.tok {s : ByteArray} {k u h z : Nat} (c : CS s k u h z) (hk : k < (toks s).length) : ∃ (kk : Int) (ta te tf : Nat), (toks s)[k]? = some ⟨kk, s.extract ta te, ta, pL s ta, pC s ta, tf⟩ ∧ gap s u ta tf ∧ ta < te ∧ te ≤ s.size ∧ bd s ta ∧ h ≤ ta ∧ CS s (k + 1) te ta z := by
  unfold toks at hk ⊢
  rw [List.length_map] at hk
  obtain ⟨t, t1, t2, t3, t4, t5, t6, t7⟩ := c.next hk
  exact ⟨t.k, t.a, t.e, t.f, by rw [List.getElem?_map, t1]; rfl, t2, t3, t4, t5, t6, t7⟩

theorem adv_p (s : ByteArray) (h ta : Nat) (V : World) (hs : s.size ≤ 2147483647) (hb : bd s h) (ht : bd s ta) (hh : h ≤ ta) :
    Calls Tryd.prog 16 #[.agg #[.int .i64 h, .int .i64 (pL s h), .int .i64 (pC s h)], .string (s.extract h ta)] V fun e w' => e = .returned (.agg #[.int .i64 ta, .int .i64 (pL s ta), .int .i64 (pC s ta)]) ∧ Below V.heap.size V w' := by
  obtain ⟨j1, j2, j3⟩ := adv_join hb ht hh hs
  have hta := bd_le ht
  have := adv_any h (pL s h) (pC s h) (s.extract h ta) V (by rw [size_ext s h ta hta]; omega) (p_rng s h)
  rw [j1, j2, j3] at this
  exact this
theorem betw_p (s : ByteArray) (u ta tf : Nat) (V : World) (hs : s.size ≤ 2147483647) (hg : gap s u ta tf) :
    Calls Tryd.prog 15 #[.string s, .int .i64 u, .int .i64 ta] V fun e w' => e = .returned (.int .i64 tf) ∧ Below V.heap.size V w' := by
  refine (between_any s u ta V hs hg.1 hg.2.1).mono ?_
  rintro e w' ⟨⟨r, rfl, hr⟩, hb⟩
  exact ⟨by rw [hr tf hg], hb⟩

/-- What the law's loop holds in memory. -/
structure CW (w W : World) (p : Option Addr) (L : List Tv) (H : Nat) (h l c : Int) : Prop where
  bel : Below w.heap.size w W
  row : Lt W p L
  box : Box3 W H h l c
theorem CW.below {w W W' : World} {p : Option Addr} {L : List Tv} {H : Nat} {h l c : Int} (x : CW w W p L H h l c) (hb : Below W.heap.size W W') : CW w W' p L H h l c :=
  ⟨x.bel.trans (hb.mono x.bel.size), x.row.below hb, x.box.below hb⟩
theorem CW.move {w W : World} {p : Option Addr} {L : List Tv} {H : Nat} {h l c : Int} (x : CW w W p L H h l c) (hw : w.heap.size ≤ H) (hp : ∀ a, p = some a → a.block ≠ H) (h' l' c' : Int) : CW w (((W.setCell ⟨H, 0, none⟩ (.int .i64 h')).setCell ⟨H, 1, none⟩ (.int .i64 l')).setCell ⟨H, 2, none⟩ (.int .i64 c')) p L H h' l' c' :=
  ⟨((x.bel.setCell (p := ⟨H, 0, none⟩) hw _).setCell (p := ⟨H, 1, none⟩) hw _).setCell (p := ⟨H, 2, none⟩) hw _, ((x.row.kp (Kp.set _ _ 0 _) hp).kp (Kp.set _ _ 1 _) hp).kp (Kp.set _ _ 2 _) hp, ((x.box.set0 _).set1 _).set2 _⟩
def Last (c last : Nat) (s : ByteArray) (x y z : Int) : Prop := (c = 0 ∧ last = s.size) ∨ (c ≠ 0 ∧ x = last ∧ y = pL s last ∧ z = pC s last)

set_option maxRecDepth 100000 in
set_option maxHeartbeats 1500000 in
/-- The law from what All answered. -/
theorem covers_core (s : ByteArray) (w : World) (c last z : Nat) (L : List Tv) (X Y Z : Int) (hs : s.size ≤ 67108864) (hL : L.length ≤ s.size) (hx : last ≤ s.size) (hP : Last c last s X Y Z) (CSp : Nat → Nat → Nat → Prop) (h0 : CSp 0 0 0)
    (hN : ∀ k u h, CSp k u h → k < L.length → ∃ (kk : Int) (ta te tf : Nat), L[k]? = some ⟨kk, s.extract ta te, ta, pL s ta, pC s ta, tf⟩ ∧ gap s u ta tf ∧ ta < te ∧ te ≤ s.size ∧ bd s ta ∧ h ≤ ta ∧ CSp (k + 1) te ta)
    (hbd : ∀ k u h, CSp k u h → bd s h ∧ h ≤ u ∧ u ≤ s.size) (hfin : ∀ u h, CSp L.length u h → z = u) (hz : (∃ n, gap s z last n) ∨ (c = 102 ∧ z < last))
    (HA : Hid (Calls Tryd.prog 8 #[] w fun e w' => e = .returned (.bool true) ∧ Below w.heap.size w w'))
    (H1 : Hid (∀ W, Below w.heap.size w W → Calls Tryd.prog 9 #[.string s] W fun e w' => AL W s c (X, Y, Z) L e w')) :
    Calls Tryd.prog 4 #[.string s] w fun e w' => e = .returned (.bool true) ∧ Below w.heap.size w w' := by
  unfold AL at H1
  have q0 : ¬ (67108864 : Int) < s.size := by omega
  have HS2 : Hid (s.size ≤ 2147483647) := by show _ ≤ _; omega
  have HSt : Hid (∀ V, Calls Tryd.prog 14 #[] V fun e w' => e = .returned (.agg #[.int .i64 0, .int .i64 1, .int .i64 1]) ∧ Below V.heap.size V w') := start_any
  have HH : Hid (CSp 0 0 0 ∧ (∀ k u h, CSp k u h → k < L.length → ∃ (kk : Int) (ta te tf : Nat), L[k]? = some ⟨kk, s.extract ta te, ta, pL s ta, pC s ta, tf⟩ ∧ gap s u ta tf ∧ ta < te ∧ te ≤ s.size ∧ bd s ta ∧ h ≤ ta ∧ CSp (k + 1) te ta) ∧ (∀ k u h, CSp k u h → bd s h ∧ h ≤ u ∧ u ≤ s.size) ∧ (∀ u h, CSp L.length u h → z = u) ∧ ((∃ n, gap s z last n) ∨ (c = 102 ∧ z < last))) := ⟨h0, hN, hbd, hfin, hz⟩
  have HP : Hid (Last c last s X Y Z) := hP
  clear h0 hN hbd hfin hz hP
  go_enter Tryd.func4, Tryd.ntmps4
  go_upto_if 36 with (first | (go_at_call 8; refine HA.out.mono ?_; rintro e w1 ⟨rfl, hb1⟩) | (go_at_call 9; refine (H1.out _ hb1).mono ?_; rintro e w2 ⟨⟨p2, c2, rfl, x2, y2, hL2, hp2⟩, hb2⟩; have hbX := hb1.trans (hb2.mono hb1.size); have kp := Box3.new w2 X Y Z))
  go_cut [7] from 18 (fun t wx => t = .int .i64 last ∧ Hid (Below w.heap.size w wx ∧ Lt wx p2 L ∧ w2.heap.size < wx.heap.size))
  case first =>
    rcases HP.out with ⟨hc, hl⟩ | ⟨hc, hX, hY, hZ⟩
    · subst hc
      subst hl
      go_wp2_with fail
      go_meet
      exact ⟨rfl, hbX.alloc hbX.size _, hL2.below ((Below.refl _ _).alloc (Nat.le_refl _) _), by simp⟩
    · have q5 : ((c : Int) != 0) = true := by rw [bne_iff_ne]; omega
      have HO : Hid (∀ V, Calls Tryd.prog 13 #[.string s, .int .i64 last] V fun e w' => e = .returned (.tuple #[.agg #[.int .i64 X, .int .i64 Y, .int .i64 Z], .int .i64 0]) ∧ Below V.heap.size V w') := fun V => by
        rw [hX, hY, hZ]; exact of_p s _ V (by omega) hx
      have HXl : Hid (X = last) := hX
      rw [HXl.out.symm] at HO
      have g0 := kp.cell0
      clear hX hY hZ hc
      go_wp2_with (first | (go_at_call 13; refine (HO.out _).mono ?_; rintro e w3 ⟨rfl, hb3⟩; have kq := kp.below hb3; have m0 := kq.cell0; have m1 := kq.cell1; have m2 := kq.cell2; have glt := kq.lt; have hbY := (hbX.alloc hbX.size (.cells #[.int .i64 X, .int .i64 Y, .int .i64 Z] 26)).trans (hb3.mono (hbX.alloc hbX.size _).size)))
      go_meet
      exact ⟨by rw [HXl.out], hbY.alloc hbY.size _, ((hL2.below ((Below.refl _ _).alloc (Nat.le_refl _) _)).below hb3).below ((Below.refl _ _).alloc (Nat.le_refl _) _), by have := hb3.size; rw [World.size_alloc] at this; simp; omega⟩
  case rest =>
    obtain ⟨rfl, HC⟩ := hcut
    obtain ⟨hbC, hLC, hzC⟩ := HC.out
    have hp3 : ∀ a, p2 = some a → a.block < wc.heap.size := by
      intro a e
      rcases hp2 with rfl | ⟨g, rfl, _, hg⟩
      · cases e
      · cases e; show g < _; omega
    clear hL2 hb2 hbX kp hp2 HC hzC
    go_wp2_with (first | (go_at_call 14; refine (HSt.out _).mono ?_; rintro e w4 ⟨rfl, hb4⟩; have hbZ := hbC.trans (hb4.mono hbC.size); have hL4 := hLC.below hb4))
    have hpz := p_zero s
    have hp4 : ∀ a, p2 = some a → a.block ≠ w4.heap.size := fun a e => by have := hp3 a e; have := hb4.size; omega
    have hw4 : w.heap.size ≤ w4.heap.size := hbZ.size
    have HC4 : Hid (CW w (w4.alloc (.cells #[.int .i64 0, .int .i64 1, .int .i64 1] 26)) p2 L w4.heap.size 0 (pL s 0) (pC s 0)) := by
      refine ⟨hbZ.alloc hbZ.size _, hL4.below ((Below.refl _ _).alloc (Nat.le_refl _) _), ?_⟩
      rw [hpz.1, hpz.2]
      exact Box3.new _ _ _ _
    clear hpz hL4 hbZ hLC hbC hb4 hp3
    go_loopw [10, 12] (fun at' i wr => ∃ k u h : Nat, at' = .int .i64 u ∧ i = .int .i64 k ∧ k ≤ L.length ∧ u ≤ s.size ∧ h ≤ u ∧ Hid (CSp k u h ∧ CW w wr p2 L w4.heap.size h (pL s h) (pC s h))) (fun _ i _ => L.length - (intOf i).toNat)
    case atStart => exact ⟨0, 0, 0, rfl, rfl, Nat.zero_le _, Nat.zero_le _, Nat.le_refl _, HH.out.1, HC4.out⟩
    case round =>
      obtain ⟨k, u, h, rfl, rfl, hk, hu, hhu, HR⟩ := hrel
      obtain ⟨w5, e5⟩ : ∃ w5, w5 = wr := ⟨wr, rfl⟩
      subst e5
      obtain ⟨hcs, cw⟩ := HR.out
      by_cases hlt : k < L.length
      · have q1 : (k : Int) < L.length := by omega
        have q2 : (0 : Int) ≤ k := by omega
        obtain ⟨kk, ta, te, tf, t1, t2, t3, t4, t5, t6, t7⟩ := HH.out.2.1 k u h hcs hlt
        obtain ⟨b, off, hp, c0, c1, c2', c3, c4, c5⟩ := cw.row k _ t1
        subst hp
        simp only at c0 c1 c2' c3 c4 c5
        have hba := (HH.out.2.2.1 k u h hcs).1
        have HBt : Hid (∀ V, Calls Tryd.prog 15 #[.string s, .int .i64 u, .int .i64 ta] V fun e w' => e = .returned (.int .i64 tf) ∧ Below V.heap.size V w') := fun V => betw_p s u ta tf V HS2.out t2
        have HAdv : Hid (∀ V, Calls Tryd.prog 16 #[.agg #[.int .i64 h, .int .i64 (pL s h), .int .i64 (pC s h)], .string (s.extract h ta)] V fun e w' => e = .returned (.agg #[.int .i64 ta, .int .i64 (pL s ta), .int .i64 (pC s ta)]) ∧ Below V.heap.size V w') := fun V => adv_p s h ta V HS2.out hba t5 t6
        have hez : (s.extract ta te).size = te - ta := size_ext s ta te t4
        have wE : IntKind.i64.wrap ((ta : Int) + ((s.extract ta te).size : Int)) = (te : Int) := by rw [IntKind.wrap_i64, hez]; omega
        have HT7 : Hid (CSp (k + 1) te ta) := t7
        have HCW : Hid (CW w w5 (some ⟨b, off, none⟩) L w4.heap.size h (pL s h) (pC s h)) := cw
        have n1 : (((s.extract ta te).size : Int) == 0) = false := by rw [beq_eq_false_iff_ne, hez]; omega
        have i1 : (ta : Int) ≤ te := by omega
        have i2 : (te : Int) ≤ s.size := by omega
        have i3 : (0 : Int) ≤ ta := by omega
        have i4 : (0 : Int) ≤ h := by omega
        have i5 : (h : Int) ≤ ta := by omega
        have i6 : (ta : Int) ≤ s.size := by omega
        have i7 : ¬ (s.size : Int) < te := by omega
        have i8 : ¬ (tf : Int) < 0 := by omega
        clear t1 t2 t7 hcs cw HR hba hez
        generalize hE : s.extract ta te = E at *
        have HE : Hid (s.extract ta te = E) := hE
        go_upto_region 19 with (first | (go_at_call 15; refine (HBt.out _).mono ?_; rintro e w6 ⟨rfl, hb6⟩; have tb6 : TB w6 w5.heap.size ⟨kk, E, ta, pL s ta, pC s ta, tf⟩ := blk_below (World.alloc_heap_new w5 _) hb6; obtain ⟨b0, b1, b2, b3, b4, b5, _, _, b8⟩ := tb6.cells))
        have i9 : ((tf : Int) != (tf : Int)) = false := by simp
        go_quiet (fail)
        have bq := bel_dn w6 nq
        have tb7 : TB (w6.drewN nq) w5.heap.size ⟨kk, E, ta, pL s ta, pC s ta, tf⟩ := blk_below tb6 bq
        have cw7 := ((HCW.out.below ((Below.refl _ _).alloc (Nat.le_refl _) (.cells #[.int .u8 kk, .string E, .int .i64 ta, .int .i64 (pL s ta), .int .i64 (pC s ta), .int .i64 tf] 37))).below hb6).below bq
        have nb : w5.heap.size ≠ w4.heap.size := by have := HCW.out.box.lt; omega
        clear bq tb6 hb6 b0 b1 b2 b3 b4 b5 b8
        generalize w6.drewN nq = w7 at *
        obtain ⟨b0, b1, b2, b3, b4, b5, _, _, b8⟩ := tb7.cells
        have g0 := cw7.box.cell0
        have g1 := cw7.box.cell1
        have g2 := cw7.box.cell2
        go_upto_region 21 with fail
        go_cut [] from 54 to 121 (fun wx => Hid (CW w wx (some ⟨b, off, none⟩) L w4.heap.size ta (pL s ta) (pC s ta) ∧ TB wx w5.heap.size ⟨kk, E, ta, pL s ta, pC s ta, tf⟩))
        case first =>
          have HW : Hid (∀ V, Below w7.heap.size w7 V → CW w (((V.setCell ⟨w4.heap.size, 0, none⟩ (.int .i64 ta)).setCell ⟨w4.heap.size, 1, none⟩ (.int .i64 (pL s ta))).setCell ⟨w4.heap.size, 2, none⟩ (.int .i64 (pC s ta))) (some ⟨b, off, none⟩) L w4.heap.size ta (pL s ta) (pC s ta) ∧ TB (((V.setCell ⟨w4.heap.size, 0, none⟩ (.int .i64 ta)).setCell ⟨w4.heap.size, 1, none⟩ (.int .i64 (pL s ta))).setCell ⟨w4.heap.size, 2, none⟩ (.int .i64 (pC s ta))) w5.heap.size ⟨kk, E, ta, pL s ta, pC s ta, tf⟩) := fun V hV =>
            ⟨(cw7.below hV).move hw4 hp4 _ _ _, blk_other (blk_other (blk_other (blk_below tb7 hV) nb _) nb _) nb _⟩
          go_region_with (go_at_call 16; refine (HAdv.out _).mono ?_; rintro e w8 ⟨rfl, hb8⟩; have cw8 := (cw7.below (Below.refl _ _).drew).below hb8; have p0 := cw8.box.cell0; have p1 := cw8.box.cell1; have p2 := cw8.box.cell2; have f0 := cw8.box.frozen 0; have f1 := cw8.box.frozen 1; have f2 := cw8.box.frozen 2)
          all_goals (
            go_wp2_with fail
            go_meet
            exact HW.out _ ((Below.refl _ _).drew.trans (hb8.mono (Nat.le_refl _))))
        case rest =>
          obtain ⟨cw9, tb9⟩ := hcut.out
          clear b0 b1 b2 b3 b4 b5 b8 g0 g1 g2
          obtain ⟨b0, b1, b2, b3, b4, b5, _, _, b8⟩ := tb9.cells
          have g0 := cw9.box.cell0
          have g1 := cw9.box.cell1
          have g2 := cw9.box.cell2
          have hcut2 : Hid (CW w wc (some ⟨b, off, none⟩) L w4.heap.size ta (pL s ta) (pC s ta)) := cw9
          clear cw9 tb9 tb7 cw7 hcut HAdv HBt HCW
          obtain ⟨A1, hA1⟩ : ∃ A1, pL s ta = A1 := ⟨_, rfl⟩
          obtain ⟨A2, hA2⟩ : ∃ A2, pC s ta = A2 := ⟨_, rfl⟩
          simp only [hA1, hA2] at b0 b1 b2 b3 b4 b5 b8 g0 g1 g2
          clear hA1 hA2
          go_wp2_with fail
          exact ⟨⟨k + 1, te, ta, by go_num, by go_num, hlt, t4, by omega, HT7.out, hcut2.out⟩, by simp [intOf]; omega⟩
      · obtain rfl : k = L.length := by omega
        have q1 : ¬ (L.length : Int) < L.length := by omega
        have hzu := HH.out.2.2.2.1 u h hcs
        have hgap := HH.out.2.2.2.2
        rw [hzu] at hgap
        have hbw := cw.bel
        rcases hgap with ⟨n, hn⟩ | ⟨h9, h10⟩
        · have HBt : Hid (∀ V, Calls Tryd.prog 15 #[.string s, .int .i64 u, .int .i64 last] V fun e w' => e = .returned (.int .i64 n) ∧ Below V.heap.size V w') := fun V => betw_p s u last n V HS2.out hn
          have i0 : (0 : Int) ≤ n := by omega
          clear hn hzu cw hcs HR
          go_wp2_with (first | (go_at_call 15; refine (HBt.out _).mono ?_; rintro e w6 ⟨rfl, hb6⟩))
          go_ret
          exact ⟨rfl, hbw.trans (hb6.mono hbw.size)⟩
        · have HBt : Hid (∀ V, Calls Tryd.prog 15 #[.string s, .int .i64 u, .int .i64 last] V fun e w' => (∃ r : Int, e = .returned (.int .i64 r) ∧ ∀ n : Nat, gap s u last n → r = n) ∧ Below V.heap.size V w') := fun V => between_any s u last V HS2.out (Nat.le_of_lt h10) hx
          have i0 : (u : Int) < last := by omega
          subst h9
          clear h10 hzu cw hcs HR
          go_wp2_with (first | (go_at_call 15; refine (HBt.out _).mono ?_; rintro e w6 ⟨⟨r, rfl, _⟩, hb6⟩))
          all_goals (
            go_ret
            exact ⟨rfl, hbw.trans (hb6.mono hbw.size)⟩)

set_option maxRecDepth 100000 in
set_option maxHeartbeats 1000000 in
theorem covers_walk (s : ByteArray) (w : World) (hT : Kab w) (hm : s.size ≤ maxLen) :
    Calls Tryd.prog 4 #[.string s] w fun e w' => e = .returned (.bool true) ∧ Below w.heap.size w w' := by
  have HA : Hid (Calls Tryd.prog 8 #[] w fun e w' => e = .returned (.bool true) ∧ Below w.heap.size w w') := awake_any w hT
  unfold maxLen at hm
  by_cases hbig : 67108864 < s.size
  · have q0 : (67108864 : Int) < s.size := by omega
    clear hT
    go_enter Tryd.func4, Tryd.ntmps4
    go_wp2_with (first | (go_at_call 8; refine HA.out.mono ?_; rintro e w1 ⟨rfl, hb1⟩))
    go_ret
    exact ⟨rfl, hb1⟩
  · obtain ⟨z, z1, z2, z3⟩ := scn_cov s
    have hlen : (toks s).length = (scn s).1.length := by unfold toks; rw [List.length_map]
    have H1 : Hid (∀ W, Below w.heap.size w W → Calls Tryd.prog 9 #[.string s] W fun e w' => AL W s (scn s).2.1 ((eP s).1, (eP s).2.1, (eP s).2.2) (toks s) e w') := fun W hW => all_lt s W (hT.below hW) (by omega)
    have hfin : ∀ u h, CS s (toks s).length u h z → z = u := fun u h c => by rw [hlen] at c; exact c.fin
    by_cases e : (scn s).2.1 = 0
    · exact covers_core s w (scn s).2.1 s.size z (toks s) _ _ _ (by omega) (toks_len s) (Nat.le_refl _) (.inl ⟨e, rfl⟩) (fun k u h => CS s k u h z) (CS.start s z1) (fun k u h c hk => c.tok hk) (fun k u h c => ⟨c.bdh, c.hu, c.us⟩) hfin (.inl (z2 e)) HA H1
    · refine covers_core s w (scn s).2.1 (scn s).2.2 z (toks s) _ _ _ (by omega) (toks_len s) (bd_le ((scn_bd s).2 e)) (.inr ⟨e, ?_, ?_, ?_⟩) (fun k u h => CS s k u h z) (CS.start s z1) (fun k u h c hk => c.tok hk) (fun k u h c => ⟨c.bdh, c.hu, c.us⟩) hfin ?_ HA H1
      · show (if (scn s).2.1 = 0 then (0 : Int) else _) = _; rw [if_neg e]
      · show (if (scn s).2.1 = 0 then (0 : Int) else _) = _; rw [if_neg e]
      · show (if (scn s).2.1 = 0 then (0 : Int) else _) = _; rw [if_neg e]
      · rcases z3 e with h | ⟨h, h2, _⟩
        · exact .inl h
        · exact .inr ⟨h, h2⟩

end Go.Proofs.YtaldkkeghackfaaDoor
