import Derived.Test.YtmjhfabdbajchaaGreatDoorCe
import Derived.Test.YtmjhfabdbajchaaGreatDoorHn
set_option linter.unusedVariables false
set_option linter.unusedSimpArgs false
namespace Go.Proofs.YtmjhfabdbajchaaGreatDoor
open Go.RowKit

set_option maxHeartbeats 4000000 in
set_option maxRecDepth 100000 in
theorem begins9_any {R : (Nat → Prop) → World → Nat → Nat → S9 → Prop} (hC : Ctr R) (n : Int) (ao bo : Option Addr) (l m : List Dc) (cap bcap : Nat) (W : World) (hL : Lay W ao l) (hM : Lay W bo m) (hnil : bo = none → m.length = 0) (hT : Tab W) (hlen : l.length ≤ 200000) (hlm : m.length ≤ 200000) (hs : lsum l + lsum m ≤ 1048576) :
    Calls Tryz.prog 6 #[.int .i64 n, .slice ao l.length cap, .slice bo m.length bcap] W fun e w' => e = .returned (.bool true) ∧ Below W.heap.size W w' := by
  have HC : Hid (Ctr R) := hC
  have HT : Hid (Tab W) := hT
  have HLM : Hid (Lay W ao l ∧ Lay W bo m ∧ (bo = none → m.length = 0)) := ⟨hL, hM, hnil⟩
  have hU : uds l + uds m ≤ 200000000 := by have h1 := uds_lsum l; have h2 := uds_lsum m; omega
  have KA : Hid (∀ V, Below W.heap.size W V → Calls Tryz.prog 9 #[] V fun e w' => e = .returned (.bool true) ∧ Below V.heap.size V w') := fun V hV => awake9_any HC.out V (HT.out.below hV)
  clear hL hM hnil hC hT hs
  by_cases hn : n < 1 ∨ 4096 < n
  · have HN : Hid (n < 1 ∨ 4096 < n) := hn
    clear hn
    go_enter Tryz.func6, Tryz.ntmps6
    go_wp2_with fail
    refine (HC.out.bad n W HN.out HT.out).mono ?_
    rintro e w2 ⟨rfl, hb2⟩
    go_wp2_with (go_at_call 9; refine (KA.out _ hb2).mono ?_; rintro e w4 ⟨rfl, hb4⟩; have H4 : Hid (Below W.heap.size W w4) := hb2.trans (hb4.mono hb2.size); clear hb4)
    go_ret
    exact ⟨rfl, H4.out⟩
  · obtain ⟨N, hN⟩ : ∃ N : Nat, n = (N : Int) := ⟨n.toNat, by omega⟩
    subst hN
    have hN1 : 1 ≤ N := by omega
    have hN2 : N ≤ 4096 := by omega
    clear hn
    go_enter Tryz.func6, Tryz.ntmps6
    go_wp2_with fail
    refine (new9 HC.out N hN1 hN2 W W HT.out (Below.refl _ _)).mono ?_
    rintro e w2 ⟨g, own, rfl, hA2, ho2, hb2⟩
    have H2 : Hid (J9 R W w2 g N (.slice none 0 0) ⟨#[]⟩ 0 0) := ⟨own, s90, [], ⟨hA2, rp_nil _ _, fun q h => by cases h⟩, sin0 N, Bud.zero, rfl, Nat.le_refl _, Nat.le_refl _⟩
    clear hA2 ho2 hb2
    go_wp2_with fail
    go_loopw [9, 10, 11] (fun tv vf i wr => ∃ (k : Nat) (TB : ByteArray), k ≤ l.length ∧ i = .int .i64 k ∧ tv = .string TB ∧ Hid (J9 R W wr g N vf TB (uds (l.take k)) k)) (fun _ _ i _ => l.length - (intOf i).toNat)
    case atStart => exact ⟨0, ⟨#[]⟩, Nat.zero_le _, rfl, rfl, H2.out⟩
    case round =>
      obtain ⟨k, TB, hk, rfl, rfl, HI⟩ := hrel
      obtain ⟨own2, s, F, h9, hsin, hbu, hTB, huF, hFl⟩ := HI.out
      have huk : uds (l.take k) ≤ 200000000 := by have := uds_take l k; omega
      have hob := hbu.outb
      have hTs : TB.size ≤ 200000000 := by rw [← ls_len, hTB]; omega
      obtain ⟨pf, cf, evf, _, _⟩ := h9.rf.shape
      subst evf
      by_cases hlt : k < l.length
      · have q1 : (k : Int) < l.length := by omega
        have q2 : (0 : Int) ≤ k := by omega
        obtain ⟨d, hd⟩ : ∃ d, l[k]? = some d := ⟨_, List.getElem?_eq_getElem hlt⟩
        have htk : l.take (k + 1) = l.take k ++ [d] := by rw [List.take_add_one, hd]; rfl
        have hLr : Lay wr ao l := HLM.out.1.below h9.a9.be
        obtain ⟨ht, b, off, rfl, c0, c1, c2, c3, c4⟩ := hLr k d hd
        have hud : uds (l.take k) + ud d = uds (l.take (k + 1)) := by rw [htk, uds_snoc]
        have huk2 : uds (l.take (k + 1)) ≤ 200000000 := by have := uds_take l (k + 1); omega
        have KP9 := h9.a9.put HC.out hN2 hbu d ht (by omega) (by omega)
        have hbu' := hbu.put (N := N) d
        rw [hud] at hbu'
        have hcl : ∀ V, Below wr.heap.size wr V → Lay V (some ⟨b, off, none⟩) l := fun V hV => hLr.below hV
        by_cases hok : rt d = true ∧ ¬ (d.k = 7 ∧ s.dp = 0)
        · obtain ⟨he0, hsin'⟩ := sin_put hN2 hsin hok
          rw [he0] at KP9
          have hpre := told_app (s.put_pre N d)
          obtain ⟨s', hs'⟩ : ∃ s', (s.put N d).1 = s' := ⟨_, rfl⟩
          rw [hs'] at KP9 hsin' hbu' hpre
          obtain ⟨TL, hTL⟩ : ∃ TL : ByteArray, ⟨(s.told s').toArray⟩ = TL := ⟨_, rfl⟩
          rw [hTL] at KP9
          have hlsb : lsb TL = s.told s' := by rw [← hTL]; exact ls_mk _
          have hob' := hbu'.outb
          have htl : TB.size + TL.size ≤ 200000000 := by
            have := congrArg List.length hpre
            rw [List.length_append, ← hlsb, ls_len, ← hTB, ls_len] at this
            omega
          have HN9 : Hid (Sin N (F ++ [d]) s' ∧ Bud s' (uds (l.take (k + 1))) (k + 1) ∧ lsb (TB ++ TL) = s'.pr.sk.out ∧ uds (F ++ [d]) ≤ uds (l.take (k + 1)) ∧ (F ++ [d]).length ≤ k + 1) := ⟨hsin', hbu', by rw [lsb_add, hTB, hlsb]; exact hpre.symm, by rw [uds_snoc]; omega, by rw [List.length_append, List.length_singleton]; omega⟩
          have HP9 : Hid (Calls Tryz.prog 15 #[.pointer (some ⟨g, 0, none⟩), .agg #[.int .u8 d.k, .string d.t, .int .i64 d.b, .int .i64 d.i, .bool d.e]] wr fun e w' => e = .returned (.tuple #[.string TL, .int .i64 0]) ∧ ∃ own', Hid (B9 R W w' own' g N s' (.slice pf F.length cf) F)) := by
            refine KP9.mono ?_
            rintro e w' ⟨rfl, own', a1, a2⟩
            exact ⟨rfl, own', h9.sd a1 a2⟩
          have HLY : Hid (∀ V own', Hid (B9 R W V own' g N s' (.slice pf F.length cf) F) → V.cell? ⟨b, off + k * 5, none⟩ = some (.int .u8 d.k) ∧ V.cell? ⟨b, off + k * 5 + 1, none⟩ = some (.string d.t) ∧ V.cell? ⟨b, off + k * 5 + 2, none⟩ = some (.int .i64 d.b) ∧ V.cell? ⟨b, off + k * 5 + 3, none⟩ = some (.int .i64 d.i) ∧ V.cell? ⟨b, off + k * 5 + 4, none⟩ = some (.bool d.e)) := by
            intro V own' hV
            obtain ⟨_, b', off', eb, x0, x1, x2, x3, x4⟩ := (HLM.out.1.below hV.out.a9.be) k d hd
            simp only [Option.some.injEq, Addr.mk.injEq, and_true] at eb
            obtain ⟨rfl, rfl⟩ := eb
            exact ⟨x0, x1, x2, x3, x4⟩
          clear HI h9 hsin hbu hob hd htk hLr he0 hsin' hbu' hud KP9 hpre hs' hTL hlsb hob' huk huk2 hTB huF hcl hok
          obtain ⟨dk, dt, db, di, de⟩ := d
          simp only at c0 c1 c2 c3 c4 HP9 HLY
          go_wp2_with (first | (go_at_call 15; refine HP9.out.mono ?_; rintro e w5 ⟨rfl, own5, K5⟩; obtain ⟨x0, x1, x2, x3, x4⟩ := HLY.out _ _ K5) | (at_builtin; refine app_piece rfl _ _ rfl W.heap.size _ F ⟨dk, dt, db, di, de⟩ rfl (K5.out.below HC.out ((Below.refl _ w5).alloc (Nat.le_refl _) _)).rf _ 1 rfl (new_at w5 _) (by omega) (K5.out.below HC.out ((Below.refl _ w5).alloc (Nat.le_refl _) _)).a9.be.size ?_; intro v8 w8 hr8 hb8 hg8 hat8; have HK8 : Hid (B9 R W w8 own5 g N s' v8 (F ++ [⟨dk, dt, db, di, de⟩])) := (K5.out.below HC.out ((Below.refl _ w5).alloc (Nat.le_refl _) _)).app HC.out HT.out hr8 hg8 hat8; clear hr8 hg8 hat8 hb8))
          exact ⟨⟨k + 1, TB ++ TL, hlt, by go_num, rfl, own5, s', _, HK8.out, HN9.out⟩, by simp [intOf]; omega⟩
        · have ep := put_no (N := N) hsin.cl hok
          rw [ep] at KP9 hbu'
          obtain ⟨TL, hTL⟩ : ∃ TL : ByteArray, ⟨(s.told s).toArray⟩ = TL := ⟨_, rfl⟩
          simp only [hTL] at KP9
          have HN9 : Hid (Sin N F s ∧ Bud s (uds (l.take (k + 1))) (k + 1) ∧ lsb TB = s.pr.sk.out ∧ uds F ≤ uds (l.take (k + 1)) ∧ F.length ≤ k + 1) := ⟨hsin, hbu', hTB, by omega, by omega⟩
          have HP9 : Hid (Calls Tryz.prog 15 #[.pointer (some ⟨g, 0, none⟩), .agg #[.int .u8 d.k, .string d.t, .int .i64 d.b, .int .i64 d.i, .bool d.e]] wr fun e w' => e = .returned (.tuple #[.string TL, .int .i64 70]) ∧ ∃ own', Hid (B9 R W w' own' g N s (.slice pf F.length cf) F)) := by
            refine KP9.mono ?_
            rintro e w' ⟨rfl, own', a1, a2⟩
            exact ⟨rfl, own', h9.sd a1 a2⟩
          clear HI h9 hsin hbu hob hd htk hLr hbu' hud KP9 hTL huk huk2 hTB huF hcl hok ep
          obtain ⟨dk, dt, db, di, de⟩ := d
          simp only at c0 c1 c2 c3 c4 HP9
          go_wp2_with (first | (go_at_call 15; refine HP9.out.mono ?_; rintro e w5 ⟨rfl, own5, K5⟩))
          exact ⟨⟨k + 1, TB, hlt, by go_num, rfl, own5, s, F, K5.out, HN9.out⟩, by simp [intOf]; omega⟩
      · obtain rfl : k = l.length := by omega
        have q1 : ¬ ((l.length : Int) < l.length) := by omega
        rw [List.take_length] at huk hbu huF
        obtain ⟨W1, e1, f1, g1⟩ := begins_pre hsin hN1 hN2 [] hTB
        obtain ⟨W2, e2, f2, g2⟩ := begins_pre hsin hN1 hN2 m hTB
        obtain ⟨W3, e3, f3, g3⟩ := begins_pre hsin hN1 hN2 l3 hTB
        have hFs : ∀ d ∈ F, d.t.size ≤ 9223372036854775807 := fun d hd => by have := rt_sq (opd_rt _ _ _ hsin.op d hd); omega
        have K5 : Hid (∀ V bo X bcap, Below wr.heap.size wr V → Lay V bo X → (bo = none → X.length = 0) → X.length ≤ 200000 → Calls Tryz.prog 13 #[.slice pf F.length cf, .slice bo X.length bcap] V fun e w' => ∃ v, e = .returned v ∧ Hid (Rp V.heap.size w' v (clo (F ++ X)) ∧ Below V.heap.size V w')) := by
          intro V bo X bcap hV hX hn hl
          have hr := h9.rf.below hV
          obtain ⟨ao2, cap2, hv2, _, hL2, hn2, _, _⟩ := Lay.row hr hFs
          simp only [Value.slice.injEq] at hv2
          obtain ⟨rfl, _, rfl⟩ := hv2
          exact closed_any pf bo F X cf bcap V hL2 hX (fun h => by rw [h] at hr; rcases hr.2 with ⟨_, h0⟩ | ⟨q, c, cur, e, _⟩; exact h0; cases e) hn (by omega)
        have K7 : Hid (∀ V v X WT, Below W.heap.size W V → Hid (∃ B, Rp B V v (clo (F ++ X))) → wprn N (clo (F ++ X)) = (WT, 0) → X.length ≤ 200000 → uds l + uds X ≤ 268435456 → Calls Tryz.prog 14 #[.int .i64 (N : Int), v] V fun e w' => e = .returned (.tuple #[.string WT, .int .i64 0]) ∧ Below V.heap.size V w') := by
          intro V v X WT hV hr hw hX hu
          obtain ⟨B, hr⟩ := hr.out
          have hb := clo_bd (F ++ X)
          rw [uds_app, List.length_append] at hb
          obtain ⟨p1, c1, rfl, _, hL1, _, _, _⟩ := Lay.row hr (fun d hd => by have := rt_sq (frm_rt _ 0 0 (clo_ok (F ++ X)) d hd); omega)
          have := print_any N p1 (clo (F ++ X)) c1 V hL1 (HT.out.below hV) (by omega) (by omega)
          rw [hw] at this
          exact this
        have HBE : Hid (Below W.heap.size W wr) := h9.a9.be
        obtain ⟨ts, hts⟩ : ∃ ts, TB.size = ts := ⟨_, rfl⟩
        have HW : Hid ((wprn N (clo (F ++ [])) = (W1, 0) ∧ wprn N (clo (F ++ m)) = (W2, 0) ∧ wprn N (clo (F ++ l3)) = (W3, 0)) ∧ uds l + uds m ≤ 200000000) := ⟨⟨e1, e2, e3⟩, hU⟩
        clear HI h9 hsin hbu hTB huF hob huk e1 e2 e3 hFs
        go_wp2_with fail
        refine (K5.out wr none [] 0 (Below.refl _ _) (fun j d h => by simp at h) (fun _ => rfl) (by simp)).mono ?_
        rintro e w5 ⟨v5, rfl, H5⟩
        have B5 : Hid (Below wr.heap.size wr w5) := H5.out.2
        go_wp2_with fail
        refine (K7.out w5 v5 [] W1 (HBE.out.trans (B5.out.mono HBE.out.size)) ⟨_, H5.out.1⟩ HW.out.1.1 (by simp) (by have := HW.out.2; have e0 : uds ([] : List Dc) = 0 := rfl; omega)).mono ?_
        rintro e w6 ⟨rfl, hb6⟩
        have B6 : Hid (Below wr.heap.size wr w6) := B5.out.trans (hb6.mono B5.out.size)
        clear hb6 H5 B5
        go_wp2_with fail
        refine (K5.out w6 bo m bcap B6.out (HLM.out.2.1.below (HBE.out.trans (B6.out.mono HBE.out.size))) HLM.out.2.2 hlm).mono ?_
        rintro e w7 ⟨v7, rfl, H7⟩
        have B7 : Hid (Below wr.heap.size wr w7) := B6.out.trans (H7.out.2.mono B6.out.size)
        go_wp2_with fail
        refine (K7.out w7 v7 m W2 (HBE.out.trans (B7.out.mono HBE.out.size)) ⟨_, H7.out.1⟩ HW.out.1.2.1 hlm (by have := HW.out.2; omega)).mono ?_
        rintro e w8 ⟨rfl, hb8⟩
        have B8 : Hid (Below wr.heap.size wr w8) := B7.out.trans (hb8.mono B7.out.size)
        clear hb8 H7 B7 B6
        go_wp2_with fail
        refine (text9_any _ w8).mono ?_
        rintro e w9 ⟨rfl, hb9⟩
        have B9' : Hid (Below wr.heap.size wr w9) := B8.out.trans (hb9.mono B8.out.size)
        clear hb9 B8
        go_wp2_with fail
        refine (text9_any _ w9).mono ?_
        rintro e w10 ⟨rfl, hb10⟩
        have B10 : Hid (Below wr.heap.size wr w10) := B9'.out.trans (hb10.mono B9'.out.size)
        clear hb10 B9'
        go_wp2_with fail
        obtain ⟨w11, hw11⟩ : ∃ w11, w10.alloc (.cells #[.int .u8 1, .string ⟨#[97]⟩, .int .i64 0, .int .i64 0, .bool false, .int .u8 4, .string ⟨#[]⟩, .int .i64 0, .int .i64 0, .bool false, .int .u8 1, .string ⟨#[98]⟩, .int .i64 0, .int .i64 0, .bool false] 37) = w11 := ⟨_, rfl⟩
        rw [hw11]
        have B11 : Hid (Below wr.heap.size wr w11) := by show Below _ _ _; rw [← hw11]; exact B10.out.alloc B10.out.size _
        have hL3 : Lay w11 (some ⟨w10.heap.size, 0, none⟩) l3 := by
          have hr3 : Rp 0 w11 (.slice (some ⟨w10.heap.size, 0, none⟩) 3 3) l3 := by
            rw [← hw11]
            exact World.ownsRow_lit w10 #[.int .u8 1, .string ⟨#[97]⟩, .int .i64 0, .int .i64 0, .bool false, .int .u8 4, .string ⟨#[]⟩, .int .i64 0, .int .i64 0, .bool false, .int .u8 1, .string ⟨#[98]⟩, .int .i64 0, .int .i64 0, .bool false] 3 (Nat.zero_le _) (by unfold maxLen; omega) rfl
          obtain ⟨ao2, cap2, hv2, _, hL2, _, _, _⟩ := Lay.row hr3 (fun d hd => by simp [l3] at hd; rcases hd with rfl | rfl | rfl <;> decide)
          simp only [Value.slice.injEq] at hv2
          obtain ⟨rfl, _, _⟩ := hv2
          exact hL2
        clear hw11 B10
        refine (K5.out w11 (some ⟨w10.heap.size, 0, none⟩) l3 3 B11.out hL3 (fun h => by cases h) (by decide)).mono ?_
        rintro e w12 ⟨v12, rfl, H12⟩
        have B12 : Hid (Below wr.heap.size wr w12) := B11.out.trans (H12.out.2.mono B11.out.size)
        clear hL3 B11
        go_wp2_with fail
        refine (K7.out w12 v12 l3 W3 (HBE.out.trans (B12.out.mono HBE.out.size)) ⟨_, H12.out.1⟩ HW.out.1.2.2 (by decide) (by have := HW.out.2; have e0 : uds l3 ≤ 4000 := (by decide +kernel); omega)).mono ?_
        rintro e w13 ⟨rfl, hb13⟩
        have B13 : Hid (Below W.heap.size W w13) := HBE.out.trans ((B12.out.trans (hb13.mono B12.out.size)).mono HBE.out.size)
        clear hb13 H12 B12
        rw [hts] at f1 f2 f3 g1 g2 g3
        have i1 : (ts : Int) ≤ W1.size := by omega
        have i2 : (ts : Int) ≤ W2.size := by omega
        have i3 : (ts : Int) ≤ W3.size := by omega
        have i0 : (0 : Int) ≤ ts := by omega
        clear hTs
        go_wp2_with (go_at_call 9; refine (KA.out _ B13.out).mono ?_; rintro e w14 ⟨rfl, hb14⟩; have H14 : Hid (Below W.heap.size W w14) := B13.out.trans (hb14.mono B13.out.size); clear hb14)
        go_ret
        exact ⟨rfl, H14.out⟩
end Go.Proofs.YtmjhfabdbajchaaGreatDoor
