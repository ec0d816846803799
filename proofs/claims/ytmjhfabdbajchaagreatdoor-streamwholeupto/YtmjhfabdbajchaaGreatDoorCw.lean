import Derived.Test.YtmjhfabdbajchaaGreatDoorCd
import Derived.Test.YtmjhfabdbajchaaGreatDoorHn
set_option linter.unusedVariables false
set_option linter.unusedSimpArgs false
namespace Go.Proofs.YtmjhfabdbajchaaGreatDoor
open Go.RowKit

set_option maxHeartbeats 4000000 in
set_option maxRecDepth 100000 in
theorem whole9_any {R : (Nat → Prop) → World → Nat → Nat → S9 → Prop} (hC : Ctr R) (n : Int) (ao : Option Addr) (l : List Dc) (cap : Nat) (W : World) (hL : Lay W ao l) (hnil : ao = none → l.length = 0) (hT : Tab W) (hlen : l.length ≤ 200000) (hs : lsum l ≤ 1048576) :
    Calls Tryz.prog 5 #[.int .i64 n, .slice ao l.length cap] W fun e w' => e = .returned (.bool true) ∧ Below W.heap.size W w' := by
  have HC : Hid (Ctr R) := hC
  have HT : Hid (Tab W) := hT
  have hU : uds l ≤ 268435456 := by have := uds_lsum l; omega
  have hcb := clo_bd l
  have hf := clo_ok l
  have KA : Hid (∀ V, Below W.heap.size W V → Calls Tryz.prog 9 #[] V fun e w' => e = .returned (.bool true) ∧ Below V.heap.size V w') := fun V hV => awake9_any HC.out V (HT.out.below hV)
  have K5 := closed_any ao none l [] cap 0 W hL (fun j d h => by simp at h) hnil (fun _ => rfl) (by simp; omega)
  rw [List.append_nil] at K5
  obtain ⟨A, hA⟩ : ∃ A, clo l = A := ⟨_, rfl⟩
  rw [hA] at K5 hcb hf
  have hrt := frm_rt A 0 0 hf
  have hsz : ∀ d ∈ A, d.t.size ≤ 65535 := fun d hd => rt_sq (hrt d hd)
  have hAl : A.length ≤ 400000 := by omega
  have hAu : uds A ≤ 268435456 := by omega
  have HF : Hid (frm 0 0 A = none ∧ ∀ d ∈ A, d.t.size ≤ 65535) := ⟨hf, hsz⟩
  clear hL hnil hC hT hs hU hcb hf hA hrt hsz
  by_cases hn : n < 1 ∨ 4096 < n
  · have ew : wprn n A = (⟨#[]⟩, 1) := if_pos hn
    have HN : Hid (n < 1 ∨ 4096 < n) := hn
    clear hn
    go_enter Tryz.func5, Tryz.ntmps5
    go_wp2_with fail
    refine K5.mono ?_
    rintro e w1 ⟨v, rfl, hr1, hb1⟩
    obtain ⟨p1, c1, rfl, _, hL1, _, _, _⟩ := Lay.row hr1 (fun d hd => by have := HF.out.2 d hd; omega)
    have H1 : Hid (Lay w1 p1 A ∧ Below W.heap.size W w1) := ⟨hL1, hb1⟩
    clear hr1 hb1 hL1 K5
    go_wp2_with fail
    refine (HC.out.bad n w1 HN.out (HT.out.below H1.out.2)).mono ?_
    rintro e w2 ⟨rfl, hb2⟩
    have H2 : Hid (Lay w2 p1 A ∧ Below W.heap.size W w2) := ⟨H1.out.1.below hb2, H1.out.2.trans (hb2.mono H1.out.2.size)⟩
    clear hb2 H1
    have KP := print_any n p1 A c1 w2 H2.out.1 (HT.out.below H2.out.2) (by omega) hAu
    rw [ew] at KP
    go_wp2_with fail
    refine KP.mono ?_
    rintro e w3 ⟨rfl, hb3⟩
    have H3 : Hid (Below W.heap.size W w3) := H2.out.2.trans (hb3.mono H2.out.2.size)
    clear hb3 H2 KP
    go_wp2_with (go_at_call 9; refine (KA.out _ H3.out).mono ?_; rintro e w4 ⟨rfl, hb4⟩; have H4 : Hid (Below W.heap.size W w4) := H3.out.trans (hb4.mono H3.out.size); clear hb4)
    go_ret
    exact ⟨rfl, H4.out⟩
  · obtain ⟨N, hN⟩ : ∃ N : Nat, n = (N : Int) := ⟨n.toNat, by omega⟩
    subst hN
    have hN1 : 1 ≤ N := by omega
    have hN2 : N ≤ 4096 := by omega
    have ew : wprn N A = (⟨(wout N A).toArray⟩, 0) := by unfold wprn; rw [if_neg hn, if_neg (by simp [HF.out.1])]; simp
    obtain ⟨WT, hWT⟩ : ∃ WT : ByteArray, ⟨(wout N A).toArray⟩ = WT := ⟨_, rfl⟩
    rw [hWT] at ew
    have HWT : Hid (⟨(wout N A).toArray⟩ = WT) := hWT
    clear hn hWT
    go_enter Tryz.func5, Tryz.ntmps5
    go_wp2_with fail
    refine K5.mono ?_
    rintro e w1 ⟨v, rfl, hr1, hb1⟩
    obtain ⟨p1, c1, rfl, _, _⟩ := hr1.shape
    have H1 : Hid (Rp W.heap.size w1 (.slice p1 A.length c1) A ∧ Below W.heap.size W w1) := ⟨hr1, hb1⟩
    clear hr1 hb1 K5
    go_wp2_with fail
    refine (new9 HC.out N hN1 hN2 W w1 HT.out H1.out.2).mono ?_
    rintro e w2 ⟨g, own, rfl, hA2, ho2, hb2⟩
    have H2 : Hid (W9 R W w2 own g N s90 (.slice none 0 0) [] (.slice p1 A.length c1) A) := ⟨hA2, br_nil _ _, (fun q h => by cases h), H1.out.1.below hb2, fun q hq => ho2 q (World.ownsRow.lt H1.out.1 q hq).2⟩
    clear hA2 ho2 hb2 H1
    obtain ⟨ao2, cap2, hv2, _, hL2, _, _, _⟩ := Lay.row H2.out.ra (fun d hd => by have := HF.out.2 d hd; omega)
    simp only [Value.slice.injEq] at hv2
    obtain ⟨rfl, _, rfl⟩ := hv2
    have KP := print_any N p1 A c1 w2 hL2 H2.out.a9.en.tab (by omega) hAu
    rw [ew] at KP
    clear hL2
    go_wp2_with fail
    refine KP.mono ?_
    rintro e w3 ⟨rfl, hb3⟩
    have H3 : Hid (W9 R W w3 own g N s90 (.slice none 0 0) [] (.slice p1 A.length c1) A) := H2.out.below HC.out hb3
    clear hb3 H2 KP
    go_wp2_with (go_at_call 9; refine (KA.out _ H3.out.a9.be).mono ?_; rintro e w4 ⟨rfl, hb4⟩; have H4 : Hid (W9 R W w4 own g N s90 (.slice none 0 0) [] (.slice p1 A.length c1) A) := H3.out.below HC.out hb4; clear hb4)
    go_loopw [10, 11] (fun vb i wr => ∃ (k : Nat), k ≤ A.length ∧ i = .int .i64 k ∧ Hid (I9 R W wr g N vb (.slice p1 A.length c1) A k)) (fun _ i _ => A.length - (intOf i).toNat)
    case atStart => exact ⟨0, Nat.zero_le _, rfl, own, s90, H4.out, by rw [List.take_zero]; exact sin0 N, by rw [List.take_zero]; exact Bud.zero⟩
    case round =>
      obtain ⟨k, hk, rfl, HI⟩ := hrel
      obtain ⟨own2, s, h9, hsin, hbu⟩ := HI.out
      obtain ⟨hz, hat⟩ := clo_at HF.out.1 hsin hk
      have huk : uds (A.take k) ≤ 268435456 := by have := uds_take A k; omega
      have hob := hbu.outb
      obtain ⟨pb, cb, evb, _, _⟩ := h9.rb.shape
      subst evb
      by_cases hlt : k < A.length
      · have q1 : (k : Int) < A.length := by omega
        have q2 : (0 : Int) ≤ k := by omega
        obtain ⟨d, hd⟩ : ∃ d, A[k]? = some d := ⟨_, List.getElem?_eq_getElem hlt⟩
        have htk : A.take (k + 1) = A.take k ++ [d] := by rw [List.take_add_one, hd]; rfl
        obtain ⟨ao2, cap2, hv2, _, hL2, _, _, _⟩ := Lay.row h9.ra (fun d hd => by have := HF.out.2 d hd; omega)
        simp only [Value.slice.injEq] at hv2
        obtain ⟨rfl, _, rfl⟩ := hv2
        obtain ⟨ht, b, off, rfl, c0, c1', c2, c3, c4⟩ := hL2 k d hd
        obtain ⟨he0, hsin'⟩ := sin_put hN2 hsin (hat d hd)
        have hbu' := hbu.put (N := N) d
        have hud : uds (A.take k) + ud d = uds (A.take (k + 1)) := by rw [htk, uds_snoc]
        have huk2 : uds (A.take (k + 1)) ≤ 268435456 := by have := uds_take A (k + 1); omega
        rw [hud] at hbu'
        rw [← htk] at hsin'
        have KP9 := h9.a9.put HC.out hN2 hbu d (by omega) (by omega) (by omega)
        rw [he0] at KP9
        have hpre := told_app (s.put_pre N d)
        obtain ⟨s', hs'⟩ : ∃ s', (s.put N d).1 = s' := ⟨_, rfl⟩
        rw [hs'] at KP9 hsin' hbu' hpre
        have hwl := hsin'.len
        rw [List.length_take] at hwl
        obtain ⟨TL, hTL⟩ : ∃ TL : ByteArray, ⟨(s.told s').toArray⟩ = TL := ⟨_, rfl⟩
        rw [hTL] at KP9
        have hlsb : lsb TL = s.told s' := by rw [← hTL]; exact ls_mk _
        have hob' := hbu'.outb
        have htl : s.pr.sk.out.length + TL.size ≤ 268435456 := by
          have := congrArg List.length hpre
          rw [List.length_append, ← hlsb, ls_len] at this
          omega
        have HN9 : Hid (Sin N (A.take (k + 1)) s' ∧ Bud s' (uds (A.take (k + 1))) (k + 1) ∧ s'.pr.sk.out = s.pr.sk.out ++ lsb TL) := ⟨hsin', hbu', by rw [hlsb]; exact hpre⟩
        have HP9 : Hid (Calls Tryz.prog 15 #[.pointer (some ⟨g, 0, none⟩), .agg #[.int .u8 d.k, .string d.t, .int .i64 d.b, .int .i64 d.i, .bool d.e]] wr fun e w' => e = .returned (.tuple #[.string TL, .int .i64 0]) ∧ Hid (∃ own', W9 R W w' own' g N s' (.slice pb s.pr.sk.out.length cb) s.pr.sk.out (.slice (some ⟨b, off, none⟩) A.length c1) A)) := by
          refine KP9.mono ?_
          rintro e w' ⟨rfl, own', a1, a2⟩
          exact ⟨rfl, own', h9.sd a1 a2⟩
        obtain ⟨wl, hwle⟩ : ∃ wl, s'.wt.length = wl := ⟨_, rfl⟩
        have HH9 : Hid (∀ V, Hid (∃ own', W9 R W V own' g N s' (.slice pb s.pr.sk.out.length cb) s.pr.sk.out (.slice (some ⟨b, off, none⟩) A.length c1) A) → Calls Tryz.prog 16 #[.pointer (some ⟨g, 0, none⟩)] V fun e w' => e = .returned (.int .i64 (wl : Nat)) ∧ Hid (∃ own', W9 R W w' own' g N s' (.slice pb s.pr.sk.out.length cb) s.pr.sk.out (.slice (some ⟨b, off, none⟩) A.length c1) A)) := fun V hV => by
          obtain ⟨own', h⟩ := hV.out
          refine (h.a9.held HC.out (by omega)).mono ?_
          rintro e w' ⟨rfl, a1, a2⟩
          exact ⟨by rw [hwle], own', h.below HC.out a2⟩
        have q3 : ¬ ((wl : Int) < 0) := by omega
        have q4 : ¬ ((k : Int) + 1 < wl) := by omega
        obtain ⟨O, hO⟩ : ∃ O, s.pr.sk.out = O := ⟨_, rfl⟩
        rw [hO] at HP9 HH9 HN9 htl ⊢
        clear HI h9 hsin hbu hz hat hob hd htk hL2 he0 hsin' hbu' hud KP9 hpre hs' hwl hTL hlsb hob' hwle huk huk2 hO
        obtain ⟨dk, dt, db, di, de⟩ := d
        simp only at c0 c1' c2 c3 c4 HP9
        go_wp2_with (first | (go_at_call 15; refine HP9.out.mono ?_; rintro e w5 ⟨rfl, K5⟩) | (go_at_call 16; have hg := K6; clear hg; refine (HH9.out _ K6).mono ?_; rintro e w7 ⟨rfl, K7⟩; obtain ⟨own7, k7⟩ := K7.out; have HK7 : Hid (W9 R W w7 own7 g N s' (.slice pb O.length cb) O (.slice (some ⟨b, off, none⟩) A.length c1) A) := k7; clear k7 K7) | (go_at_call 16; refine (HH9.out _ K5).mono ?_; rintro e w6 ⟨rfl, K6⟩) | (at_builtin; refine app_strG rfl _ _ rfl W.heap.size _ O TL rfl HK7.out.rb rfl (by omega) HK7.out.a9.be.size ?_; intro v8 w8 hr8 hg8 hat8; have HK8 : Hid (W9 R W w8 own7 g N s' v8 (O ++ lsb TL) (.slice (some ⟨b, off, none⟩) A.length c1) A) := HK7.out.app HC.out HT.out hr8 hg8 hat8; clear hr8 hg8 hat8))
        exact ⟨⟨k + 1, hlt, by go_num, own7, s', by rw [HN9.out.2.2]; exact HK8.out, HN9.out.1, HN9.out.2.1⟩, by simp [intOf]; omega⟩
      · obtain rfl : k = A.length := by omega
        have q1 : ¬ ((A.length : Int) < A.length) := by omega
        rw [List.take_length] at hsin hbu huk hob
        obtain ⟨e1, e2, e3, e4⟩ := sin_close hN2 hsin (hz rfl)
        have KC9 := h9.a9.close HC.out hN2 hbu huk (by omega)
        rw [e1] at KC9
        have hpre := told_app (s.close_pre N)
        have hbu' := hbu.close (N := N)
        obtain ⟨s', hs'⟩ : ∃ s', (s.close N).1 = s' := ⟨_, rfl⟩
        rw [hs'] at KC9 hpre e2 e3 hbu'
        obtain ⟨TL, hTL⟩ : ∃ TL : ByteArray, ⟨(s.told s').toArray⟩ = TL := ⟨_, rfl⟩
        rw [hTL] at KC9
        have hlsb : lsb TL = s.told s' := by rw [← hTL]; exact ls_mk _
        have hob' := hbu'.outb
        have htl : s.pr.sk.out.length + TL.size ≤ 268435456 := by
          have := congrArg List.length hpre
          rw [List.length_append, ← hlsb, ls_len] at this
          omega
        have hfin : s.pr.sk.out ++ lsb TL = wout N A := by rw [hlsb, ← hpre, e2, pst_end]
        have HFI : Hid (s.pr.sk.out ++ lsb TL = wout N A) := hfin
        have HC9 : Hid (Calls Tryz.prog 17 #[.pointer (some ⟨g, 0, none⟩)] wr fun e w' => e = .returned (.tuple #[.string TL, .int .i64 0]) ∧ Hid (∃ own', W9 R W w' own' g N s' (.slice pb s.pr.sk.out.length cb) s.pr.sk.out (.slice p1 A.length c1) A)) := by
          refine KC9.mono ?_
          rintro e w' ⟨rfl, own', a1, a2⟩
          exact ⟨rfl, own', h9.sd a1 a2⟩
        have HW0 : Hid (s'.wt.length = 0) := by show _ = _; rw [e3]; rfl
        obtain ⟨O, hO⟩ : ∃ O, s.pr.sk.out = O := ⟨_, rfl⟩
        rw [hO] at HC9 HFI htl ⊢
        clear HI h9 hsin hbu hz hat hob e1 e2 e3 e4 KC9 hpre hbu' hs' hTL hlsb hob' hfin hO huk
        go_wp2_with fail
        refine HC9.out.mono ?_
        rintro e w5 ⟨rfl, K5⟩
        obtain ⟨own5, k5⟩ := K5.out
        have HK5 : Hid (W9 R W w5 own5 g N s' (.slice pb O.length cb) O (.slice p1 A.length c1) A) := k5
        clear k5 K5
        go_wp2_with (at_builtin; refine app_strG rfl _ _ rfl W.heap.size _ O TL rfl HK5.out.rb rfl (by omega) HK5.out.a9.be.size ?_; intro v8 w8 hr8 hg8 hat8; have HK8 : Hid (W9 R W w8 own5 g N s' v8 (wout N A) (.slice p1 A.length c1) A) := (by rw [← HFI.out]; exact HK5.out.app HC.out HT.out hr8 hg8 hat8); obtain ⟨p8, c8, e8, _, _⟩ := hr8.shape; rw [List.length_append] at e8; subst e8; have hcv := conv_bytes w8 W.heap.size _ _ hr8; rw [HFI.out, HWT.out] at hcv; have HH8 : Hid (∀ V, V = w8 → Calls Tryz.prog 16 #[.pointer (some ⟨g, 0, none⟩)] V fun e w' => e = .returned (.int .i64 0) ∧ Below W.heap.size W w') := (fun V hV => by subst hV; refine (HK8.out.a9.held HC.out (by rw [HW0.out]; decide)).mono ?_; rintro e w' ⟨rfl, a1, a2⟩; exact ⟨by rw [HW0.out]; rfl, a1.be⟩); clear hr8 hg8 hat8)
        go_wp2_with (go_at_call 16; refine (HH8.out _ rfl).mono ?_; rintro e w9 ⟨rfl, hb9⟩)
        go_ret
        exact ⟨rfl, hb9⟩
end Go.Proofs.YtmjhfabdbajchaaGreatDoor
