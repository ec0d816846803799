import Derived.Test.YtkigadnkclkopaaGreatQw
import Derived.Test.YtkigadnkclkopaaGreatPb
import Derived.Test.YtkigadnkclkopaaGreatG9
import Derived.Test.YtkigadnkclkopaaGreatG8
import Derived.Test.YtkigadnkclkopaaGreatCh
set_option linter.unusedVariables false
set_option linter.unusedSimpArgs false
namespace Go.Proofs.YtkigadnkclkopaaGreat
open Go.RowKit

/-! SyntaxEvents. -/
theorem dn_below {b : Nat} {w v : World} (h : Below b w v) : ∀ m, Below b w (v.drewN m)
  | 0 => h
  | m + 1 => (dn_below h m).drew
set_option maxRecDepth 100000 in
set_option maxHeartbeats 8000000 in
theorem events_walk (W : World) (ao : Option Addr) (l : List Tv) (cap : Nat) (h : Lt W ao l) (h1 : l.length ≤ cap) (h2 : cap ≤ maxLen) :
    Calls Tryz.prog 4 #[.slice ao l.length cap] W fun r w' => r = .returned (.bool true) ∧ Below W.heap.size W w' := by
  have HAw : Hid (∀ V, Calls Tryz.prog 5 #[] V fun r w' => r = .returned (.bool true) ∧ Below V.heap.size V w') := sawake_any
  have HLt : Hid (∀ V, Below W.heap.size W V → Lt V ao l) := fun V hb => h.below hb
  clear h
  go_enter Tryz.func4, Tryz.ntmps4
  go_wp2_with fail
  refine (HAw.out _).mono ?_
  rintro r w3 ⟨rfl, hb3⟩
  have H3 : Hid (Below W.heap.size W w3) := hb3
  clear hb3
  by_cases hm : 4194304 < l.length
  · have q1 : (l.length : Int) > 4194304 := by omega
    go_wp2_with fail
    go_ret
    exact ⟨rfl, H3.out⟩
  · have q1 : ¬ ((l.length : Int) > 4194304) := by omega
    obtain ⟨E, code, a, m1⟩ := alr_ex l (.live [] 0) good_new
    have HP : Hid (Calls Tryz.prog 6 #[.slice ao l.length cap] w3 (Prg w3 E code a)) := prg_any (HLt.out _ H3.out) (by omega) m1
    go_wp2_with fail
    refine HP.out.mono ?_
    rintro e w4 ⟨hb4, n, p, cv, rfl, ht, hn0, hn1⟩
    obtain ⟨at', hat⟩ : ∃ at' : Nat, (if code = 0 then 0 else a) = at' := ⟨_, rfl⟩
    rw [hat]
    obtain ⟨V4, eV4⟩ : ∃ V4, w4.alloc (NdB n.k n.d (.slice p n.c.length cv)) = V4 := ⟨_, rfl⟩
    have H4 : Hid (∀ V, Below V4.heap.size V4 V → Below W.heap.size W V ∧ V.heap[w4.heap.size]? = some (NdB n.k n.d (.slice p n.c.length cv)) ∧ Nv V (ndv n.k n.d (.slice p n.c.length cv)) n) := fun V hb => by
      have hn : Below w4.heap.size w4 V4 := by rw [← eV4]; exact (Below.refl _ _).alloc (Nat.le_refl _) _
      have hx : Below w4.heap.size w4 V := hn.trans (hb.mono hn.size)
      have hy : Below W.heap.size W w4 := H3.out.trans (hb4.mono H3.out.size)
      exact ⟨hy.trans (hx.mono hy.size), blk_below (by rw [← eV4]; exact new_at _ _) hb, TN.see n _ (TN.kp (Kp.of_below (S := fun _ => False) hx) (fun _ _ h => h) n _ ht)⟩
    have HM : Hid ((code = 0 → bld E [] = some n) ∧ Alr (.live [] 0) l E code a ∧ (if code = 0 then 0 else a) = at' ∧ l.length ≤ 4194304) := ⟨hn0, m1, hat, by omega⟩
    have HNew : Hid (∀ V, Calls Tryz.prog 10 #[] V fun r w' => r = .returned (pt V.heap.size) ∧ Pq (fun k => k = V.heap.size) w' V.heap.size (.live [] 0) ∧ Below V.heap.size V w' ∧ w'.heap.size = V.heap.size + 1) := new_st
    dsimp only [NdB] at eV4
    clear hb4 ht hn0 hn1 m1 HP hat
    go_wp2_with fail
    try rw [eV4]
    refine (HNew.out _).mono ?_
    rintro r w5 ⟨rfl, hq, hb, hs1⟩
    obtain ⟨g, hg⟩ : ∃ g, V4.heap.size = g := ⟨_, rfl⟩
    have HI : Hid (∃ S, PAI V4 V4.heap.size nilS [] (.live [] 0) S w5) := ⟨_, hb, hq, good_new, fun k e => by rw [e]; omega, re_nil _, fun k e => by cases e⟩
    rw [hg] at HI ⊢
    clear hq hb hs1 hg HNew eV4
    go_wp2_with fail
    go_loopw [8, 9, 10, 11] (fun v i _ _ wr => ∃ j : Nat, j ≤ l.length ∧ i = .int .i64 j ∧ Hid (∃ S st E0 E1 k1, PAI V4 g v E0 st S wr ∧ Alr st (l.drop j) E1 code k1 ∧ E = E0 ++ E1 ∧ a = j + k1 ∧ E0.length ≤ 30000 * j)) (fun _ i _ _ _ => l.length - (intOf i).toNat)
    case atStart =>
      obtain ⟨S, hI⟩ := HI.out
      exact ⟨0, Nat.zero_le _, rfl, S, _, [], E, a, hI, HM.out.2.1, rfl, by omega, by simp⟩
    case round =>
      obtain ⟨j, hj, rfl, HJ⟩ := hrel
      obtain ⟨S, st, E0, E1, k1, hI, hR, hE, hk, hz⟩ := HJ.out
      obtain ⟨pv, cpv, hv, _⟩ := hI.re.shape
      subst hv
      by_cases hlt : j < l.length
      · have q1 : (j : Int) < l.length := by omega
        have q0 : (0 : Int) ≤ j := by omega
        obtain ⟨t, ht⟩ : ∃ t, l[j]? = some t := ⟨_, List.getElem?_eq_getElem hlt⟩
        have hdr : l.drop j = t :: l.drop (j + 1) := by
          obtain ⟨a1, a2⟩ := List.getElem?_eq_some_iff.1 ht
          rw [List.drop_eq_getElem_cons a1, a2]
        obtain ⟨b, off, rfl, x0, x1, x2, x3, x4, x5⟩ := (HLt.out wr (H4.out wr hI.bel).1).cell6 ht
        rw [hdr] at hR
        clear HJ HI hdr ht
        rcases hR.inv with ⟨ev, st', hp, hc, rfl, rfl⟩ | ⟨ev, st', E2, k2, hp, hR2, rfl, rfl⟩
        · have HP : Hid (Calls Tryz.prog 11 #[pt g, .agg #[.int .u8 t.k, .string t.t, .int .i64 t.a, .int .i64 t.l, .int .i64 t.c, .int .i64 t.f]] wr fun r w' => ∃ v, r = .returned (.tuple #[v, .int .i64 code]) ∧ Pa S g wr w' v ev st') := pput_any hI.pq (fun k hk => (hI.sB k hk).2) hI.gd.ok hp
          have HN : Hid (∀ w' x, Pa S g wr w' x ev st' → PAJ V4 g (.slice pv E0.length cpv) x E0 ev st' w') := fun w' x hx => hI.call hx (put_keep hI.gd hp).1
          have q5 : (code != 0) = true := by simpa using hc
          have q6 : at' = j := by
            have := HM.out.2.2.1
            rw [if_neg hc] at this
            omega
          subst q6
          clear hI hR hp hc hE hk
          go_wp2_with fail
          refine HP.out.mono ?_
          rintro r w6 ⟨x, rfl, hx⟩
          have H6 : Hid (PAJ V4 g (.slice pv E0.length cpv) x E0 ev st' w6) := HN.out _ _ hx
          obtain ⟨px, cx, hxs, _⟩ := hx.re.shape
          subst hxs
          clear hx
          go_wp2_with fail
          obtain ⟨S2, hI2⟩ := H6.out.ex
          go_ret
          exact ⟨by simp, (H4.out _ hI2.bel).1⟩
        · have HP : Hid (Calls Tryz.prog 11 #[pt g, .agg #[.int .u8 t.k, .string t.t, .int .i64 t.a, .int .i64 t.l, .int .i64 t.c, .int .i64 t.f]] wr fun r w' => ∃ v, r = .returned (.tuple #[v, .int .i64 0]) ∧ Pa S g wr w' v ev st') := pput_any hI.pq (fun k hk => (hI.sB k hk).2) hI.gd.ok hp
          have HN : Hid (∀ w' x, Pa S g wr w' x ev st' → PAJ V4 g (.slice pv E0.length cpv) x E0 ev st' w') := fun w' x hx => hI.call hx (put_keep hI.gd hp).1
          have hel := (put_keep hI.gd hp).2.1
          have HK : Hid (Alr st' (l.drop (j + 1)) E2 code k2 ∧ E = (E0 ++ ev) ++ E2 ∧ a = (j + 1) + k2 ∧ (E0 ++ ev).length ≤ 30000 * (j + 1) ∧ E0.length + ev.length ≤ 1000000000000) := ⟨hR2, by rw [hE, List.append_assoc], by omega, by simp; omega, by omega⟩
          clear hI hR hp hE hk hR2 hel
          go_wp2_with fail
          refine HP.out.mono ?_
          rintro r w6 ⟨x, rfl, hx⟩
          have H6 : Hid (PAJ V4 g (.slice pv E0.length cpv) x E0 ev st' w6) := HN.out _ _ hx
          obtain ⟨px, cx, hxs, _⟩ := hx.re.shape
          subst hxs
          clear hx
          go_wp2_with (at_builtin; refine app_evs (by rfl) _ _ (by rfl) (.slice pv E0.length cpv) (.slice px ev.length cx) E0 ev (by rfl) H6.out.rv (by rfl) H6.out.rx HK.out.2.2.2.2 ?_; intro v3 w7 h3 k3 n3; have H7 : Hid (∃ S, PAI V4 g v3 (E0 ++ ev) st' S w7) := H6.out.fin _ _ h3 k3 n3; clear h3 k3 n3)
          obtain ⟨S3, hI3⟩ := H7.out
          exact ⟨⟨j + 1, hlt, by go_num, S3, st', E0 ++ ev, E2, k2, hI3, HK.out.1, HK.out.2.1, HK.out.2.2.1, HK.out.2.2.2.1⟩, by simp [intOf]; omega⟩
      · obtain rfl : j = l.length := by omega
        have q1 : ¬ ((l.length : Int) < l.length) := by omega
        rw [List.drop_length] at hR
        obtain ⟨hc, rfl⟩ := hR.end
        have HP : Hid (Calls Tryz.prog 12 #[pt g] wr fun r w' => ∃ v, r = .returned (.tuple #[v, .int .i64 code]) ∧ Pa S g wr w' v E1 .shut) := close_any hI.pq (fun k hk => (hI.sB k hk).2) hI.gd.ok hc
        have HN : Hid (∀ w' x, Pa S g wr w' x E1 .shut → PAJ V4 g (.slice pv E0.length cpv) x E0 E1 .shut w') := fun w' x hx => hI.call hx trivial
        have HK : Hid (E = E0 ++ E1 ∧ E0.length + E1.length ≤ 1000000000000) := ⟨hE, by
          have h1 : E1.length ≤ 1 := by cases hc <;> simp
          omega⟩
        have hal : a = l.length := by omega
        clear hI hR hE hk hc HJ HI
        by_cases hcd : code = 0
        · subst hcd
          have hat0 : at' = 0 := by have := HM.out.2.2.1; simpa using this.symm
          obtain ⟨u1, u2⟩ := evs_build (HM.out.1 rfl)
          have hev : evs n = E0 ++ E1 := by rw [u1, (alr_toks HM.out.2.1).2]; exact HK.out.1
          have hEl : (E0 ++ E1).length ≤ 1000000000 := by have := alr_len HM.out.2.1; rw [HK.out.1] at this; have := HM.out.2.2.2; omega
          go_wp2_with fail
          refine HP.out.mono ?_
          rintro r w6 ⟨x, rfl, hx⟩
          have H6 : Hid (PAJ V4 g (.slice pv E0.length cpv) x E0 E1 .shut w6) := HN.out _ _ hx
          obtain ⟨px, cx, hxs, _⟩ := hx.re.shape
          subst hxs
          clear hx
          go_wp2_with (at_builtin; refine app_evs (by rfl) _ _ (by rfl) (.slice pv E0.length cpv) (.slice px E1.length cx) E0 E1 (by rfl) H6.out.rv (by rfl) H6.out.rx HK.out.2 ?_; intro v3 w7 h3 k3 n3; have H7 : Hid (∃ S, PAI V4 g v3 (E0 ++ E1) .shut S w7) := H6.out.fin _ _ h3 k3 n3; have H7b : Hid (Below V4.heap.size V4 w7) := (H7.out.elim fun _ h => h.bel); clear h3 k3 n3; obtain ⟨⟨j0, j1, j2, j3, j4, j5, j6, j7⟩, jl⟩ := nd_cells (H4.out w7 H7b.out).2.1)
          have HE : Hid (Calls Tryz.prog 13 #[ndv n.k n.d (.slice p n.c.length cv)] w7 fun r w' => ∃ v', r = .returned v' ∧ BI w7 v' (E0 ++ E1) w') := by
            have := events_any n _ w7 (H4.out w7 H7b.out).2.2 (by rw [hev]; exact hEl)
            rw [hev] at this
            exact this
          refine HE.out.mono ?_
          rintro r w8 ⟨v4, rfl, hB⟩
          obtain ⟨F, hF⟩ : ∃ F, E0 ++ E1 = F := ⟨_, rfl⟩
          rw [hF] at hB H7 hEl
          obtain ⟨p8, c8, e8, hle8, _, _, _⟩ := Le.row hB.re
          obtain ⟨S7, hI7⟩ := H7.out
          obtain ⟨p7, c7, e7, hle7, _, _, _⟩ := Le.row (hI7.re.below hB.bel)
          have HLe : Hid (∀ V, Below w8.heap.size w8 V → Le V p7 F ∧ Le V p8 F) := fun V hb => ⟨hle7.below hb, hle8.below hb⟩
          have HBe : Hid (Below W.heap.size W w8) := by
            have q := (H4.out w7 H7b.out).1
            exact q.trans (hB.bel.mono q.size)
          subst e7 e8
          have hFl : (F.length : Int) ≤ 1000000000 := by omega
          clear hB hle7 hle8 hI7 H7 H7b HE HK HN HP H6 H4 HM HLt j0 j1 j2 j3 j4 j5 j6 j7 jl hev u1 u2 hF hEl
          go_wp2_with fail
          go_loopw [15] (fun iv wr => ∃ j : Nat, j ≤ F.length ∧ iv = .int .i64 j ∧ Hid (Below w8.heap.size w8 wr)) (fun iv _ => F.length - (intOf iv).toNat)
          case atStart => exact ⟨0, Nat.zero_le _, rfl, Below.refl _ _⟩
          case round =>
            obtain ⟨j, hj, rfl, HJ⟩ := hrel
            by_cases hlt : j < F.length
            · have y1 : (j : Int) < F.length := by omega
              have y2 : (0 : Int) ≤ j := by omega
              obtain ⟨e, he⟩ : ∃ e, F[j]? = some e := ⟨_, List.getElem?_eq_getElem hlt⟩
              obtain ⟨b1, o1, rfl, c0, c1, c2, c3, c4, c5, c6, c7'⟩ := (HLe.out _ HJ.out).1 j e he
              obtain ⟨b2, o2, rfl, d0, d1, d2, d3, d4, d5, d6, d7⟩ := (HLe.out _ HJ.out).2 j e he
              have cl := World.block_lt_of_cell? _ _ c0
              have dl := World.block_lt_of_cell? _ _ d0
              clear he
              go_wp2_with fail
              go_quiet (fail)
              go_wp2_with fail
              exact ⟨⟨j + 1, hlt, by go_num, dn_below HJ.out _⟩, by simp [intOf]; omega⟩
            · obtain rfl : j = F.length := by omega
              have y1 : ¬ ((F.length : Int) < F.length) := by omega
              go_wp2_with fail
              go_ret
              exact ⟨rfl, HBe.out.trans (HJ.out.mono HBe.out.size)⟩
        · have q5 : (code != 0) = true := by simpa using hcd
          have q6 : at' = l.length := by
            have := HM.out.2.2.1
            rw [if_neg hcd] at this
            omega
          subst q6
          have q7 : code = 121 := (alr_at good_new ini_new HM.out.2.1 hcd).1.2 hal
          subst q7
          go_wp2_with fail
          refine HP.out.mono ?_
          rintro r w6 ⟨x, rfl, hx⟩
          have H6 : Hid (PAJ V4 g (.slice pv E0.length cpv) x E0 E1 .shut w6) := HN.out _ _ hx
          obtain ⟨px, cx, hxs, _⟩ := hx.re.shape
          subst hxs
          clear hx
          go_wp2_with fail
          obtain ⟨S2, hI2⟩ := H6.out.ex
          go_ret
          exact ⟨by simp, (H4.out _ hI2.bel).1⟩

end Go.Proofs.YtkigadnkclkopaaGreat
