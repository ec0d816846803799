import Derived.Test.YtkigadnkclkopaaPd
import Derived.Test.YtkigadnkclkopaaIk
set_option linter.unusedVariables false
set_option linter.unusedSimpArgs false
namespace Go.Proofs.Ytkigadnkclkopaa
open Go.RowKit Go.Shelf
attribute [local go_sem] Oper.semAt_some

/-! SyntaxWhole. -/
abbrev TsB (ao : Option Addr) (n cap : Nat) : Obj := .cells #[.slice ao n cap] 22
theorem resW {a : Act} {V : World} {b : Nat} {r : Bool} (ht : a.tmps[2]? = some (.pointer (some ⟨b, 0, none⟩))) (hc : V.heap[b]? = some (BoB r)) : (results Try.f3 a.tmps).run Try.prog V = .ok (.bool r) V := by
  have h0 : V.cell? ⟨b, 0, none⟩ = some (.bool r) := blk_cell hc rfl
  simp [results, Try.f3, go_sem, ht, h0]
/-- The list that is made. -/
structure WI (V4 : World) (l : List Tv) (at' : Nat) (j : Nat) (v : Value) (m : Nat) (V : World) : Prop where
  bel : Below V4.heap.size V4 V
  rt : Rt V4.heap.size V v (plL 0 (l.take j))
  ah : m = (tks ((l.take j).take at')).length
  jl : j ≤ l.length
theorem take_one {l : List Tv} {j : Nat} {t : Tv} (h : l[j]? = some t) : l.take (j + 1) = l.take j ++ [t] := by rw [List.take_add_one, h]; rfl
theorem plL_com {l : List Tv} {j : Nat} {t : Tv} (h : l[j]? = some t) (hc : cmm t = true) : plL 0 (l.take (j + 1)) = plL 0 (l.take j) := by
  rw [take_one h, plL_app]
  simp [plL, hc]
theorem plL_tok {l : List Tv} {j : Nat} {t : Tv} (h : l[j]? = some t) (hc : cmm t = false) : plL 0 (l.take (j + 1)) = plL 0 (l.take j) ++ [plT j t] := by
  have hj : j < l.length := (List.getElem?_eq_some_iff.1 h).1
  rw [take_one h, plL_app]
  have : (l.take j).length = j := by rw [List.length_take]; omega
  simp [plL, hc, this]
theorem ah_com {l : List Tv} {j at' : Nat} {t : Tv} (h : l[j]? = some t) (hc : cmm t = true) : (tks ((l.take (j + 1)).take at')).length = (tks ((l.take j).take at')).length := by
  have hj : j < l.length := (List.getElem?_eq_some_iff.1 h).1
  rw [List.take_take, List.take_take]
  by_cases ha : at' ≤ j
  · rw [Nat.min_eq_left (by omega), Nat.min_eq_left ha]
  · rw [Nat.min_eq_right (by omega), Nat.min_eq_right (by omega), take_one h]
    simp [tks, hc]
theorem ah_tok {l : List Tv} {j at' : Nat} {t : Tv} (h : l[j]? = some t) (hc : cmm t = false) : (tks ((l.take (j + 1)).take at')).length = (tks ((l.take j).take at')).length + (if j < at' then 1 else 0) := by
  have hj : j < l.length := (List.getElem?_eq_some_iff.1 h).1
  rw [List.take_take, List.take_take]
  by_cases ha : j < at'
  · rw [if_pos ha, Nat.min_eq_right (by omega), Nat.min_eq_right (by omega), take_one h]
    simp [tks, hc]
  · rw [if_neg ha, Nat.min_eq_left (by omega), Nat.min_eq_left (by omega)]
    rfl
mutual
theorem ful_nsz : ∀ (n : Nd), Ful n → nsz n ≤ (evs n).length
  | .mk k d c, h => by
    rw [Ful] at h
    by_cases hk : k = 0
    · rw [if_pos hk] at h
      subst h
      have e : evs (.mk k d []) = [tkE d] := by simp [evs, hk]
      rw [e]
      simp [nsz, nszL]
    · rw [if_neg hk] at h
      have e : evs (.mk k d c) = ⟨1, k, tv0⟩ :: (evsL c ++ [⟨3, k, tv0⟩]) := by simp [evs, hk]
      have := fulL_nsz c h.2.2
      rw [e]
      simp [nsz]
      omega
theorem fulL_nsz : ∀ (c : List Nd), FulL c → nszL c ≤ (evsL c).length
  | [], _ => by simp [nszL]
  | n :: r, h => by
    simp only [FulL] at h
    have h1 := ful_nsz n h.1
    have h2 := fulL_nsz r h.2
    simp [nszL, evsL]
    omega
end
theorem whole_math {l : List Tv} {E : List Ev} {a : Nat} {n : Nd} (h : Alr (.live [] 0) l E 0 a) (hl : l.length ≤ 4194304) (hb : bld E [] = some n) : Ful n ∧ toks n = l ∧ dpt n ≤ 1000 ∧ nsz n ≤ 100000000 := by
  obtain ⟨c, h1, h2, h3⟩ := alr_tree h
  rw [h1] at hb
  cases hb
  obtain ⟨t1, t2⟩ := alr_toks h
  obtain ⟨e1, _⟩ := evs_build h1
  have hf : Ful (.mk 1 tv0 c) := by rw [Ful, if_neg (by decide)]; exact ⟨h2, rfl, h3⟩
  have hlen := alr_len h
  have hsz := ful_nsz _ hf
  rw [e1, t2] at hsz
  refine ⟨hf, ?_, bld_dpt h1 t2, by omega⟩
  rw [← toks_evs, e1, t2]
  exact t1
set_option maxRecDepth 100000 in
set_option maxHeartbeats 8000000 in
theorem whole_walk (W : World) (ao : Option Addr) (l : List Tv) (cap : Nat) (h : Lt W ao l) (h1 : l.length ≤ cap) (h2 : cap ≤ maxLen) :
    Calls Try.prog 3 #[.slice ao l.length cap] W fun r w' => r = .returned (.bool true) ∧ Below W.heap.size W w' := by
  have HAw : Hid (∀ V, Calls Try.prog 5 #[] V fun r w' => r = .returned (.bool true) ∧ Below V.heap.size V w') := sawake_any
  have HLt : Hid (∀ V, Below W.heap.size W V → Lt V ao l) := fun V hb => h.below hb
  obtain ⟨W2, eW2⟩ : ∃ W2, (W.alloc (TsB ao l.length cap)).alloc (BoB false) = W2 := ⟨_, rfl⟩
  have H2 : Hid (∀ V, Below W2.heap.size W2 V → Below W.heap.size W V ∧ V.heap[W.heap.size]? = some (TsB ao l.length cap) ∧ V.heap[W.heap.size + 1]? = some (BoB false)) := fun V hb => by
    have b4 : Below W.heap.size W (W.alloc (TsB ao l.length cap)) := (Below.refl _ _).alloc (Nat.le_refl _) _
    have b5 : Below (W.alloc (TsB ao l.length cap)).heap.size (W.alloc (TsB ao l.length cap)) W2 := by rw [← eW2]; exact (Below.refl _ _).alloc (Nat.le_refl _) _
    have z1 : (W.alloc (TsB ao l.length cap)).heap.size = W.heap.size + 1 := World.size_alloc ..
    have h1 : Below W.heap.size W W2 := b4.trans (b5.mono b4.size)
    have h3 : W2.heap[W.heap.size]? = some (TsB ao l.length cap) := blk_below (new_at _ _) b5
    have h4 : W2.heap[W.heap.size + 1]? = some (BoB false) := by rw [← eW2, ← z1]; exact new_at _ _
    exact ⟨h1.trans (hb.mono h1.size), blk_below h3 hb, blk_below h4 hb⟩
  have z2 : W2.heap.size = W.heap.size + 1 + 1 := by rw [← eW2]; simp [World.size_alloc]
  dsimp only [TsB, BoB] at eW2
  clear h
  refine (callsIn_wide (n := 0)).1 ?_
  refine callsIn_of_wp_marks Try.func3 rfl trivial (wpIn_wide.2 ?_) rfl
  simp only [Try.ntmps3, List.size_toArray, List.length_cons, List.length_nil, Nat.reduceAdd, Nat.reduceSub, Array.replicate_succ, Array.replicate_zero, List.push_toArray, List.append_toArray, List.nil_append, List.cons_append]
  go_wp2_with fail
  try rw [eW2]
  clear eW2
  refine (HAw.out _).mono ?_
  rintro r w3 ⟨rfl, hb3⟩
  have H3 : Hid (Below W2.heap.size W2 w3) := hb3
  obtain ⟨_, n1, n2⟩ := H2.out w3 hb3
  have i0 : w3.cell? ⟨W.heap.size, 0, none⟩ = some (.slice ao l.length cap) := blk_cell n1 rfl
  have il := blk_lt n1
  clear hb3
  by_cases hm : 4194304 < l.length
  · have q1 : (l.length : Int) > 4194304 := by omega
    have r0 : w3.cell? ⟨W.heap.size + 1, 0, none⟩ = some (.bool false) := blk_cell n2 rfl
    have r1 : w3.frozen? ⟨W.heap.size + 1, 0, none⟩ = false := blk_frozen n2
    have r2 := blk_lt n2
    have HF : Hid ((w3.setCell ⟨W.heap.size + 1, 0, none⟩ (.bool true)).heap[W.heap.size + 1]? = some (BoB true) ∧ Below W.heap.size W (w3.setCell ⟨W.heap.size + 1, 0, none⟩ (.bool true))) := ⟨blk_set n2 0 _, (H2.out w3 H3.out).1.setCell (by show _ ≤ W.heap.size + 1; omega) _⟩
    clear n1 n2
    go_wp2_with fail
    exact ⟨_, resW rfl HF.out.1, rfl, HF.out.2⟩
  · have q1 : ¬ ((l.length : Int) > 4194304) := by omega
    obtain ⟨E, code, a, m1⟩ := alr_ex l (.live [] 0) good_new
    obtain ⟨E', m2, m3⟩ := alr_plain (plL_pls l 0) m1
    have HP : Hid (∀ V, Below W.heap.size W V → Calls Try.prog 6 #[.slice ao l.length cap] V (Prg V E code a)) := fun V hb => prg_any (HLt.out V hb) (by omega) m1
    clear n1 n2
    go_wp2_with fail
    refine (HP.out _ (H2.out _ H3.out).1).mono ?_
    rintro e w4 ⟨hb4, n, p, cv, rfl, ht, hn0, hn1⟩
    obtain ⟨at', hat⟩ : ∃ at' : Nat, (if code = 0 then 0 else a) = at' := ⟨_, rfl⟩
    rw [hat]
    obtain ⟨V4, eV4⟩ : ∃ V4, w4.alloc (NdB n.k n.d (.slice p n.c.length cv)) = V4 := ⟨_, rfl⟩
    have H4 : Hid (∀ V, Below V4.heap.size V4 V → Below W2.heap.size W2 V ∧ V.heap[w4.heap.size]? = some (NdB n.k n.d (.slice p n.c.length cv)) ∧ TN (fun q => w3.heap.size ≤ q) V n (.slice p n.c.length cv)) := fun V hb => by
      have hn : Below w4.heap.size w4 V4 := by rw [← eV4]; exact (Below.refl _ _).alloc (Nat.le_refl _) _
      have hx : Below w4.heap.size w4 V := hn.trans (hb.mono hn.size)
      have hy : Below W2.heap.size W2 w4 := H3.out.trans (hb4.mono H3.out.size)
      exact ⟨hy.trans (hx.mono hy.size), blk_below (by rw [← eV4]; exact new_at _ _) hb, TN.kp (Kp.of_below (S := fun _ => False) hx) (fun _ _ h => h) n _ ht⟩
    have HM : Hid ((code = 0 → bld E [] = some n) ∧ (code ≠ 0 → n = .mk 0 tv0 [])) := ⟨hn0, hn1⟩
    have HA2 : Hid (Alr (.live [] 0) (plL 0 l) E' code (tks (l.take a)).length ∧ (code = 0 → Es E E') ∧ Alr (.live [] 0) l E code a) := ⟨m2, m3, m1⟩
    have HAT : Hid ((if code = 0 then 0 else a) = at') := hat
    dsimp only [NdB] at eV4
    clear i0 il hb4 ht hn0 hn1 m1 m2 m3 HP hat
    go_wp2_with fail
    try rw [eV4]
    clear eV4
    go_loopw [7, 8, 9] (fun v z i wr => ∃ (j m : Nat), i = .int .i64 j ∧ z = .int .i64 m ∧ Hid (WI V4 l at' j v m wr)) (fun _ _ i _ => l.length - (intOf i).toNat)
    case atStart => exact ⟨0, 0, rfl, rfl, Below.refl _ _, by simpa [plL] using rt_nil _ _, by simp [tks], Nat.zero_le _⟩
    case round =>
      obtain ⟨j, m, rfl, rfl, HJ⟩ := hrel
      have hjl0 := HJ.out.jl
      obtain ⟨x1, x2, x3⟩ := H2.out wr (H4.out wr HJ.out.bel).1
      have i0 : wr.cell? ⟨W.heap.size, 0, none⟩ = some (.slice ao l.length cap) := blk_cell x2 rfl
      have il := blk_lt x2
      by_cases hjl : j < l.length
      · obtain ⟨t, ht⟩ : ∃ t, l[j]? = some t := ⟨_, List.getElem?_eq_getElem hjl⟩
        obtain ⟨bb, off, rfl, y0, y1, y2, y3, y4, y5⟩ := HLt.out wr x1 j t ht
        have yl := World.block_lt_of_cell? _ _ y0
        have z1 : (j : Int) < l.length := by omega
        have z3 : (0 : Int) ≤ j := by omega
        cases hc : cmm t with
        | true =>
          have HX : Hid (WI V4 l at' (j + 1) u7 m wr) := ⟨HJ.out.bel, by rw [plL_com ht hc]; exact HJ.out.rt, by rw [ah_com ht hc]; exact HJ.out.ah, hjl⟩
          rw [cmm_is] at hc
          clear x1 x2 x3 ht
          cases h7 : (t.k == 7) with
          | true =>
            go_wp2_with fail
            exact ⟨⟨j + 1, m, by go_num, rfl, HX.out⟩, by simp [intOf]; omega⟩
          | false =>
            have h8 : (t.k == 8) = true := by rw [h7] at hc; simpa using hc
            go_wp2_with fail
            exact ⟨⟨j + 1, m, by go_num, rfl, HX.out⟩, by simp [intOf]; omega⟩
        | false =>
          obtain ⟨pv, cpv, hu7, _, _⟩ := HJ.out.rt.shape
          obtain ⟨pn, hpn⟩ : ∃ pn, (plL 0 (l.take j)).length = pn := ⟨_, rfl⟩
          rw [hpn] at hu7
          have hpl : pn ≤ 4194304 := by have := plL_len (l.take j) 0; rw [List.length_take] at this; omega
          obtain ⟨V5, e5⟩ : ∃ V5, wr.alloc (TokB (plT j t)) = V5 := ⟨_, rfl⟩
          have hV5 : Below wr.heap.size wr V5 ∧ V5.heap[wr.heap.size]? = some (TokB (plT j t)) := by
            rw [← e5]
            exact ⟨(Below.refl _ _).alloc (Nat.le_refl _) _, new_at _ _⟩
          obtain ⟨k0, k1, k2, k3, k4, k5⟩ := tk_cells hV5.2
          have kl := blk_lt hV5.2
          have HB5 : Hid (Below wr.heap.size wr V5) := hV5.1
          have HRt : Hid (∀ V, Below wr.heap.size wr V → Rt V4.heap.size V (.slice pv pn cpv) (plL 0 (l.take j))) := fun V hb => by rw [← hu7]; exact HJ.out.rt.below hb
          have HX : Hid (∀ V3 w6 v6, Below wr.heap.size wr V3 → Rt V4.heap.size w6 v6 (plL 0 (l.take j) ++ [plT j t]) → Below V4.heap.size V3 w6 → WI V4 l at' (j + 1) v6 (m + if j < at' then 1 else 0) w6) := fun V3 w6 v6 hb hr hb6 => by
            have hbx := HJ.out.bel.trans (hb.mono HJ.out.bel.size)
            exact ⟨hbx.trans hb6, by rw [plL_tok ht hc]; exact hr, by rw [ah_tok ht hc, ← HJ.out.ah], hjl⟩
          have hB4 : V4.heap.size ≤ wr.heap.size := HJ.out.bel.size
          have hm0 : m ≤ 4194304 := by have := HJ.out.ah; have h9 := tks_le ((l.take j).take at'); rw [List.length_take, List.length_take] at h9; omega
          have h7 : (t.k == 7) = false := by rw [cmm_is] at hc; cases h : (t.k == 7) <;> simp_all
          have h8 : (t.k == 8) = false := by rw [cmm_is] at hc; cases h : (t.k == 8) <;> simp_all
          subst hu7
          dsimp only [TokB, plT] at e5
          dsimp only [plT] at k0 k1 k2 k3 k4 k5
          have HN5 : Hid (∀ V o, Below wr.heap.size wr V → Below wr.heap.size wr (V.alloc o)) := fun V o hb => hb.alloc hb.size _
          clear x1 x2 x3 ht hV5 hc HJ
          have hpln : (plL 0 (l.take j)).length ≤ 1000000000 := by omega
          subst hpn
          by_cases hja : j < at'
          · have hja2 : (j : Int) < at' := by omega
            rw [if_pos hja] at HX
            go_upto_region 14 with fail
            try rw [e5]
            go_wp2_with (at_builtin; refine app_tok (by rfl) _ _ (by rfl) V4.heap.size (.slice pv _ cpv) (plL 0 (l.take j)) (plT j t) (by rfl) (HRt.out _ (HN5.out _ _ HB5.out)) V5.heap.size 1 (by rfl) (new_at _ _) hpln (Nat.le_trans hB4 (HN5.out _ _ HB5.out).size) ?_; intro v6 w6 hr6 hb6 _ _; have HW6 := show Hid _ from HX.out _ w6 v6 (HN5.out _ _ HB5.out) hr6 hb6; obtain ⟨p6, c6, hv6, _⟩ := hr6.shape; rw [List.length_append, List.length_singleton] at hv6; subst hv6; clear hr6 hb6)
            exact ⟨⟨j + 1, m + 1, by go_num, by go_num, HW6.out⟩, by simp [intOf]; omega⟩
          · have hja2 : ¬ ((j : Int) < at') := by omega
            rw [if_neg hja, Nat.add_zero] at HX
            go_upto_region 14 with fail
            try rw [e5]
            go_wp2_with (at_builtin; refine app_tok (by rfl) _ _ (by rfl) V4.heap.size (.slice pv _ cpv) (plL 0 (l.take j)) (plT j t) (by rfl) (HRt.out _ (HN5.out _ _ HB5.out)) V5.heap.size 1 (by rfl) (new_at _ _) hpln (Nat.le_trans hB4 (HN5.out _ _ HB5.out).size) ?_; intro v6 w6 hr6 hb6 _ _; have HW6 := show Hid _ from HX.out _ w6 v6 (HN5.out _ _ HB5.out) hr6 hb6; obtain ⟨p6, c6, hv6, _⟩ := hr6.shape; rw [List.length_append, List.length_singleton] at hv6; subst hv6; clear hr6 hb6)
            exact ⟨⟨j + 1, m, by go_num, rfl, HW6.out⟩, by simp [intOf]; omega⟩
      · obtain rfl : j = l.length := by omega
        have z1 : ¬ ((l.length : Int) < l.length) := by omega
        have hrt := HJ.out.rt
        have hma := HJ.out.ah
        rw [List.take_length] at hrt hma
        have HMA := show Hid _ from hma
        clear hma
        obtain ⟨p7, c7, hu7, hlt7, _, _, _⟩ := Lt.row hrt
        obtain ⟨pn, hpn⟩ : ∃ pn, (plL 0 l).length = pn := ⟨_, rfl⟩
        have hpl : pn ≤ 4194304 := by have := plL_len l 0; omega
        have HP2 : Hid (Calls Try.prog 6 #[.slice p7 pn c7] wr (Prg wr E' code (tks (l.take a)).length)) := by rw [← hpn]; exact prg_any hlt7 (by omega) HA2.out.1
        have HJ2 : Hid (Below V4.heap.size V4 wr) := HJ.out.bel
        rw [hpn] at hu7
        subst hu7
        clear hrt hlt7 HJ x1 x2 x3 hpn
        go_wp2_with fail
        refine HP2.out.mono ?_
        rintro e w8 ⟨hb8, n2, p2, cv2, rfl, ht2, hn2, -⟩
        obtain ⟨pl2, hpl2⟩ : ∃ pl2 : Nat, (if code = 0 then 0 else (tks (l.take a)).length) = pl2 := ⟨_, rfl⟩
        rw [hpl2]
        obtain ⟨V9, e9⟩ : ∃ V9, w8.alloc (NdB n2.k n2.d (.slice p2 n2.c.length cv2)) = V9 := ⟨_, rfl⟩
        have H9 : Hid (∀ V, Below V9.heap.size V9 V → Below V4.heap.size V4 V ∧ V.heap[w8.heap.size]? = some (NdB n2.k n2.d (.slice p2 n2.c.length cv2)) ∧ TN (fun q => wr.heap.size ≤ q) V n2 (.slice p2 n2.c.length cv2)) := fun V hb => by
          have hn : Below w8.heap.size w8 V9 := by rw [← e9]; exact (Below.refl _ _).alloc (Nat.le_refl _) _
          have hx : Below w8.heap.size w8 V := hn.trans (hb.mono hn.size)
          have hy : Below V4.heap.size V4 w8 := HJ2.out.trans (hb8.mono HJ2.out.size)
          exact ⟨hy.trans (hx.mono hy.size), blk_below (by rw [← e9]; exact new_at _ _) hb, TN.kp (Kp.of_below (S := fun _ => False) hx) (fun _ _ h => h) n2 _ ht2⟩
        have H90 := H9.out V9 (Below.refl _ _)
        obtain ⟨g1, g2, g3⟩ := H4.out V9 H90.1
        obtain ⟨f1, f2, f3⟩ := H2.out V9 g1
        have i0 : V9.cell? ⟨W.heap.size, 0, none⟩ = some (.slice ao l.length cap) := blk_cell f2 rfl
        have il := blk_lt f2
        have r0 : V9.cell? ⟨W.heap.size + 1, 0, none⟩ = some (.bool false) := blk_cell f3 rfl
        have r1 : V9.frozen? ⟨W.heap.size + 1, 0, none⟩ = false := blk_frozen f3
        have r2 := blk_lt f3
        dsimp only [NdB] at e9
        by_cases hcd : code = 0
        · subst hcd
          obtain ⟨u1, u2, u3, u4⟩ := whole_math HA2.out.2.2 (by omega) (HM.out.1 rfl)
          obtain ⟨_, _, _, u5⟩ := whole_math HA2.out.1 (by have := plL_len l 0; omega) (hn2 rfl)
          have hsame : same n n2 = true := es_same (HA2.out.2.1 rfl) (HM.out.1 rfl) (hn2 rfl)
          have HMa : Hid (Ful n ∧ toks n = l ∧ dpt n ≤ 1000 ∧ nsz n ≤ 100000000 ∧ nsz n2 ≤ 100000000 ∧ same n n2 = true) := ⟨u1, u2, u3, u4, u5, hsame⟩
          obtain ⟨V10, e10⟩ : ∃ V10, V9.alloc (InB 0) = V10 := ⟨_, rfl⟩
          have H10 : Hid (∀ V, Below V10.heap.size V10 V → Below V9.heap.size V9 V ∧ V.heap[V9.heap.size]? = some (InB 0)) := fun V hb => by
            have hn : Below V9.heap.size V9 V10 := by rw [← e10]; exact (Below.refl _ _).alloc (Nat.le_refl _) _
            exact ⟨hn.trans (hb.mono hn.size), blk_below (by rw [← e10]; exact new_at _ _) hb⟩
          have z10 : V10.heap.size = V9.heap.size + 1 := by rw [← e10]; exact World.size_alloc ..
          have HTk : Hid (Calls Try.prog 7 #[ndv n.k n.d (.slice p n.c.length cv)] V10 fun r w' => ∃ fp : Fp, r = .returned (.func (.func fp.f) #[] fp.lb) ∧ fp.ts = toks n ∧ Fok (fun k => V10.heap.size ≤ k) w' fp ∧ Below V10.heap.size V10 w') := toks_any n u4 _ V10 (TN.see n _ (H4.out V10 (H9.out V10 (H10.out V10 (Below.refl _ _)).1).1).2.2)
          dsimp only [InB] at e10
          have E10 := show Hid _ from e10
          clear e10
          obtain ⟨⟨j0, j1, j2, j3, j4, j5, j6, j7⟩, jl⟩ := nd_cells (H4.out V10 (H9.out V10 (H10.out V10 (Below.refl _ _)).1).1).2.1
          clear u1 u2 u3 u4 u5 hsame f1 f2 f3 g1 g2 g3 H90 ht2 hn2 hb8 i0 il r0 r1 r2 HMA hpl2
          go_upto_region 23 with fail
          have e10 := E10.out
          try rw [e10]
          clear e10 E10
          go_wp2_with fail
          refine HTk.out.mono ?_
          rintro e w11 ⟨fp, rfl, hts, hfok, hb11⟩
          have HIt : Hid (EntF fp.f ∧ ItB (fun k => V10.heap.size ≤ k) w11 fp.f fp.lb l) := ⟨hfok.1, by rw [← HMa.out.2.1, ← hts]; exact hfok.2⟩
          have H11 : Hid (Below V10.heap.size V10 w11) := hb11
          clear hts hfok hb11 j0 j1 j2 j3 j4 j5 j6 j7 jl HTk
          obtain ⟨bk, hbk⟩ : ∃ bk, V9.heap.size = bk := ⟨_, rfl⟩
          have hki0 : KI bk w11 0 w11 := ⟨Kp.refl _ _, by rw [← hbk]; exact (H10.out w11 H11.out).2⟩
          have hbl : bk < w11.heap.size := blk_lt hki0.2
          have hit : ItB (fun k => k ≠ bk) w11 fp.f fp.lb l := HIt.out.2.sub fun k hk _ => by omega
          go_wp2_with fail
          rename_i K1 aK1
          refine wpIn_wide.1 (wpIn_itX (n := 0) (p := 107) (s := 15) (gf := fp.f) (lb := fp.lb) rfl HIt.out.1 hit (fun jj V => KI bk w11 jj V) (fun _ _ => False) (ki_own bk w11 hbl) ?_ ?_ (fun jj V h => h.st) hki0 ?assign ?body ?fin)
          · intro jj V h
            exact h.1.size
          · intro jj A B row h hg hr
            exact h.elim
          case assign =>
            intro m' lq t V K hK
            simp only [actA, Tv.v, List.setIfInBounds_toArray, List.set_cons_succ, List.set_cons_zero] at hK
            dsimp only [Tv.v]
            gi_wp2
            exact hK
          case body =>
            rintro m' lq jj b t V hj hlq ⟨r, hr⟩ hki hb hcell
            have hbx : Below V10.heap.size V10 w11 := H11.out
            obtain ⟨hV9, _⟩ := H10.out w11 hbx
            obtain ⟨_, g2, g3⟩ := H2.out w11 (H4.out w11 (H9.out w11 hV9).1).1
            have hjl : jj < l.length := (List.getElem?_eq_some_iff.1 hj).1
            have hnb : W.heap.size ≠ bk := by
              have := (H9.out V9 (Below.refl _ _)).1.size
              have h9 := (H4.out V4 (Below.refl _ _)).1.size
              omega
            have f2 := hki.1.blk g2 hnb
            have hLV : Lt V ao l := by
              intro q d hd
              obtain ⟨b', off', e', c0', _⟩ := HLt.out W (Below.refl _ _) q d hd
              have hlt' : b' < W.heap.size := World.block_lt_of_cell? _ _ c0'
              exact ((HLt.out w11 (H2.out w11 (H4.out w11 (H9.out w11 hV9).1).1).1).kp hki.1 (fun a' ea => by rw [e'] at ea; cases ea; show ¬ b' = bk; have := (H9.out V9 (Below.refl _ _)).1.size; have h9 := (H4.out V4 (Below.refl _ _)).1.size; omega)) q d hd
            obtain ⟨tb, toff, hat, y0, y1, y2, y3, y4, y5⟩ := hLV jj t hj
            have yl := World.block_lt_of_cell? _ _ y0
            have z1 : (jj : Int) < l.length := by omega
            have z3 : (0 : Int) ≤ jj := by omega
            have z4 : ¬ ((l.length : Int) ≤ jj) := by omega
            have z5 : ¬ (l.length ≤ jj) := by omega
            have z6 : decide (l.length ≤ jj) = false := by simp; omega
            have c0 : V.cell? ⟨b, 0, none⟩ = some (.int .u8 t.k) := blk_cell hcell (k := 0) rfl
            have c1 : V.cell? ⟨b, 1, none⟩ = some (.string t.t) := blk_cell hcell (k := 1) rfl
            have c2 : V.cell? ⟨b, 2, none⟩ = some (.int .i64 t.a) := blk_cell hcell (k := 2) rfl
            have c3 : V.cell? ⟨b, 3, none⟩ = some (.int .i64 t.l) := blk_cell hcell (k := 3) rfl
            have c4 : V.cell? ⟨b, 4, none⟩ = some (.int .i64 t.c) := blk_cell hcell (k := 4) rfl
            have c5 : V.cell? ⟨b, 5, none⟩ = some (.int .i64 t.f) := blk_cell hcell (k := 5) rfl
            have k0 : V.cell? ⟨bk, 0, none⟩ = some (.int .i64 jj) := blk_cell hki.2 rfl
            have k1 : V.frozen? ⟨bk, 0, none⟩ = false := blk_frozen hki.2
            have k2 := blk_lt hki.2
            have u0 : V.cell? ⟨W.heap.size, 0, none⟩ = some (.slice ao l.length cap) := blk_cell f2 rfl
            have u1 := blk_lt f2
            have HN : Hid (∀ nq, KI bk w11 (jj + 1) ((V.drewN nq).setCell ⟨bk, 0, none⟩ (.int .i64 ((jj : Int) + 1))) ∧ KF w11.heap.size V ((V.drewN nq).setCell ⟨bk, 0, none⟩ (.int .i64 ((jj : Int) + 1)))) := fun nq => ⟨(hki.next nq).1, (hki.next nq).2 _ hbl⟩
            have hll : (l.length : Int) ≤ 4194304 := by omega
            rw [hbk] at *
            subst hat
            clear hr hj hcell hki hLV f2 g2 g3 hbx hV9 hki0 hit
            dsimp only [actA, Tv.v]
            simp only [List.setIfInBounds_toArray, List.set_cons_succ, List.set_cons_zero]
            gi_wp2
            refine quiet_round (by kernel_rfl) (by kernel_rfl) (by kernel_rfl) ?_
            repeat (gi_big_quiet_step (fail))
            refine wpQuietIn_nil ?_
            intro _ hw'
            obtain ⟨nq, hw''⟩ := hw'
            subst hw''
            gi_wp2
            exact ⟨(HN.out nq).2, (HN.out nq).1⟩
          case fin =>
            rintro D jj V hD hor hd
            rcases hor with ⟨rfl, hki⟩ | h
            rotate_left
            · exact h.elim
            have hbx : Below V10.heap.size V10 w11 := H11.out
            obtain ⟨hV9, _⟩ := H10.out w11 hbx
            have s1 := (H9.out V9 (Below.refl _ _)).1.size
            have s2 := (H4.out V4 (Below.refl _ _)).1.size
            have s3 := hbx.size
            have s4 := blk_lt (H4.out V4 (Below.refl _ _)).2.1
            have s5 := blk_lt (H9.out V9 (Below.refl _ _)).2.1
            have HV : Hid (∀ V', Below V.heap.size V V' → Below W.heap.size W V' ∧ V'.heap[W.heap.size]? = some (TsB ao l.length cap) ∧ V'.heap[W.heap.size + 1]? = some (BoB false) ∧ V'.heap[w4.heap.size]? = some (NdB n.k n.d (.slice p n.c.length cv)) ∧ V'.heap[w8.heap.size]? = some (NdB n2.k n2.d (.slice p2 n2.c.length cv2)) ∧ Nv V' (ndv n.k n.d (.slice p n.c.length cv)) n ∧ Nv V' (ndv n2.k n2.d (.slice p2 n2.c.length cv2)) n2 ∧ V'.heap[bk]? = some (InB l.length) ∧ V'.heap[D]? = some (.deferred (some []))) := fun V' hb' => by
              have a9 := H9.out w11 hV9
              have a4 := H4.out w11 a9.1
              have a2 := H2.out w11 a4.1
              have kk : ∀ k o, w11.heap[k]? = some o → k ≠ bk → V'.heap[k]? = some o := fun k o ho hne => blk_below (hki.1.blk ho hne) hb'
              have tn1 : TN (fun q => w3.heap.size ≤ q ∧ q ≠ bk) w11 n (.slice p n.c.length cv) := by
                have t0 := (H4.out V4 (Below.refl _ _)).2.2
                have t1 : TN (fun q => w3.heap.size ≤ q ∧ q ≠ bk) V4 n (.slice p n.c.length cv) := TN.sub (fun k hk ho => ⟨ho, by omega⟩) n _ t0
                exact TN.kp (Kp.of_below (S := fun _ => False) (a9.1)) (fun _ _ h => h) n _ t1
              have tn2 : TN (fun q => wr.heap.size ≤ q ∧ q ≠ bk) w11 n2 (.slice p2 n2.c.length cv2) := by
                have t0 := (H9.out V9 (Below.refl _ _)).2.2
                have t1 : TN (fun q => wr.heap.size ≤ q ∧ q ≠ bk) V9 n2 (.slice p2 n2.c.length cv2) := TN.sub (fun k hk ho => ⟨ho, by omega⟩) n2 _ t0
                exact TN.kp (Kp.of_below (S := fun _ => False) hV9) (fun _ _ h => h) n2 _ t1
              refine ⟨?_, kk _ _ a2.2.1 (by omega), kk _ _ a2.2.2 (by omega), kk _ _ a4.2.1 (by omega), kk _ _ a9.2.1 (by omega), ?_, ?_, blk_below hki.2 hb', blk_below hd hb'⟩
              · have q1 := kp_low a2.1 hki.1 (fun k e => by omega) a2.1.size
                exact q1.trans (hb'.mono q1.size)
              · exact TN.see n _ (TN.kp (Kp.of_below (S := fun _ => False) hb') (fun _ _ h => h) n _ (TN.kp hki.1 (fun k hk e => hk.2 e) n _ tn1))
              · exact TN.see n2 _ (TN.kp (Kp.of_below (S := fun _ => False) hb') (fun _ _ h => h) n2 _ (TN.kp hki.1 (fun k hk e => hk.2 e) n2 _ tn2))
            have hDl : w11.heap.size ≤ D := hD
            clear hki hd hbx hV9 hki0 hit hD
            refine aK1 _ _ ?_
            try simp only []
            obtain ⟨v1, v2, v3, v4, v5, v6, v7, v8, v9⟩ := HV.out V (Below.refl _ _)
            obtain ⟨⟨j0, j1, j2, j3, j4, j5, j6, j7⟩, jl⟩ := nd_cells v4
            have HFu : Hid (Calls Try.prog 8 #[ndv n.k n.d (.slice p n.c.length cv)] V fun r w' => r = .returned (.bool true) ∧ Below V.heap.size V w') := full_any n _ V v6 HMa.out.1
            clear v1 v2 v3 v4 v5 v6 v7 v8 v9
            go_wp2_with fail
            refine HFu.out.mono ?_
            rintro r w20 ⟨rfl, hb20⟩
            have H20 : Hid (Below V.heap.size V w20) := hb20
            clear hb20 j0 j1 j2 j3 j4 j5 j6 j7 jl
            obtain ⟨v1, v2, v3, v4, v5, v6, v7, v8, v9⟩ := HV.out w20 H20.out
            obtain ⟨⟨j0, j1, j2, j3, j4, j5, j6, j7⟩, jl⟩ := nd_cells v4
            obtain ⟨⟨m0, m1, m2, m3, m4, m5, m6, m7⟩, ml⟩ := nd_cells v5
            have k0 : w20.cell? ⟨bk, 0, none⟩ = some (.int .i64 (l.length : Nat)) := blk_cell v8 rfl
            have k2 := blk_lt v8
            have u0 : w20.cell? ⟨W.heap.size, 0, none⟩ = some (.slice ao l.length cap) := blk_cell v2 rfl
            have u1 := blk_lt v2
            have HSm : Hid (Calls Try.prog 9 #[ndv n.k n.d (.slice p n.c.length cv), ndv n2.k n2.d (.slice p2 n2.c.length cv2)] w20 fun r w' => r = .returned (.bool true) ∧ Below w20.heap.size w20 w') := by
              have := same_any n n2 _ _ w20 v6 v7 HMa.out.2.2.2.1 HMa.out.2.2.2.2.1
              rw [HMa.out.2.2.2.2.2] at this
              exact this
            clear v1 v2 v3 v4 v5 v6 v7 v8 v9
            go_wp2_with fail
            refine HSm.out.mono ?_
            rintro r w21 ⟨rfl, hb21⟩
            have H21 : Hid (Below V.heap.size V w21) := H20.out.trans (hb21.mono H20.out.size)
            clear hb21 j0 j1 j2 j3 j4 j5 j6 j7 jl m0 m1 m2 m3 m4 m5 m6 m7 ml k0 k2 u0 u1
            obtain ⟨v1, v2, v3, v4, v5, v6, v7, v8, v9⟩ := HV.out w21 H21.out
            obtain ⟨⟨j0, j1, j2, j3, j4, j5, j6, j7⟩, jl⟩ := nd_cells v4
            have HDp : Hid (Calls Try.prog 10 #[ndv n.k n.d (.slice p n.c.length cv)] w21 fun r w' => r = .returned (.int .i64 (dpt n : Nat)) ∧ Below w21.heap.size w21 w') := depth_any n _ w21 v6 (by have := HMa.out.2.2.1; omega)
            clear v1 v2 v3 v4 v5 v6 v7 v8 v9
            obtain ⟨dp, hdp⟩ : ∃ dp, dpt n = dp := ⟨_, rfl⟩
            rw [hdp] at HDp
            have hdp2 : (dp : Int) ≤ 1000 := by have := HMa.out.2.2.1; omega
            clear hdp
            go_wp2_with fail
            refine HDp.out.mono ?_
            rintro r w22 ⟨rfl, hb22⟩
            have H22 : Hid (Below V.heap.size V w22) := H21.out.trans (hb22.mono H21.out.size)
            clear hb22 j0 j1 j2 j3 j4 j5 j6 j7 jl
            obtain ⟨v1, v2, v3, v4, v5, v6, v7, v8, v9⟩ := HV.out w22 H22.out
            have r0 : w22.cell? ⟨W.heap.size + 1, 0, none⟩ = some (.bool false) := blk_cell v3 rfl
            have r1 : w22.frozen? ⟨W.heap.size + 1, 0, none⟩ = false := blk_frozen v3
            have r2 := blk_lt v3
            have HE : Hid (Mk w11.heap.size (w22.setCell ⟨W.heap.size + 1, 0, none⟩ (.bool true)) w22.heap.size [mark D] ∧ (w22.setCell ⟨W.heap.size + 1, 0, none⟩ (.bool true)).heap[W.heap.size + 1]? = some (BoB true) ∧ Below W.heap.size W (w22.setCell ⟨W.heap.size + 1, 0, none⟩ (.bool true)) ∧ W.heap.size + 1 < w11.heap.size) := by
              have hd2 := (Kp.set w22 (W.heap.size + 1) 0 (.bool true)).blk v9 (by omega)
              have hd3 : D < w22.heap.size := blk_lt v9
              refine ⟨.cons hDl hd3 hd2 (.nil (Nat.le_refl _)), blk_set v3 0 _, v1.setCell (by show _ ≤ W.heap.size + 1; omega) _, by omega⟩
            clear v1 v2 v3 v4 v5 v6 v7 v8 v9
            go_wp2_with fail
            refine Mk.leaves (B := w11.heap.size) (S := fun W2 => W2.heap[W.heap.size + 1]? = some (BoB true) ∧ Below W.heap.size W W2) ?_ ?_ HE.out.1 ⟨HE.out.2.1, HE.out.2.2.1⟩
            · intro u A B row hs hg hr
              have := HE.out.2.2.2
              refine ⟨(hg.block _ (blk_lt hs.1) (fun e => by have := (hr _ e.symm).1; omega)).trans hs.1, hs.2.grown hg (Nat.le_trans hs.2.size (Nat.le_refl _)) (fun k e => by have := (hr k e).1; omega)⟩
            · intro W2 h2
              exact ⟨_, resW rfl h2.1, rfl, h2.2⟩
        · have hn0 := HM.out.2 hcd
          have hat := HAT.out
          rw [if_neg hcd] at hat hpl2
          have y1 : (code != 0) = true := by simpa using hcd
          have y2 : pl2 = m := by rw [HMA.out, ← hpl2, ← hat]
          obtain ⟨hx1, hx2⟩ := alr_at good_new ini_new HA2.out.2.2 hcd
          have y3 : (code == 121) = ((at' : Int) == (l.length : Int)) := by
            rw [← hat, Bool.eq_iff_iff]
            simp only [beq_iff_eq]
            constructor
            · intro h; have := hx1.1 h; omega
            · intro h; exact hx1.2 (by omega)
          have HF : Hid ((V9.setCell ⟨W.heap.size + 1, 0, none⟩ (.bool true)).heap[W.heap.size + 1]? = some (BoB true) ∧ Below W.heap.size W (V9.setCell ⟨W.heap.size + 1, 0, none⟩ (.bool true))) := ⟨blk_set f3 0 _, f1.setCell (by show _ ≤ W.heap.size + 1; omega) _⟩
          subst hn0
          obtain ⟨⟨n0, n1, n2', n3, n4, n5, n6, n7⟩, nl⟩ := nd_cells g2
          dsimp only [Nd.k, Nd.d, Nd.c, List.length_nil] at n0 n7
          clear f1 f2 f3 g1 g2 g3 H90 hx1 hx2 hat hpl2 HMA
          subst y2
          clear n1 n2' n3 n4 n5 n6 ht2 hn2 hb8
          obtain ⟨bb, hbb⟩ : ∃ bb, (code == 121) = bb := ⟨_, rfl⟩
          rw [hbb] at y3
          have y4 := y3.symm
          clear y3
          cases bb
          · go_wp2_with fail
            exact ⟨_, resW rfl HF.out.1, rfl, HF.out.2⟩
          · go_wp2_with fail
            exact ⟨_, resW rfl HF.out.1, rfl, HF.out.2⟩
end Go.Proofs.Ytkigadnkclkopaa
