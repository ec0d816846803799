import Derived.Test.YtnmjkgjhjnpijaaDoorM1
set_option linter.unusedVariables false
set_option linter.unusedSimpArgs false
namespace Go.Proofs.YtnmjkgjhjnpijaaDoor
open Go.RowKit

theorem Ss.at {w : World} {b o : Nat} {l : List ByteArray} (h : Ss w (some ⟨b, o, none⟩) l) {k : Nat} {s : ByteArray} (hk : l[k]? = some s) : w.cell? ⟨b, o + k, none⟩ = some (.string s) := by
  obtain ⟨b', o', e, h1⟩ := h k s hk
  cases e
  exact h1

theorem cl_start {w w3 : World} {g : Nat} (s : ByteArray) (h1 : Below w.heap.size w w3) (h2 : w.heap.size ≤ g) (h3 : g < w3.heap.size) (h4 : LZ (fun q => q = g) w3 g ByteArray.empty [] 0 0 0) :
    CL w (w3.alloc (.cells #[.int .i64 0, .int .i64 0, .int .i64 0] 30)) g w3.heap.size ByteArray.empty s (.slice none 0 0) := by
  have hb : Below w3.heap.size w3 (w3.alloc (.cells #[.int .i64 0, .int .i64 0, .int .i64 0] 30)) := (Below.refl _ _).alloc (Nat.le_refl _) _
  have ha : Aw w (fun q => q = g) w3 := ⟨h1, fun q e => by have e' : q = g := e; omega⟩
  refine ⟨_, [], 0, 0, 0, h4.below hb, Box3.new w3 0 0 0, h1.size, rt_nil _ _, ha.below hb, ?_, fun q hq => by cases hq⟩
  show ¬ w3.heap.size = g
  omega

/-- What scan answers then, the same. -/
def CG (w W : World) (P : Nat) (s : ByteArray) (v : Value) (E : Nat) : Prop := ∃ (X1 X2 X3 : Int) (L : List Tv), Box3 W P X1 X2 X3 ∧ Rt w.heap.size W v L ∧ L.length ≤ 1000000000 ∧ Below w.heap.size w W ∧ Calls Tryd.prog 10 #[.string s] W fun e w' => (∃ v', e = .returned (.tuple #[v', .int .i64 E, .agg #[.int .i64 X1, .int .i64 X2, .int .i64 X3]]) ∧ Rt W.heap.size w' v' L) ∧ Below W.heap.size W w'
theorem cg_of {w W : World} {P : Nat} {s : ByteArray} {v : Value} {E : Nat} (h : CF w W P s v E) (hT : Kab w) (hs : s.size ≤ 1000000000) : CG w W P s v E := by
  obtain ⟨rfl, h2, h3, h4⟩ := h
  refine ⟨_, _, _, _, h2, h3, ?_, h4, all_any s W (hT.below h4) hs⟩
  rw [List.length_map]
  have := Cov_len (s := s) (Lk := (scn s).1) (E := (scn s).2.1) (a := (scn s).2.2) rfl
  omega

set_option maxRecDepth 100000 in
set_option maxHeartbeats 400000 in
theorem cuts_walk (ao : Option Addr) (l : List ByteArray) (ca : Nat) (w : World) (hT : Kab w) (hA : Ss w ao l) (hl : bsz l + l.length ≤ 1048576) :
    Calls Tryd.prog 3 #[.slice ao l.length ca] w fun e w' => e = .returned (.bool true) ∧ Below w.heap.size w w' := by
  have HT : Hid (Kab w) := hT
  have HA : Hid (Ss w ao l) := hA
  clear hT hA
  obtain ⟨n1, hN1⟩ : ∃ n1, 16 * l.length + bsz l = n1 := ⟨_, rfl⟩
  have hn1 : n1 ≤ 16777216 := by omega
  have HS1 : Hid (∀ V, Below w.heap.size w V → Calls Tryd.prog 5 #[.slice ao l.length ca] V fun e w' => e = .returned (.int .i64 n1) ∧ Below V.heap.size V w') := fun V hV => by
    have := size_any ao l ca V (HA.out.below hV) hl
    rw [hN1] at this
    exact this
  clear hN1
  have q0 : ¬ (67108864 < (n1 : Int)) := by omega
  go_enter Tryd.func3, Tryd.ntmps3
  go_wp2_with (first | (go_at_call 4; refine (awake_any _ HT.out).mono ?_; rintro e w1 ⟨rfl, hb1⟩) | (go_at_call 5; refine (HS1.out _ hb1).mono ?_; rintro e w2 ⟨rfl, hb2⟩; have HB2 : Hid (Below w.heap.size w w2) := hb1.trans (hb2.mono hb1.size); clear hb1 hb2))
  · go_ret
    exact ⟨rfl, HB2.out⟩
  go_loopw [5, 6] (fun s i wr => ∃ k : Nat, k ≤ l.length ∧ s = .string (cat (l.take k)) ∧ i = .int .i64 k ∧ Hid (Below w.heap.size w wr)) (fun _ i _ => l.length - (intOf i).toNat)
  case atStart => exact ⟨0, Nat.zero_le _, rfl, rfl, HB2.out⟩
  case round =>
    obtain ⟨k, hk, rfl, rfl, HW⟩ := hrel
    have hbl := bsz_le l k
    have hcz := cat_size (l.take k)
    by_cases hlt : k < l.length
    · have q1 : (k : Int) < l.length := by omega
      have q3 : (0 : Int) ≤ k := by omega
      obtain ⟨x, hx⟩ : ∃ x, l[k]? = some x := ⟨_, List.getElem?_eq_getElem hlt⟩
      obtain ⟨b, off, rfl, c0⟩ := (HA.out.below HW.out) k x hx
      have hm := bsz_mem hx
      have ht := cat_take hx
      clear hx
      generalize cat (l.take k) = S at *
      go_wp2_with fail
      exact ⟨⟨k + 1, hlt, by rw [ht], by go_num, HW.out⟩, by simp [intOf]; omega⟩
    · obtain rfl : k = l.length := by omega
      have q1 : ¬ ((l.length : Int) < l.length) := by omega
      have hsz : (cat l).size ≤ 1048576 := by rw [cat_size]; omega
      have hcut : Hid (∀ k, cat l = cat (l.take k) ++ cat (l.drop k)) := fun k => cat_cut l k
      rw [List.take_length] at *
      clear hcz hbl
      obtain ⟨s, hs⟩ : ∃ s, cat l = s := ⟨_, rfl⟩
      rw [hs] at hsz ⊢
      have HS : Hid (cat l = s) := hs
      clear hs
      go_wp2_with (first | (go_at_call 6; refine (lnew_any _).mono ?_; rintro e w3 ⟨g, rfl, a1, a2, a3, a4⟩; have HA3 : Hid (Below w.heap.size w w3 ∧ w.heap.size ≤ g ∧ g < w3.heap.size ∧ LZ (fun q => q = g) w3 g ByteArray.empty [] 0 0 0) := ⟨HW.out.trans (a3.mono HW.out.size), by have := HW.out.size; omega, a2, a4⟩; clear a1 a2 a3 a4))
      have HCL : Hid (CL w (w3.alloc (.cells #[.int .i64 0, .int .i64 0, .int .i64 0] 30)) g w3.heap.size ByteArray.empty s (.slice none 0 0)) := cl_start s HA3.out.1 HA3.out.2.1 HA3.out.2.2.1 HA3.out.2.2.2
      clear HA3 HW
      generalize w3.heap.size = P at HCL ⊢
      generalize w3.alloc (.cells #[.int .i64 0, .int .i64 0, .int .i64 0] 30) = V3 at HCL ⊢
      go_loopw [8, 9, 11] (fun got e i wr => ∃ k E : Nat, k ≤ l.length ∧ e = .int .i64 E ∧ i = .int .i64 k ∧ Hid ((E = 0 ∧ CL w wr g P (cat (l.take k)) s got) ∨ (E ≠ 0 ∧ CF w wr P s got E))) (fun _ _ i _ => l.length - (intOf i).toNat)
      case atStart => exact ⟨0, 0, Nat.zero_le _, rfl, rfl, .inl ⟨rfl, HCL.out⟩⟩
      case round =>
        clear HCL
        obtain ⟨k, E, hk, rfl, rfl, HW⟩ := hrel
        have q3 : (0 : Int) ≤ k := by omega
        by_cases hE : E = 0
        · subst hE
          have HC : Hid (CL w wr g P (cat (l.take k)) s u8) := by
            rcases HW.out with h | h
            · exact h.2
            · exact absurd rfl h.1
          clear HW
          by_cases hlt : k < l.length
          · have q1 : (k : Int) < l.length := by omega
            obtain ⟨x, hx⟩ : ∃ x, l[k]? = some x := ⟨_, List.getElem?_eq_getElem hlt⟩
            obtain ⟨ab, aoff, rfl, c0⟩ := (HA.out.below HC.out.bel) k x hx
            have hct := cat_take hx
            have hcu : s = (cat (l.take k) ++ x) ++ cat (l.drop (k + 1)) := by rw [← hct, ← HS.out]; exact hcut.out (k + 1)
            obtain ⟨own, T, k', b', f', z1, z2, z3, z4, z5, z6, z7⟩ := HC.out
            have HFe : Hid (Calls Tryd.prog 7 #[.pointer (some ⟨g, 0, none⟩), .string x] wr fun e w2 => ∃ (v2 : Value) (E : Nat) (A L C : Int), e = .returned (.tuple #[v2, .int .i64 E, .agg #[.int .i64 A, .int .i64 L, .int .i64 C]]) ∧ Box3 w2 P 0 0 0 ∧ ∃ n : List Tv, (T.map (tv s)).length + n.length ≤ 1000000000 ∧ Bh w (st3 w2 P A L C) P A L C u8 v2 (T.map (tv s)) n (fun w4 v4 => ((E = 0 ∧ CL w w4 g P (cat (l.take (k + 1))) s v4) ∨ (E ≠ 0 ∧ CF w w4 P s v4 E)) ∧ ∃ h, HdC w4 g s h)) := by
              refine (lfeed_live z1 z5.lt (z5.K HT.out) x ?_).mono ?_
              · have := congrArg ByteArray.size hcu
                rw [size_app] at this
                omega
              · rintro e w2 ⟨v2, E, A, L, C, rfl, hf⟩
                have hp2 := hf.box z2 z6
                obtain ⟨n, n1, n2⟩ := cl_feed hcu (by omega) z2 z3 z4 z5 z6 z7 hf
                rw [← hct] at n2
                exact ⟨v2, E, A, L, C, rfl, hp2, n, n1, n2⟩
            clear z1 z2 z3 z4 z5 z6 z7 hcu hct hx HC
            go_wp2_with fail
            refine HFe.out.mono ?_
            rintro e w2 ⟨v2, E, A, L, C, rfl, hp2, n, hn, hbh⟩
            have HBh : Hid (Bh w (st3 w2 P A L C) P A L C u8 v2 (T.map (tv s)) n (fun w4 v4 => ((E = 0 ∧ CL w w4 g P (cat (l.take (k + 1))) s v4) ∨ (E ≠ 0 ∧ CF w w4 P s v4 E)) ∧ ∃ h, HdC w4 g s h)) := hbh
            have HLn : Hid ((T.map (tv s)).length + n.length ≤ 1000000000) := hn
            have g0 := hp2.cell0
            have g1 := hp2.cell1
            have g2 := hp2.cell2
            have y0 := hp2.frozen 0
            have y1 := hp2.frozen 1
            have y2 := hp2.frozen 2
            clear hbh hn hp2 HFe c0
            go_wp2_with (first | (at_builtin; refine app_toks rfl _ _ rfl w.heap.size w.heap.size _ _ _ _ rfl HBh.out.row rfl HBh.out.new HLn.out HBh.out.size ?_; intro v4 w4 hr4 hk4 ho4; have HF4 := HBh.out.fin w4 v4 hr4 ⟨hk4, ho4⟩; clear hr4 hk4 ho4))
            obtain ⟨hcase, h, hh1, hh2, hh3⟩ := HF4
            have Hcase : Hid ((E = 0 ∧ CL w w4 g P (cat (l.take (k + 1))) s v4) ∨ (E ≠ 0 ∧ CF w w4 P s v4 E)) := hcase
            have j1 : ¬ ((h : Int) < 0) := by omega
            have j2 : ¬ (65540 < (h : Int)) := by omega
            have j3 : ¬ ((s.size : Int) < h) := by omega
            clear hcase HBh HLn g0 g1 g2 y0 y1 y2
            refine hh3.mono ?_
            rintro e w5 ⟨rfl, hb5⟩
            go_wp2_with fail
            refine ⟨⟨k + 1, E, hlt, rfl, by go_num, ?_⟩, by simp [intOf]; omega⟩
            rcases Hcase.out with ⟨e0, e1⟩ | ⟨e0, e1⟩
            · exact .inl ⟨e0, e1.below hb5⟩
            · exact .inr ⟨e0, e1.below hb5⟩
          · obtain rfl : k = l.length := by omega
            have q1 : ¬ ((l.length : Int) < l.length) := by omega
            have hcu : cat (l.take l.length) = s := by rw [List.take_length]; exact HS.out
            rw [hcu] at HC
            obtain ⟨own, T, k', b', f', z1, z2, z3, z4, z5, z6, z7⟩ := HC.out
            have HFe : Hid (Calls Tryd.prog 9 #[.pointer (some ⟨g, 0, none⟩)] wr fun e w2 => ∃ (v2 : Value) (E : Nat) (A L C : Int), e = .returned (.tuple #[v2, .int .i64 E, .agg #[.int .i64 A, .int .i64 L, .int .i64 C]]) ∧ Box3 w2 P 0 0 0 ∧ ∃ n : List Tv, (T.map (tv s)).length + n.length ≤ 1000000000 ∧ Bh w (st3 w2 P A L C) P A L C u8 v2 (T.map (tv s)) n (fun w4 v4 => CF w w4 P s v4 E)) := by
              refine (lclose_live z1 z5.lt (z5.K HT.out) (by omega)).mono ?_
              rintro e w2 ⟨v2, E, A, L, C, rfl, hf⟩
              have hp2 : Box3 w2 P 0 0 0 := by
                obtain ⟨new, a, hfd, _⟩ := hf
                exact hfd.kp.blk z2 (fun e => by have := blk_lt z2; rcases e with e | e; exact z6 e; omega)
              obtain ⟨n, n1, n2⟩ := cl_close (by omega) z2 z3 z4 z5 z6 z7 hf
              exact ⟨v2, E, A, L, C, rfl, hp2, n, n1, n2⟩
            clear z1 z2 z3 z4 z5 z6 z7 hcu HC
            go_wp2_with fail
            refine HFe.out.mono ?_
            rintro e w2 ⟨v2, E, A, L, C, rfl, hp2, n, hn, hbh⟩
            have HBh : Hid (Bh w (st3 w2 P A L C) P A L C u8 v2 (T.map (tv s)) n (fun w4 v4 => CF w w4 P s v4 E)) := hbh
            have HLn : Hid ((T.map (tv s)).length + n.length ≤ 1000000000) := hn
            have g0 := hp2.cell0
            have g1 := hp2.cell1
            have g2 := hp2.cell2
            have y0 := hp2.frozen 0
            have y1 := hp2.frozen 1
            have y2 := hp2.frozen 2
            clear hbh hn hp2 HFe
            go_wp2_with (first | (at_builtin; refine app_toks rfl _ _ rfl w.heap.size w.heap.size _ _ _ _ rfl HBh.out.row rfl HBh.out.new HLn.out HBh.out.size ?_; intro v4 w4 hr4 hk4 ho4; have HG : Hid (CG w w4 P s v4 E) := cg_of (HBh.out.fin w4 v4 hr4 ⟨hk4, ho4⟩) HT.out (by omega); clear hr4 hk4 ho4))
            obtain ⟨X1, X2, X3, RL, gb, gr, gn, gbl, gall⟩ := HG.out
            obtain ⟨pg, cg, eg, _, _⟩ := gr.shape
            subst eg
            have HAl : Hid (Calls Tryd.prog 10 #[.string s] w4 fun e w' => (∃ v', e = .returned (.tuple #[v', .int .i64 E, .agg #[.int .i64 X1, .int .i64 X2, .int .i64 X3]]) ∧ Rt w4.heap.size w' v' RL) ∧ Below w4.heap.size w4 w') := gall
            have HGb : Hid (Box3 w4 P X1 X2 X3 ∧ Rt w.heap.size w4 (.slice pg RL.length cg) RL ∧ RL.length ≤ 1000000000 ∧ Below w.heap.size w w4) := ⟨gb, gr, gn, gbl⟩
            clear gb gr gn gbl gall HG
            refine HAl.out.mono ?_
            rintro e w6 ⟨⟨v6, rfl, hr6⟩, hb6⟩
            obtain ⟨p6, c6, rfl, _, _⟩ := hr6.shape
            have hb7 : Below w6.heap.size w6 (w6.alloc (.cells #[.int .i64 X1, .int .i64 X2, .int .i64 X3] 30)) := (Below.refl _ _).alloc (Nat.le_refl _) _
            have k6 := (HGb.out.1.below hb6).below hb7
            have k7 : Box3 (w6.alloc (.cells #[.int .i64 X1, .int .i64 X2, .int .i64 X3] 30)) w6.heap.size X1 X2 X3 := Box3.new w6 X1 X2 X3
            have j0 := k6.cell0
            have j1 := k6.cell1
            have j2 := k6.cell2
            have HSm : Hid (Calls Tryd.prog 11 #[.slice pg RL.length cg, .slice p6 RL.length c6] (w6.alloc (.cells #[.int .i64 X1, .int .i64 X2, .int .i64 X3] 30)) fun e w' => e = .returned (.bool true) ∧ Below (w6.alloc (.cells #[.int .i64 X1, .int .i64 X2, .int .i64 X3] 30)).heap.size (w6.alloc (.cells #[.int .i64 X1, .int .i64 X2, .int .i64 X3] 30)) w') := by
              obtain ⟨ax, cx, ex, lx, _⟩ := Lt.row ((HGb.out.2.1.below hb6).below hb7)
              obtain ⟨bx, dx, fx, mx, _⟩ := Lt.row (hr6.below hb7)
              cases ex
              cases fx
              exact same_eq pg p6 RL cg c6 _ lx mx (by have := HGb.out.2.2.1; omega)
            have HBz : Hid (Below w.heap.size w (w6.alloc (.cells #[.int .i64 X1, .int .i64 X2, .int .i64 X3] 30))) := (HGb.out.2.2.2.trans (hb6.mono HGb.out.2.2.2.size)).trans (hb7.mono (Nat.le_trans HGb.out.2.2.2.size hb6.size))
            clear hb6 hb7 k6 k7 hr6 HGb HAl
            go_wp2_with (first | (go_at_call 11; refine HSm.out.mono ?_; rintro e w8 ⟨rfl, hb8⟩))
            obtain HZ := HBz.out
            go_ret
            exact ⟨rfl, HZ.trans (hb8.mono HZ.size)⟩
        · have HG : Hid (CG w wr P s u8 E) := by
            rcases HW.out with h | h
            · exact absurd h.1 hE
            · exact cg_of h.2 HT.out (by omega)
          have q5 : ((E : Int) == 0) = false := by simp; omega
          have q6 : ¬ ((E : Int) = 0) := by omega
          clear HW
          by_cases hlt : k < l.length
          · have q1 : (k : Int) < l.length := by omega
            go_wp2_with fail
            obtain ⟨X1, X2, X3, RL, gb, gr, gn, gbl, gall⟩ := HG.out
            obtain ⟨pg, cg, eg, _, _⟩ := gr.shape
            subst eg
            have HAl : Hid (Calls Tryd.prog 10 #[.string s] wr fun e w' => (∃ v', e = .returned (.tuple #[v', .int .i64 E, .agg #[.int .i64 X1, .int .i64 X2, .int .i64 X3]]) ∧ Rt wr.heap.size w' v' RL) ∧ Below wr.heap.size wr w') := gall
            have HGb : Hid (Box3 wr P X1 X2 X3 ∧ Rt w.heap.size wr (.slice pg RL.length cg) RL ∧ RL.length ≤ 1000000000 ∧ Below w.heap.size w wr) := ⟨gb, gr, gn, gbl⟩
            clear gb gr gn gbl gall HG
            refine HAl.out.mono ?_
            rintro e w6 ⟨⟨v6, rfl, hr6⟩, hb6⟩
            obtain ⟨p6, c6, rfl, _, _⟩ := hr6.shape
            have hb7 : Below w6.heap.size w6 (w6.alloc (.cells #[.int .i64 X1, .int .i64 X2, .int .i64 X3] 30)) := (Below.refl _ _).alloc (Nat.le_refl _) _
            have k6 := (HGb.out.1.below hb6).below hb7
            have k7 : Box3 (w6.alloc (.cells #[.int .i64 X1, .int .i64 X2, .int .i64 X3] 30)) w6.heap.size X1 X2 X3 := Box3.new w6 X1 X2 X3
            have j0 := k6.cell0
            have j1 := k6.cell1
            have j2 := k6.cell2
            have HSm : Hid (Calls Tryd.prog 11 #[.slice pg RL.length cg, .slice p6 RL.length c6] (w6.alloc (.cells #[.int .i64 X1, .int .i64 X2, .int .i64 X3] 30)) fun e w' => e = .returned (.bool true) ∧ Below (w6.alloc (.cells #[.int .i64 X1, .int .i64 X2, .int .i64 X3] 30)).heap.size (w6.alloc (.cells #[.int .i64 X1, .int .i64 X2, .int .i64 X3] 30)) w') := by
              obtain ⟨ax, cx, ex, lx, _⟩ := Lt.row ((HGb.out.2.1.below hb6).below hb7)
              obtain ⟨bx, dx, fx, mx, _⟩ := Lt.row (hr6.below hb7)
              cases ex
              cases fx
              exact same_eq pg p6 RL cg c6 _ lx mx (by have := HGb.out.2.2.1; omega)
            have HBz : Hid (Below w.heap.size w (w6.alloc (.cells #[.int .i64 X1, .int .i64 X2, .int .i64 X3] 30))) := (HGb.out.2.2.2.trans (hb6.mono HGb.out.2.2.2.size)).trans (hb7.mono (Nat.le_trans HGb.out.2.2.2.size hb6.size))
            clear hb6 hb7 k6 k7 hr6 HGb HAl
            go_wp2_with (first | (go_at_call 11; refine HSm.out.mono ?_; rintro e w8 ⟨rfl, hb8⟩))
            obtain HZ := HBz.out
            go_ret
            exact ⟨rfl, HZ.trans (hb8.mono HZ.size)⟩
          · have q1 : ¬ ((k : Int) < l.length) := by omega
            go_wp2_with fail
            obtain ⟨X1, X2, X3, RL, gb, gr, gn, gbl, gall⟩ := HG.out
            obtain ⟨pg, cg, eg, _, _⟩ := gr.shape
            subst eg
            have HAl : Hid (Calls Tryd.prog 10 #[.string s] wr fun e w' => (∃ v', e = .returned (.tuple #[v', .int .i64 E, .agg #[.int .i64 X1, .int .i64 X2, .int .i64 X3]]) ∧ Rt wr.heap.size w' v' RL) ∧ Below wr.heap.size wr w') := gall
            have HGb : Hid (Box3 wr P X1 X2 X3 ∧ Rt w.heap.size wr (.slice pg RL.length cg) RL ∧ RL.length ≤ 1000000000 ∧ Below w.heap.size w wr) := ⟨gb, gr, gn, gbl⟩
            clear gb gr gn gbl gall HG
            refine HAl.out.mono ?_
            rintro e w6 ⟨⟨v6, rfl, hr6⟩, hb6⟩
            obtain ⟨p6, c6, rfl, _, _⟩ := hr6.shape
            have hb7 : Below w6.heap.size w6 (w6.alloc (.cells #[.int .i64 X1, .int .i64 X2, .int .i64 X3] 30)) := (Below.refl _ _).alloc (Nat.le_refl _) _
            have k6 := (HGb.out.1.below hb6).below hb7
            have k7 : Box3 (w6.alloc (.cells #[.int .i64 X1, .int .i64 X2, .int .i64 X3] 30)) w6.heap.size X1 X2 X3 := Box3.new w6 X1 X2 X3
            have j0 := k6.cell0
            have j1 := k6.cell1
            have j2 := k6.cell2
            have HSm : Hid (Calls Tryd.prog 11 #[.slice pg RL.length cg, .slice p6 RL.length c6] (w6.alloc (.cells #[.int .i64 X1, .int .i64 X2, .int .i64 X3] 30)) fun e w' => e = .returned (.bool true) ∧ Below (w6.alloc (.cells #[.int .i64 X1, .int .i64 X2, .int .i64 X3] 30)).heap.size (w6.alloc (.cells #[.int .i64 X1, .int .i64 X2, .int .i64 X3] 30)) w') := by
              obtain ⟨ax, cx, ex, lx, _⟩ := Lt.row ((HGb.out.2.1.below hb6).below hb7)
              obtain ⟨bx, dx, fx, mx, _⟩ := Lt.row (hr6.below hb7)
              cases ex
              cases fx
              exact same_eq pg p6 RL cg c6 _ lx mx (by have := HGb.out.2.2.1; omega)
            have HBz : Hid (Below w.heap.size w (w6.alloc (.cells #[.int .i64 X1, .int .i64 X2, .int .i64 X3] 30))) := (HGb.out.2.2.2.trans (hb6.mono HGb.out.2.2.2.size)).trans (hb7.mono (Nat.le_trans HGb.out.2.2.2.size hb6.size))
            clear hb6 hb7 k6 k7 hr6 HGb HAl
            go_wp2_with (first | (go_at_call 11; refine HSm.out.mono ?_; rintro e w8 ⟨rfl, hb8⟩))
            obtain HZ := HBz.out
            go_ret
            exact ⟨rfl, HZ.trans (hb8.mono HZ.size)⟩

end Go.Proofs.YtnmjkgjhjnpijaaDoor
