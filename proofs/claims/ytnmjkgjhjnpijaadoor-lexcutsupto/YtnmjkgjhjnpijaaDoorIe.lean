import Derived.Test.YtnmjkgjhjnpijaaDoorI2
set_option linter.unusedVariables false
set_option linter.unusedSimpArgs false
namespace Go.Proofs.YtnmjkgjhjnpijaaDoor
open Go.RowKit

theorem OpS.u8 {S : Nat → Prop} {W : World} {v : Value} {o : ByteArray} (h : OpS S W v o) : ∀ k, v.ownBlock = some k → ∃ cs f, W.heap[k]? = some (.cells cs 5 f) := by
  intro k hk
  rcases h.1 with ⟨rfl, _⟩ | ⟨b, cap, cs', fr, rfl, h2, h3⟩
  · cases hk
  · simp only [Value.ownBlock, Option.some.injEq] at hk
    subst hk
    exact ⟨_, _, h2⟩
theorem BwS.u8 {S : Nat → Prop} {W : World} {v : Value} {t : ByteArray} (h : BwS S W v t) : ∀ k, v.ownBlock = some k → ∃ cs f, W.heap[k]? = some (.cells cs 5 f) := by
  intro k hk
  rcases h.1.2 with ⟨rfl, _⟩ | ⟨b, cap, cur, rfl, _, h2, _⟩
  · cases hk
  · simp only [Value.ownBlock, Option.some.injEq] at hk
    subst hk
    exact ⟨_, _, h2⟩
/-- The row of what was told has grown. -/
theorem Lz.told {S : Nat → Prop} {w0 W w' : World} {g : Nat} {vt vo vs v' : Value} {t o : ByteArray} {l l' : List Tv} (h : Lz S w0 W g vt vo vs t o l) {cs : Array Value} (hg : W.heap[g]? = some (.cells cs 46 (0, 0)))
    (h1 : Rt w0.heap.size w' v' l') (h2 : W.grownBy w' vs.ownBlock) : w'.heap[g]? = some (.cells cs 46 (0, 0)) ∧ Lz S w0 w' g vt vo v' t o l' := by
  have hk := Kp.of_grown h2
  refine ⟨hk.blk hg (fun e => h.rs.ne hg (by decide) g e.symm rfl), h.kp.step hk (fun j hj e => ?_), h.sg, h.nw, h.rt.kp hk (fun k e1 e2 => ?_), h.ro.kp hk (fun k e1 e2 => ?_), h.ap, h1⟩
  · have := h.rs.own j e.symm
    omega
  · obtain ⟨cs', f', e⟩ := h.rt.u8 k e1
    exact h.rs.ne e (by decide) k e2.symm rfl
  · obtain ⟨cs', f', e⟩ := h.ro.u8 k e1
    exact h.rs.ne e (by decide) k e2.symm rfl
/-- The token is let go. -/
theorem Lz.drop {S : Nat → Prop} {w0 W : World} {g : Nat} {vt vo vs : Value} {t o : ByteArray} {l : List Tv} (h : Lz S w0 W g vt vo vs t o l) : Lz S w0 W g (.slice none 0 0) vo vs ByteArray.empty o l :=
  ⟨h.kp, h.sg, h.nw, bws_nil S W rfl, h.ro, (fun q _ e => by cases e), h.rs⟩

theorem lstep_tok {W : World} {ops : Array Oper} {o : Oper} {a : Act} {K : Act → World → Prop} {Q : Exit → Act → World → Prop} {E : Prop} (hgd : o.guard = none) (s x : Operand)
    (ho : o.op = .call { callee := .builtin .append, args := #[s, x], argTypes := #[27, 27] }) (B : Nat) (v : Value) (l : List Tv) (d : Tv) (hs : a.eval s = v) (hr : Rt B W v l)
    (g c : Nat) (hx : a.eval x = .slice (some ⟨g, 0, none⟩) 1 c) (hg : W.heap[g]? = some (.cells #[.int .u8 d.k, .string d.t, .int .i64 d.a, .int .i64 d.l, .int .i64 d.c, .int .i64 d.f] 39 (0, 0))) (hl : l.length ≤ 1000000000) (hB : B ≤ W.heap.size)
    (h : ∀ q cap w', Rt B w' (.slice (some ⟨q, 0, none⟩) (l.length + 1) cap) (l ++ [d]) → Below B W w' → W.grownBy w' v.ownBlock → K (a.put o.dst (.slice (some ⟨q, 0, none⟩) (l.length + 1) cap)) w') :
    if Region.wanted o (yielded ops a.tmps) = true then Oper.wp Tryd.prog o a W K Q else E := by
  obtain ⟨i0, hi, hz0, hz1, hz2⟩ := info_parts Tryd.info39
  refine step_append_lies W hgd s x 27 ho B 39 i0 _ 6 56 Tryd.underlying27 hi hz0 hz1 hz2 rfl (by decide) v _ _ hs hr ⟨g, 0, none⟩ 1 c (tcs [d]) hx (by rw [tcs_len]; rfl) ?_ (tcs_one [d]) (by omega) (by unfold maxLen; omega) (by omega) hB _ rfl ?_
  · intro j u hu
    refine World.news_of_block hg j u ?_
    have e : tcs [d] = [.int .u8 d.k, .string d.t, .int .i64 d.a, .int .i64 d.l, .int .i64 d.c, .int .i64 d.f] := by simp [tcs, flat, Tv.cs]
    rw [e] at hu
    simpa using hu
  · intro q cap w' a1 a2 a3 _
    refine h q cap w' ?_ ((Below.refl B W).grown a2 hB hr.own) a2
    unfold Rt
    rw [List.length_append, tcs_app]
    exact a1

set_option maxRecDepth 100000 in
set_option maxHeartbeats 4000000 in
theorem ltell_core {S : Nat → Prop} {w0 W : World} {g k b : Nat} {L C : Int} {f : Nat} {U o : ByteArray} {l : List Tv} (h : Lq S w0 W g k b L C f U o l) (kk : Nat) (T : ByteArray) (q : Nat) (L2 C2 : Int) (hl : l.length ≤ 1000000000)
    (hA : ∀ V, Calls Tryd.prog 49 #[.agg #[.int .i64 b, .int .i64 L, .int .i64 C], .string U] V fun e w' => e = .returned (.agg #[.int .i64 q, .int .i64 L2, .int .i64 C2]) ∧ Below V.heap.size V w')
    (hT : kk = 7 → ∀ V, Calls Tryd.prog 57 #[.string U, .string ⟨#[32, 9, 13]⟩] V fun e w' => e = .returned (.string T) ∧ Below V.heap.size V w')
    (hC : ∀ V, Calls Tryd.prog 56 #[.string T] V fun e w' => e = .returned (.string T) ∧ Below V.heap.size V w') (hn : kk ≠ 7 → U = T) :
    Calls Tryd.prog 28 #[.pointer (some ⟨g, 0, none⟩), .int .u8 kk] W fun e w' => e = .returned (.tuple #[]) ∧ Lq S w0 w' g 0 q L2 C2 0 ByteArray.empty o (l ++ [⟨kk, T, b, L, C, f⟩]) := by
  obtain ⟨vt, vo, vs, h1, h2⟩ := h
  obtain ⟨pp, cap, e1, _⟩ := h2.rt.shape
  obtain ⟨sp, sc, e2, hs1, hs2⟩ := h2.rs.shape
  have HA : Hid (∀ V, Calls Tryd.prog 49 #[.agg #[.int .i64 b, .int .i64 L, .int .i64 C], .string U] V fun e w' => e = .returned (.agg #[.int .i64 q, .int .i64 L2, .int .i64 C2]) ∧ Below V.heap.size V w') := hA
  have HC : Hid (∀ V, Calls Tryd.prog 56 #[.string T] V fun e w' => e = .returned (.string T) ∧ Below V.heap.size V w') := hC
  have hcv := conv_row h2.rt
  obtain ⟨c0, c1, c2, c3, c4, c5, c6, c7, c8, c9, c10, c11, c12⟩ := h1.cells
  have HK : Hid (∀ V, Below W.heap.size W V → LxB V g false 0 0 0 0 k b L C f vt vo vs ∧ Lz S w0 V g vt vo vs U o l) := fun V hb => ⟨blk_below h1 hb, h2.below hb⟩
  have HE : Hid (∀ v' w', LxB w' g false 0 0 0 0 k b L C f vt vo v' → Lz S w0 w' g vt vo v' U o (l ++ [⟨kk, T, b, L, C, f⟩]) → (∀ j, w'.frozen? ⟨g, j, none⟩ = false) ∧ (w'.cell? ⟨g, 5, none⟩ = some (.int .i64 k) ∧ w'.cell? ⟨g, 6, none⟩ = some (.int .i64 b) ∧ w'.cell? ⟨g, 7, none⟩ = some (.int .i64 L) ∧ w'.cell? ⟨g, 8, none⟩ = some (.int .i64 C) ∧ w'.cell? ⟨g, 9, none⟩ = some (.int .i64 f) ∧ w'.cell? ⟨g, 10, none⟩ = some vt) ∧ g < w'.heap.size ∧
      (Lq S w0 ((((((w'.setCell ⟨g, 5, none⟩ (.int .i64 0)).setCell ⟨g, 6, none⟩ (.int .i64 q)).setCell ⟨g, 7, none⟩ (.int .i64 L2)).setCell ⟨g, 8, none⟩ (.int .i64 C2)).setCell ⟨g, 9, none⟩ (.int .i64 0)).setCell ⟨g, 10, none⟩ (.slice none 0 0)) g 0 q L2 C2 0 ByteArray.empty o (l ++ [⟨kk, T, b, L, C, f⟩]))) := fun v' w' y1' y2' => by
    refine ⟨fun j => y1'.frozen j, ⟨blk_cell y1' rfl, blk_cell y1' rfl, blk_cell y1' rfl, blk_cell y1' rfl, blk_cell y1' rfl, blk_cell y1' rfl⟩, blk_lt y1', ?_⟩
    have y1 := y1'
    have y2 := y2'
    have x2 := blk_set y1 5 (.int .i64 0)
    have x3 := blk_set x2 6 (.int .i64 q)
    have x4 := blk_set x3 7 (.int .i64 L2)
    have x5 := blk_set x4 8 (.int .i64 C2)
    have x6 := blk_set x5 9 (.int .i64 0)
    exact ⟨.slice none 0 0, vo, v', blk_set x6 10 _, (((((((y2.set y1 5 _).set x2 6 _).set x3 7 _).set x4 8 _).set x5 9 _).set x6 10 _).drop)⟩
  have HG : Hid (g < W.heap.size) := blk_lt h1
  subst e1 e2
  clear h1 h2 hA hC
  go_enter Tryd.func28, Tryd.ntmps28
  go_upto_if 18 with (first | (go_at_call 49; refine (HA.out _).mono ?_; rintro e w1 ⟨rfl, hb1⟩; have hk1 : Box3 (w1.alloc (.cells #[.int .i64 q, .int .i64 L2, .int .i64 C2] 30)) w1.heap.size q L2 C2 := Box3.new w1 q L2 C2; have hb0 : Below W.heap.size W (w1.alloc (.cells #[.int .i64 q, .int .i64 L2, .int .i64 C2] 30)) := hb1.alloc hb1.size _))
  go_cut [4] from 6 (fun t wx => t = .string T ∧ Hid (Below W.heap.size W wx ∧ Box3 wx w1.heap.size q L2 C2))
  case first =>
    by_cases hk : kk = 7
    · have q1 : ((kk : Int) == 7) = true := by simp; omega
      have HT : Hid (∀ V, Calls Tryd.prog 57 #[.string U, .string ⟨#[32, 9, 13]⟩] V fun e w' => e = .returned (.string T) ∧ Below V.heap.size V w') := hT hk
      clear hT hn hk
      go_wp2_with (first | (go_at_call 57; refine (HT.out _).mono ?_; rintro e w2 ⟨rfl, hb2⟩) | (go_at_call 56; refine (HC.out _).mono ?_; rintro e w3 ⟨rfl, hb3⟩))
      go_meet
      have hb5 := hb2.trans (hb3.mono hb2.size)
      exact ⟨rfl, hb0.trans (hb5.mono hb0.size), hk1.below hb5⟩
    · have q1 : ((kk : Int) == 7) = false := by simp; omega
      have HN : Hid (U = T) := hn hk
      clear hT hn hk
      go_wp2_with fail
      go_meet
      exact ⟨by rw [HN.out], hb0, hk1⟩
  case rest =>
    obtain ⟨rfl, HW⟩ := hcut
    obtain ⟨wA, eA⟩ : ∃ wA, wA = wc := ⟨wc, rfl⟩
    subst eA
    obtain ⟨hbc, hkc⟩ := HW.out
    have HK1 : Hid (∀ V, Below wA.heap.size wA V → LxB V g false 0 0 0 0 k b L C f (.slice pp U.size cap) vo (.slice sp l.length sc) ∧ Lz S w0 V g (.slice pp U.size cap) vo (.slice sp l.length sc) U o l) := fun V hb => HK.out V (hbc.trans (hb.mono hbc.size))
    obtain ⟨y1, y2⟩ := HK1.out _ (Below.refl _ _)
    have hlt := blk_lt y1
    have hs0 := y2.kp.size
    have yr := y2.rs
    obtain ⟨c0, c1, c2, c3, c4, c5, c6, c7, c8, c9, c10, c11, c12⟩ := y1.cells
    have hgw : g < w1.heap.size := Nat.lt_of_lt_of_le HG.out hb1.size
    have hgn : g ≠ w1.heap.size := by omega
    have HNE : Hid (g ≠ w1.heap.size) := hgn
    have HTD : Hid (∀ w3 qq cc, Rt w0.heap.size w3 (.slice (some ⟨qq, 0, none⟩) (l.length + 1) cc) (l ++ [⟨kk, T, b, L, C, f⟩]) → (wA.drew.alloc (.cells #[.int .u8 kk, .string T, .int .i64 b, .int .i64 L, .int .i64 C, .int .i64 f] 39)).grownBy w3 (Value.slice sp l.length sc).ownBlock → LxB w3 g false 0 0 0 0 k b L C f (.slice pp U.size cap) vo (.slice sp l.length sc) ∧ Lz S w0 w3 g (.slice pp U.size cap) vo (.slice (some ⟨qq, 0, none⟩) (l.length + 1) cc) U o (l ++ [⟨kk, T, b, L, C, f⟩]) ∧ Box3 w3 w1.heap.size q L2 C2) := fun w3 qq cc hr3 hg3 => by
      have hba : Below wA.heap.size wA (wA.drew.alloc (.cells #[.int .u8 kk, .string T, .int .i64 b, .int .i64 L, .int .i64 C, .int .i64 f] 39)) := (Below.refl _ _).drew.alloc (Nat.le_refl _) _
      obtain ⟨v1, v2⟩ := HK1.out _ hba
      obtain ⟨v3, v4⟩ := v2.told v1 hr3 hg3
      have hkd := hkc.below hba
      exact ⟨v3, v4, (Kp.of_grown hg3).blk hkd (fun e => v2.rs.ne hkd (by decide) _ e.symm rfl)⟩
    clear HK hb1 hk1 hb0 hcv y1 y2 hT hn HC HA HG
    go_wp2_with fail
    go_cut [] from 6 (fun wx => Hid (∃ v', LxB wx g false 0 0 0 0 k b L C f (.slice pp U.size cap) vo v' ∧ Lz S w0 wx g (.slice pp U.size cap) vo v' U o (l ++ [⟨kk, T, b, L, C, f⟩]) ∧ Box3 wx w1.heap.size q L2 C2))
    case first =>
      go_region_law (first | (refine lstep_tok (by rfl) _ _ (by rfl) w0.heap.size (.slice sp l.length sc) l ⟨kk, T, b, L, C, f⟩ (by rfl) (yr.below ((Below.refl _ _).drew.alloc (Nat.le_refl _) _)) wA.heap.size 1 (by rfl) (World.alloc_heap_new _ _) hl (by show _ ≤ (wA.drew.alloc _).heap.size; rw [World.size_alloc]; exact Nat.le_succ_of_le hs0) ?_; intro qq cc w3 hr3 hb3 hg3; obtain ⟨v3, v4, v5⟩ := HTD.out _ _ _ hr3 hg3; have f12 := v3.frozen 12; have x12 : w3.cell? ⟨g, 12, none⟩ = some (.slice sp l.length sc) := blk_cell v3 rfl; have HV : Hid (LxB w3 g false 0 0 0 0 k b L C f (.slice pp U.size cap) vo (.slice sp l.length sc) ∧ Lz S w0 w3 g (.slice pp U.size cap) vo (.slice (some ⟨qq, 0, none⟩) (l.length + 1) cc) U o (l ++ [⟨kk, T, b, L, C, f⟩]) ∧ Box3 w3 w1.heap.size q L2 C2) := ⟨v3, v4, v5⟩; clear v3 v4 v5 hr3 hb3 hg3))
      all_goals (
        go_wp2_with fail
        go_meet
        obtain ⟨v3, v4, v5⟩ := HV.out
        exact ⟨_, blk_set v3 12 _, v4.set v3 12 _, (Kp.set _ g 12 _).blk v5 (fun e => HNE.out e.symm)⟩)
    case rest =>
      obtain ⟨v', v3, v4, v5⟩ := hcut.out
      obtain ⟨xf, ⟨x5, x6, x7, x8, x9, x10⟩, xlt, x13⟩ := HE.out _ _ v3 v4
      have m0 := v5.cell0
      have m1 := v5.cell1
      have m2 := v5.cell2
      have f5 := xf 5
      have f6 := xf 6
      have f7 := xf 7
      have f8 := xf 8
      have f9 := xf 9
      have f10 := xf 10
      have HX : Hid (Lq S w0 ((((((wc.setCell ⟨g, 5, none⟩ (.int .i64 0)).setCell ⟨g, 6, none⟩ (.int .i64 q)).setCell ⟨g, 7, none⟩ (.int .i64 L2)).setCell ⟨g, 8, none⟩ (.int .i64 C2)).setCell ⟨g, 9, none⟩ (.int .i64 0)).setCell ⟨g, 10, none⟩ (.slice none 0 0)) g 0 q L2 C2 0 ByteArray.empty o (l ++ [⟨kk, T, b, L, C, f⟩])) := x13
      clear x13 v3 v4 v5 hcut xf c0 c1 c2 c3 c4 c5 c6 c7 c8 c9 c10 c11 c12 HTD HK1 yr hkc hbc
      go_wp2_with fail
      go_region_law (fail)
      all_goals (
        go_wp2_with fail
        go_end0
        exact ⟨rfl, HX.out.below (Below.refl _ _).drew⟩)

end Go.Proofs.YtnmjkgjhjnpijaaDoor
