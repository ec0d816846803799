import Derived.Shelf.Strings.BuilderK
import Derived.Test.YtojjfbnpjhjidaaGreatDoorM24
import Derived.Test.YtojjfbnpjhjidaaGreatDoorM39
set_option linter.unusedVariables false
set_option linter.unusedSimpArgs false
namespace Go.Proofs.YtojjfbnpjhjidaaGreatDoor
open Go.Shelf Go.RowKit
def Tryz.lays169_ren : Go.Shelf.Ren := ⟨fun | 169 => 21 | n => n, fun | 70 => 62 | 9 => 9 | 0 => 0 | 72 => 64 | 37 => 61 | 127 => 88 | 3 => 3 | 5 => 5 | n => n, fun | n => n⟩
theorem Tryz.lays169 : Go.Proofs.Lays.n169 Tryz.prog Tryz.lays169_ren := {
  mixed := by kernel_rfl
  f169 := Tryz.func21.trans (congrArg some (by kernel_rfl))
  t0 := Tryz.underlying0
  a0 := Tryz.isAgg0
  z0 := Tryz.sizeOf0
  v0 := Tryz.zeroValue0
  t3 := Tryz.underlying3
  a3 := Tryz.isAgg3
  z3 := Tryz.sizeOf3
  v3 := Tryz.zeroValue3
  t9 := Tryz.underlying9
  a9 := Tryz.isAgg9
  z9 := Tryz.sizeOf9
  v9 := Tryz.zeroValue9
  t37 := Tryz.underlying61
  a37 := Tryz.isAgg61
  z37 := Tryz.sizeOf61
  v37 := Tryz.zeroValue61
  t70 := Tryz.underlying62
  a70 := Tryz.isAgg62
  z70 := Tryz.sizeOf62
  v70 := Tryz.zeroValue62
  t72 := Tryz.underlying64
  a72 := Tryz.isAgg64
  z72 := Tryz.sizeOf64
  v72 := Tryz.zeroValue64
  t127 := Tryz.underlying88
  a127 := Tryz.isAgg88
  z127 := Tryz.sizeOf88
  v127 := Tryz.zeroValue88 }
theorem Tryz.Builder_Extra_169 : Builder.Extra Tryz.prog Tryz.lays169_ren := {
  sizeBuilder := by kernel_rfl
  liesBuilder := by kernel_rfl
  t5 := Tryz.underlying5
  a5 := Tryz.isAgg5
  z5 := Tryz.sizeOf5
  v5 := Tryz.zeroValue5
  infoByte := by kernel_rfl
  cellsByte := by kernel_rfl
  sizeByte := by kernel_rfl
  neB5 := by decide }
theorem bstr (B b : Nat) (l : List UInt8) (w : World) (h : Lib.IsBuilder 64 5 B b (Lib.byteCells l) w) (hBw : B ≤ w.heap.size) :
    Calls Tryz.prog 21 #[.pointer (some ⟨b, 0, none⟩)] w fun e w' => e = .returned (.string ⟨l.toArray⟩) ∧ Below B w w' ∧ Lib.OthersKept 5 (some b) w w' := (Any.Builder_String_any_k Tryz.lays169 Tryz.Builder_Extra_169 B b l w (Lib.IsBuilderF.of h) hBw).mono fun e w' h => ⟨h.1, h.2.2⟩
end Go.Proofs.YtojjfbnpjhjidaaGreatDoor
namespace Go.Proofs.YtojjfbnpjhjidaaGreatDoor
open Go.RowKit Go.Shelf
attribute [local go_sem] Oper.semAt_some
set_option maxHeartbeats 2000000 in
set_option maxRecDepth 100000 in
theorem nst_any {s : ByteArray} {L : List Tv} {R : ByteArray} {E x y z : Int} {W : World} (hl : L.length ≤ 100000000) (hs : s.size ≤ 4294967296) (hc : E = 0 → Chn s 0 L) (HR : Hid ((E = 0 → R = stb s L 0) ∧ (E ≠ 0 → R = ⟨#[]⟩)))
    (HS : Hid (∀ V, Below W.heap.size W V → Calls Tryz.prog 24 #[.string s] V (AlP V E x y z L))) :
    Calls Tryz.prog 11 #[.string s] W (ScP W E x y z R) := by
  refine (callsIn_wide (n := 9)).1 ?_
  refine callsIn_of_wp_marks Tryz.func11 rfl trivial ?_ rfl
  simp only [Tryz.ntmps11, List.size_toArray, List.length_cons, List.length_nil, Nat.reduceAdd, Nat.reduceSub, Array.replicate_succ, Array.replicate_zero, List.push_toArray, List.append_toArray, List.nil_append, List.cons_append]
  have hbx : Below W.heap.size W (W.alloc (.cells #[.string s] 9)) := (Below.refl _ _).alloc (Nat.le_refl _) _
  have HT : Hid (Calls Tryz.prog 15 #[.string s] (W.alloc (.cells #[.string s] 9)) (TkP (W.alloc (.cells #[.string s] 9)) E x y z L)) := tks_any (HS.out _ hbx)
  have HX : Hid (Below W.heap.size W (W.alloc (.cells #[.string s] 9))) := hbx
  clear hbx HS
  gi_wp2
  refine ⟨trivial, ?_⟩
  refine (callsIn_wide.2 HT.out).mono ?_
  rintro r w1 ⟨v, er, rfl, he, hv, hb1⟩
  have hbW : Below W.heap.size W w1 := HX.out.trans (hb1.mono HX.out.size)
  have hsb : w1.heap[W.heap.size]? = some (.cells #[.string s] 9 (0, 0)) := blk_below (new_at _ _) hb1
  obtain ⟨h, hh⟩ : ∃ h, W.heap.size = h := ⟨_, rfl⟩
  rcases he with ⟨h0, rfl⟩ | ⟨h0, g, rfl, hg⟩
  rotate_left
  · obtain rfl := HR.out.2 h0
    have H1 : Hid (w1.heap[g]? = some (ftb E x y z) ∧ Below W.heap.size W w1) := ⟨hg, hbW⟩
    clear hg hb1 hv hbW hsb HX HT
    gi_wp2
    refine ⟨.tuple #[.string ⟨#[]⟩, ftp g], by simp [results, Tryz.f11, go_sem], ?_⟩
    exact ⟨_, rfl, .inr ⟨h0, g, rfl, H1.out.1⟩, H1.out.2⟩
  · have HR2 : Hid (R = stb s L 0) := HR.out.1 h0
    have hc2 := hc h0
    subst h0
    have hv' := rt_lw (hv rfl) (A := W.heap.size) (by rw [World.size_alloc]; omega)
    obtain ⟨ao, cap, rfl, hL, -, -, -⟩ := Lt.row hv'
    clear hb1 hv HX HT HR hc
    gi_wp2
    refine ⟨trivial, ?_⟩
    refine (callsIn_wide.2 (cmts_any _ _ _ _)).mono ?_
    rintro r w2 ⟨rfl, rfl⟩
    gi_wp2
    obtain ⟨b, hb⟩ : ∃ b, w1.heap.size = b := ⟨_, rfl⟩
    obtain ⟨W0, hW0⟩ : ∃ W0, ((w1.alloc (btB none (.slice none 0 0))).alloc (.cells #[.int .i64 0] 3)).alloc (.cells #[.slice ao L.length cap] 44) = W0 := ⟨_, rfl⟩
    rw [hb]
    have e1 : (w1.alloc (btB none (.slice none 0 0))).heap.size = b + 1 := by rw [World.size_alloc, hb]
    have e2 : ((w1.alloc (btB none (.slice none 0 0))).alloc (.cells #[.int .i64 0] 3)).heap.size = b + 2 := by rw [World.size_alloc, e1]
    have hW : Below w1.heap.size w1 W0 := by rw [← hW0]; exact (((Below.refl _ _).alloc (Nat.le_refl _) _).alloc (by rw [e1]; omega) _).alloc (by rw [e2]; omega) _
    have hsz : W0.heap.size = b + 3 := by rw [← hW0, World.size_alloc, e2]
    have hWb : W.heap.size ≤ b := by rw [← hb]; exact hbW.size
    have hhb : h < b := by rw [← hb, ← hh]; exact blk_lt hsb
    obtain ⟨D, hD⟩ : ∃ D, (cms L 0 0).map (·.1) = D := ⟨_, rfl⟩
    have h0 : CS W h b (.slice ao L.length cap) s L D 0 W0 := by
      refine ⟨⟨hbW.trans (hW.mono hbW.size), hv'.below hW, by rw [← hh]; exact blk_below hsb hW, ?_⟩, 0, ⟨#[]⟩, .slice none 0 0, ?_, ⟨⟨none, .inl rfl, ?_⟩, rb_nil _ _⟩, ?_, Nat.zero_le _, ?_, Nat.zero_le _⟩
      · rw [← hW0, ← e2]; exact new_at _ _
      · rw [← hW0, ← e1]; exact alloc_at' (new_at _ _) _
      · rw [← hW0, ← hb]; exact alloc_at' (alloc_at' (new_at _ _) _) _
      · rw [nil_cat, List.drop_zero, ← hD]; exact stb_cms s L 0 0 0
      · rw [List.drop_zero, ← hD]; exact chn_cms s L 0 0 0 hc2
    rw [hW0]
    have HD : Hid ((cms L 0 0).map (·.1) = D ∧ D.length ≤ L.length) := ⟨hD, by rw [← hD, List.length_map]; have h1 := congrArg List.length (cms_rmk L 0 0); rw [List.length_map] at h1; rw [h1]; exact rmk_len L 0 0⟩
    have hlen : (cms L 0 0).length = D.length := by rw [← hD, List.length_map]
    clear hW0 e1 e2 hW hv' hL hbW hsb hc2 hD hh
    refine wpIn_goes rfl (by omega) (gf := 25) (lb := #[.pointer (some ⟨b + 1 + 1, 0, none⟩)]) rfl trivial (enters_of Tryz.func25 (by kernel_rfl) rfl) (cmts_goes 8 (by omega) (b + 1 + 1) ao L cap hl) (fun j => rfl) (fun j V => CS W h b (.slice ao L.length cap) s L D j V)
      (fun j A B row c hg hr => c.own hg (fun r e => ⟨by have := (hr r e).1; omega, (hr r e).2⟩)) (fun j V c => ⟨blk_cell c.cb.lb rfl, by obtain ⟨a9, c9, e9, h9, _⟩ := Lt.row c.cb.rt; cases e9; exact h9⟩) h0
      (fun j a' V => ∃ q d u19 u20, D[j]? = some d ∧ ntB d = true ∧ V.heap[q]? = some (.cells #[.int .u8 d.k, .string d.t, .int .i64 d.a, .int .i64 d.l, .int .i64 d.c, .int .i64 d.f] 50 (0, 0)) ∧ a' = { tmps := #[.string s, .pointer (some ⟨h, 0, none⟩), .string ⟨#[]⟩, .nilIface, .slice ao L.length cap, .nilIface, .pointer (some ⟨b, 0, none⟩), .pointer (some ⟨b + 1, 0, none⟩), .pointer (some ⟨q, 0, none⟩), .tuple #[.slice ao L.length cap, .nilIface], .string s, .tuple #[.slice ao L.length cap, .nilIface], .slice ao L.length cap, .nilIface, .nilIface, .bool false, undef, .slice ao L.length cap, .func (.func 25) #[] #[.pointer (some ⟨b + 1 + 1, 0, none⟩)], u19, u20, undef, undef, undef, undef, undef, undef, undef, undef, undef, undef, undef, undef, undef, undef, undef, undef, undef, undef, undef, undef, undef, undef, undef], defers := [] })
      (fun j a' u A B row c hg hr => by obtain ⟨q, d, u19, u20, h1, h2, h3, h4⟩ := c; exact ⟨q, d, u19, u20, h1, h2, keeps_cell hg (fun r e => (hr r e).2) h3, h4⟩) ?assign ?body ?done
    case assign =>
      intro lp j V K hj hi hK
      obtain ⟨d, hd⟩ : ∃ d, (cms L 0 0)[j]? = some d := ⟨_, List.getElem?_eq_getElem hj⟩
      have hR : D[j]? = some d.1 := by rw [← HD.out.1, List.getElem?_map, hd]; rfl
      have hn : ntB d.1 = true := cms_nt L 0 0 d.1 (by rw [HD.out.1]; exact List.mem_of_getElem? hR)
      rw [itC_at hd]
      dsimp only [Tv.v, Rmk.v]
      gi_wp2
      have hbA : Below V.heap.size V (V.alloc (.cells #[.int .u8 d.1.k, .string d.1.t, .int .i64 d.1.a, .int .i64 d.1.l, .int .i64 d.1.c, .int .i64 d.1.f] 50)) := (Below.refl _ _).alloc (Nat.le_refl _) _
      exact hK _ _ (kf_below hbA) (hi.below hbA) ⟨V.heap.size, d.1, _, _, hR, hn, new_at _ _, rfl⟩
    case body =>
      rintro lp j a' V hj hi ⟨q, d, u19, u20, hd, hn, hq, rfl⟩
      have hjl : j ≤ 100000000 := by have := HD.out.2; omega
      obtain ⟨a, u, X, yv, c1, c2, c3, c4, c5, c6, c7⟩ := hi.cut hWb hd hn
      have s0 : V.cell? ⟨h, 0, none⟩ = some (.string s) := blk_cell hi.cb.sb rfl
      have u0 : V.cell? ⟨b + 1, 0, none⟩ = some (.int .i64 u) := blk_cell c4 rfl
      have d0 : V.cell? ⟨q, 0, none⟩ = some (.int .u8 d.k) := blk_cell hq rfl
      have d1 : V.cell? ⟨q, 1, none⟩ = some (.string d.t) := blk_cell hq rfl
      have d2 : V.cell? ⟨q, 2, none⟩ = some (.int .i64 a) := by rw [← c1]; exact blk_cell hq rfl
      have ze : (s.extract u a).size = a - u := by rw [ByteArray.size_extract]; omega
      have HW1 : Hid (Calls Tryz.prog 19 #[.pointer (some ⟨b, 0, none⟩), .string (s.extract u a)] V fun e w' => e = .returned (.tuple #[.int .i64 (s.extract u a).size, .nilIface]) ∧ Bz W.heap.size b (X ++ s.extract u a) yv V w') := bws_any c5 hi.cb.bel.size (by omega)
      obtain ⟨e, he⟩ : ∃ e, a + d.t.size = e := ⟨_, rfl⟩
      have he' : (a : Int) + d.t.size = e := by omega
      rw [he] at c7 c3
      have HM : Hid (∀ w1, Bz W.heap.size b (X ++ s.extract u a) yv V w1 → CM W h b (.slice ao L.length cap) s L D j d.k e u V w1) := c7
      have HQ : Hid (V.heap[q]? = some (.cells #[.int .u8 d.k, .string d.t, .int .i64 d.a, .int .i64 d.l, .int .i64 d.c, .int .i64 d.f] 50 (0, 0)) ∧ d.a = a) := ⟨hq, c1⟩
      clear c7 c5 c4 hi hd hq he c1 h0 hlen hj
      gi_wp2
      refine ⟨trivial, ?_⟩
      refine (CallsIn.inRound lp (callsIn_wide.2 HW1.out)).mono ?_
      rintro r w3 ⟨rfl, hz3⟩
      have hm3 := HM.out w3 hz3
      have hq3 := hm3.ot _ _ _ _ HQ.out.1 (by decide) (by decide)
      rw [HQ.out.2] at hq3
      clear s0 u0 d0 d1 d2 HM HW1 hz3
      have k0 : w3.cell? ⟨q, 0, none⟩ = some (.int .u8 d.k) := blk_cell hq3 rfl
      by_cases h8 : d.k = 8
      · rw [h8] at hm3 k0
        obtain ⟨X2, y2, m1, m2, m3⟩ := hm3.byte hWb
        have hes := hm3.es
        have HW2 : Hid (Calls Tryz.prog 20 #[.pointer (some ⟨b, 0, none⟩), .int .u8 32] w3 fun e w' => e = .returned .nilIface ∧ Bz W.heap.size b (X2 ++ ⟨#[32]⟩) y2 w3 w') := bwb_any m1 hm3.cb.bel.size (by omega)
        have HM : Hid (∀ w1, Bz W.heap.size b (X2 ++ ⟨#[32]⟩) y2 w3 w1 → CM W h b (.slice ao L.length cap) s L D j 7 e u V w1) := m3
        clear m1 m2 m3 hm3 hq3
        gi_wp2
        refine ⟨trivial, ?_⟩
        refine (CallsIn.inRound lp (callsIn_wide.2 HW2.out)).mono ?_
        rintro r w4 ⟨rfl, hz4⟩
        have hm4 := HM.out w4 hz4
        have hq4 := hm4.ot _ _ _ _ HQ.out.1 (by decide) (by decide)
        rw [HQ.out.2] at hq4
        have k1 : w4.cell? ⟨q, 1, none⟩ = some (.string d.t) := blk_cell hq4 rfl
        have k2 : w4.cell? ⟨q, 2, none⟩ = some (.int .i64 a) := blk_cell hq4 rfl
        have k3 : w4.cell? ⟨b + 1, 0, none⟩ = some (.int .i64 u) := blk_cell hm4.en rfl
        have k4 : w4.frozen? ⟨b + 1, 0, none⟩ = false := blk_frozen hm4.en
        have HF : Hid (CS W h b (.slice ao L.length cap) s L D (j + 1) (w4.setCell ⟨b + 1, 0, none⟩ (.int .i64 e)) ∧ KeepsFrom W.heap.size V (w4.setCell ⟨b + 1, 0, none⟩ (.int .i64 e))) := hm4.fin hWb (by decide) hhb
        clear hm4 hq4 hz4 HM HW2 k0
        gi_wp2
        exact ⟨⟨HF.out.2.size, fun k o hk => HF.out.2.same k o (by omega)⟩, HF.out.1⟩
      · have q8 : (d.k == 8) = false := by simpa using h8
        have k1 : w3.cell? ⟨q, 1, none⟩ = some (.string d.t) := blk_cell hq3 rfl
        have k2 : w3.cell? ⟨q, 2, none⟩ = some (.int .i64 a) := blk_cell hq3 rfl
        have k3 : w3.cell? ⟨b + 1, 0, none⟩ = some (.int .i64 u) := blk_cell hm3.en rfl
        have k4 : w3.frozen? ⟨b + 1, 0, none⟩ = false := blk_frozen hm3.en
        have HF : Hid (CS W h b (.slice ao L.length cap) s L D (j + 1) (w3.setCell ⟨b + 1, 0, none⟩ (.int .i64 e)) ∧ KeepsFrom W.heap.size V (w3.setCell ⟨b + 1, 0, none⟩ (.int .i64 e))) := hm3.fin hWb h8 hhb
        clear hm3 hq3
        gi_wp2
        exact ⟨⟨HF.out.2.size, fun k o hk => HF.out.2.same k o (by omega)⟩, HF.out.1⟩
    case done =>
      intro Df V hDf hi hdef
      obtain ⟨u, X, yv, c4, c5, c6, c7, c8, c9⟩ := hi.st
      rw [hlen, List.drop_length] at c6
      have hD2 := HD.out.2
      have s0 : V.cell? ⟨h, 0, none⟩ = some (.string s) := blk_cell hi.cb.sb rfl
      have u0 : V.cell? ⟨b + 1, 0, none⟩ = some (.int .i64 u) := blk_cell c4 rfl
      have ze : (s.extract u s.size).size = s.size - u := by rw [ByteArray.size_extract]; omega
      have HW1 : Hid (Calls Tryz.prog 19 #[.pointer (some ⟨b, 0, none⟩), .string (s.extract u s.size)] V fun e w' => e = .returned (.tuple #[.int .i64 (s.extract u s.size).size, .nilIface]) ∧ Bz W.heap.size b (X ++ s.extract u s.size) yv V w') := bws_any c5 hi.cb.bel.size (by omega)
      have HC : Hid (∀ w3, Bz W.heap.size b (X ++ s.extract u s.size) yv V w3 → Below W.heap.size W w3 ∧ w3.heap[Df]? = some (.deferred (some [])) ∧ ∃ y3, Bu W.heap.size b (stb s L 0) w3 y3) := fun w3 hz => by
        obtain ⟨y3, z1, z2⟩ := hz
        refine ⟨(hi.cb.wr hWb c5 z2).bel, (c5.kf z2 W.heap.size).same _ _ (by omega) hdef rfl, y3, ?_⟩
        rw [← c6]
        exact z1
      clear hi c4 c5 c6 c8 h0 hlen
      gi_wp2
      refine ⟨trivial, ?_⟩
      refine (callsIn_wide.2 HW1.out).mono ?_
      rintro r w3 ⟨rfl, hz3⟩
      obtain ⟨n1, n2, y3, n3⟩ := HC.out w3 hz3
      have HB : Hid (Calls Tryz.prog 21 #[.pointer (some ⟨b, 0, none⟩)] w3 fun e w' => e = .returned (.string ⟨(stb s L 0).data.toList.toArray⟩) ∧ Below W.heap.size w3 w' ∧ Lib.OthersKept 5 (some b) w3 w') := bstr W.heap.size b _ w3 (n3.is hWb) n1.size
      have HN : Hid (Below W.heap.size W w3 ∧ w3.heap[Df]? = some (.deferred (some []))) := ⟨n1, n2⟩
      clear n1 n2 n3 hz3 HC HW1 s0 u0
      gi_wp2
      refine ⟨trivial, ?_⟩
      refine (callsIn_wide.2 HB.out).mono ?_
      rintro r w4 ⟨rfl, o1, o2⟩
      have HZ : Hid (Below W.heap.size W w4 ∧ w4.heap[Df]? = some (.deferred (some []))) := ⟨HN.out.1.trans o1, o2 _ _ HN.out.2 (by simp; omega) (by simp)⟩
      clear o1 o2 HN HB
      gi_wp2
      have hg := grownBy_putObj' w4 Df (.deferred none)
      refine ⟨by simp, .inl ⟨_, _, rfl, run_takeDeferred HZ.out.2, ?_⟩⟩
      refine ⟨.tuple #[.string R, .nilIface], by rw [HR2.out]; simp [results, Tryz.f11, go_sem], ?_⟩
      exact ⟨_, rfl, .inl ⟨rfl, rfl⟩, HZ.out.1.grown hg HZ.out.1.size (fun r e => by cases e; omega)⟩
end Go.Proofs.YtojjfbnpjhjidaaGreatDoor
namespace Go.Proofs.YtojjfbnpjhjidaaGreatDoor
open Go.RowKit
theorem en_iff (s : ByteArray) : eN s = 0 ↔ (Lx.scn s).2.1 = 0 := by
  unfold eN
  omega
theorem nof_cal {s : ByteArray} {W : World} (hT : Lx.Kab W) (hs : s.size ≤ 2147483647) (hl : (ntk s).length ≤ 100000000) : Calls Tryz.prog 7 #[.string s] W (OcP W (eN s) (eX s) (eY s) (eZ s) (rem s)) :=
  nof_any hl ⟨fun h => if_pos ((en_iff s).1 h), fun h => if_neg (fun e => h ((en_iff s).2 e))⟩ ((Lx.all_any s W hT hs).mono fun e w' h => alp_of h)
theorem nst_cal {s : ByteArray} {W : World} (hT : Lx.Kab W) (hs : s.size ≤ 2147483647) (hl : (ntk s).length ≤ 100000000) : Calls Tryz.prog 11 #[.string s] W (ScP W (eN s) (eX s) (eY s) (eZ s) (str s)) :=
  nst_any hl (by omega) (fun _ => ntk_chn s) ⟨fun h => if_pos ((en_iff s).1 h), fun h => if_neg (fun e => h ((en_iff s).2 e))⟩ (fun V hb => (Lx.all_any s V (hT.below hb) hs).mono fun e w' h => alp_of h)
theorem nawk1 : (eN nsrc, eX nsrc, eY nsrc, eZ nsrc) = (0, 0, 0, 0) := by kernel_rfl
theorem nawk2 : (eN nsrd, eX nsrd, eY nsrd, eZ nsrd) = (0, 0, 0, 0) := by kernel_rfl
theorem nawk3 : rem nsrc = nrem := by kernel_rfl
theorem nawk4 : str nsrd = nout := by kernel_rfl
theorem ntk_sz {s : ByteArray} {n : Nat} (h : s.size ≤ n) : (ntk s).length ≤ n := Nat.le_trans (ntk_len s) h
theorem nawk_any {W : World} (hT : Lx.Kab W) : Calls Tryz.prog 5 #[] W fun r w' => r = .returned (.bool true) ∧ Below W.heap.size W w' := by
  refine nawk_walk (fun V hb => ?_) (fun V hb => ?_)
  · have h := nof_cal (s := nsrc) (hT.below hb) (by decide) (ntk_sz (by decide))
    obtain ⟨e1, e2⟩ := Prod.mk.inj nawk1
    obtain ⟨e2, e3⟩ := Prod.mk.inj e2
    obtain ⟨e3, e4⟩ := Prod.mk.inj e3
    rw [e1, e2, e3, e4, nawk3] at h
    exact h
  · have h := nst_cal (s := nsrd) (hT.below hb) (by decide) (ntk_sz (by decide))
    obtain ⟨e1, e2⟩ := Prod.mk.inj nawk2
    obtain ⟨e2, e3⟩ := Prod.mk.inj e2
    obtain ⟨e3, e4⟩ := Prod.mk.inj e3
    rw [e1, e2, e3, e4, nawk4] at h
    exact h
end Go.Proofs.YtojjfbnpjhjidaaGreatDoor
