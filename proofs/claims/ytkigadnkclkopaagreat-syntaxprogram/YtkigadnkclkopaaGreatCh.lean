import Derived.Test.YtkigadnkclkopaaGreatCg
set_option linter.unusedVariables false
set_option linter.unusedSimpArgs false
namespace Go.Proofs.YtkigadnkclkopaaGreat
open Go.RowKit

/-- What Build answers. -/
def bo (l : List Ev) : Nd × Int := match bld l [] with
  | some n => (n, 0)
  | none => (.mk 0 tv0 [], 130)
def BdP (l : List Ev) (W : World) (x : Ending) (w' : World) : Prop := ∃ sv, x = .returned (.tuple #[ndv (bo l).1.k (bo l).1.d sv, .int .i64 (bo l).2]) ∧ TN (fun k => W.heap.size ≤ k) w' (bo l).1 sv ∧ Below W.heap.size W w'
theorem rs_start {W : World} {l : List Ev} {ao : Option Addr} {cap : Nat} (h : Le W ao l) (h1 : l.length ≤ cap) (h2 : cap ≤ maxLen) (o : Obj) : RS W (W.heap.size + 1) (W.heap.size + 1 + 1) l ao cap (((W.alloc o).alloc (.cells #[.slice ao l.length cap] 41)).alloc (.cells #[readF (W.heap.size + 1) (W.heap.size + 1 + 1)] 82)) := by
  have e1 := size_al W o
  have e2 := size_al (W.alloc o) (.cells #[.slice ao l.length cap] 41)
  have b1 := below_new W o
  have b2 := below_new (W.alloc o) (.cells #[.slice ao l.length cap] 41)
  have b3 := below_new ((W.alloc o).alloc (.cells #[.slice ao l.length cap] 41)) (.cells #[readF (W.heap.size + 1) (W.heap.size + 1 + 1)] 82)
  refine ⟨(b1.trans (b2.mono b1.size)).trans (b3.mono (by omega)), ?_, ?_, h, h1, h2, by omega, by omega⟩
  · refine alloc_at' ?_ _
    rw [← e1]
    exact new_at _ _
  · rw [← e1, ← e2]
    exact new_at _ _
set_option maxRecDepth 100000 in
set_option maxHeartbeats 1000000 in
theorem build_any (l : List Ev) (W : World) (ao : Option Addr) (cap : Nat) (h : Le W ao l) (h1 : l.length ≤ cap) (h2 : cap ≤ maxLen) (hlen : l.length ≤ 1000000000) : Calls Tryz.prog 20 #[.slice ao l.length cap] W (BdP l W) := by
  have hmf : ∀ (fn : Fn) (first cap : Array Value) (w : World), (Instr.makeFunc fn first cap).run Tryz.prog w = .ok (.func fn first cap) w := fun _ _ _ _ => rfl
  obtain ⟨V3, eV⟩ : ∃ V3, ((W.alloc (NdB 0 tv0 (.slice none 0 0))).alloc (.cells #[.slice ao l.length cap] 41)).alloc (.cells #[readF (W.heap.size + 1) (W.heap.size + 1 + 1)] 82) = V3 := ⟨_, rfl⟩
  have H3 : Hid (RS W (W.heap.size + 1) (W.heap.size + 1 + 1) l ao cap V3 ∧ V3.heap[W.heap.size]? = some (NdB 0 tv0 (.slice none 0 0))) := by
    rw [← eV]
    exact ⟨rs_start h h1 h2 _, alloc_at' (alloc_at' (new_at _ _) _) _⟩
  have HO : Hid (∀ V wz k d s, Below W.heap.size W V → V.heap[W.heap.size]? = some (NdB 0 tv0 (.slice none 0 0)) → sets8 V W.heap.size k d s = wz → Below W.heap.size W wz ∧ wz.heap[W.heap.size]? = some (NdB k d s)) := fun V wz k d s hb hr e => by
    subst e
    exact ⟨Kp.low hb (sets8_kp _ _ _ _ _) (fun j e => by omega) hb.size, sets8_at hr _ _ _⟩
  cases l with
  | nil =>
    have e : bo [] = (.mk 0 tv0 [], 130) := rfl
    have hX : ∀ wz, Below W.heap.size W wz → BdP [] W (.returned (.tuple #[ndv 0 tv0 (.slice none 0 0), .int .i64 130])) wz := fun wz hb => ⟨.slice none 0 0, rfl, tn_nil _ _ _ _, hb⟩
    have HX := show Hid _ from hX
    obtain ⟨⟨y0, y1, y2, y3, y4, y5, y6, y7⟩, yl⟩ := nd_cells H3.out.2
    obtain ⟨f0, f1, f2, f3, f4, f5, f6, f7⟩ := nd_frozen H3.out.2
    clear hX e h h1 h2
    dsimp only [NdB, tv0, readF, List.length_nil] at eV
    go_enter Tryz.func20, Tryz.ntmps20
    go_upto_region 5 with fail
    try rw [eV]
    clear eV
    go_wp2_with fail
    obtain ⟨wz, ez⟩ : ∃ wz, sets8 V3 W.heap.size 0 tv0 (.slice none 0 0) = wz := ⟨_, rfl⟩
    obtain ⟨hz1, hz2⟩ := HO.out _ wz _ _ _ H3.out.1.bel H3.out.2 ez
    dsimp only [sets8, tv0] at ez
    rw [ez]
    obtain ⟨⟨x0, x1, x2, x3, x4, x5, x6, x7⟩, xl⟩ := nd_cells hz2
    refine bodyPost_ret (v := .tuple #[ndv 0 tv0 (.slice none 0 0), .int .i64 130]) (by simp [results, Tryz.f20, go_sem, x0, x1, x2, x3, x4, x5, x6, x7]) rfl ?_
    exact HX.out _ hz1
  | cons e r =>
    have HC : Hid (Calls Tryz.prog 39 #[.int .i64 0, .pointer (some ⟨W.heap.size + 1, 0, none⟩), .pointer (some ⟨W.heap.size + 1 + 1, 0, none⟩)] V3 (RdP W (W.heap.size + 1) (W.heap.size + 1 + 1) 0 (e :: r) V3)) := read_any W _ _ (e :: r) (by simp) hlen 0 ao cap V3 (by omega) (fun _ _ _ _ => rfl) H3.out.1
    have hl5 : ¬ ((r.length : Int) + 1 = 0) := by omega
    have hl6 : ((r.length : Int) + 1 == 0) = false := by simpa using hl5
    have hpc : V3.cell? ⟨W.heap.size + 1 + 1, 0, none⟩ = some (readF (W.heap.size + 1) (W.heap.size + 1 + 1)) := blk_cell H3.out.1.hp rfl
    have hpl := blk_lt H3.out.1.hp
    clear h h1 h2
    dsimp only [NdB, tv0, readF, List.length_cons] at eV
    go_enter Tryz.func20, Tryz.ntmps20
    go_upto_region 6 with fail
    try rw [eV]
    clear eV
    go_wp2_with fail
    refine HC.out.mono ?_
    rintro x w6 ⟨n6, sv6, ok6, r6, ao6, cap6, rfl, rs6, kp6, hl6', tn6, hok6⟩
    obtain ⟨p6, m6, c6, hsv6⟩ : ∃ p6 m6 c6, sv6 = .slice p6 m6 c6 := by
      obtain ⟨nk, ndd, ncc⟩ := n6
      rw [TN] at tn6
      obtain ⟨vs6, hrn6, _⟩ := tn6
      obtain ⟨pp, cp, e, _⟩ := hrn6.shape
      exact ⟨pp, _, cp, e⟩
    subst hsv6
    have HTk : Hid (∀ V, Calls Tryz.prog 30 #[ndv n6.k n6.d (.slice p6 m6 c6)] V fun r w' => r = .returned (.bool (n6.k == 0)) ∧ Below V.heap.size V w') := fun V => isTok_any n6.k n6.d p6 m6 c6 V
    have r6b : w6.heap[W.heap.size]? = some (NdB 0 tv0 (.slice none 0 0)) := kp6.blk H3.out.2 (by omega)
    have H6 : Hid (RS W (W.heap.size + 1) (W.heap.size + 1 + 1) r6 ao6 cap6 w6 ∧ w6.heap[W.heap.size]? = some (NdB 0 tv0 (.slice none 0 0)) ∧ TN (fun k => V3.heap.size ≤ k) w6 n6 (.slice p6 m6 c6)) := ⟨rs6, r6b, tn6⟩
    have hV3 : W.heap.size < V3.heap.size := blk_lt H3.out.2
    have Hok : Hid (bld (e :: r) [] = if ok6 then aft r6 n6 [] else none) := by
      cases ok6
      · exact hok6 [] rfl
      · exact hok6 [] rfl
    clear hok6 rs6 kp6 tn6 r6b
    have HBAD : Hid (bld (e :: r) [] = none → ∀ V wz, Below w6.heap.size w6 V → sets8 V W.heap.size 0 tv0 (.slice none 0 0) = wz → BdP (e :: r) W (.returned (.tuple #[ndv 0 tv0 (.slice none 0 0), .int .i64 130])) wz ∧ wz.heap[W.heap.size]? = some (NdB 0 tv0 (.slice none 0 0))) := fun hb V wz hbl ez => by
      obtain ⟨hz1, hz2⟩ := HO.out V wz _ _ _ (H6.out.1.bel.trans (hbl.mono H6.out.1.bel.size)) (blk_below H6.out.2.1 hbl) ez
      have e : bo (e :: r) = (.mk 0 tv0 [], 130) := by unfold bo; rw [hb]
      refine ⟨⟨.slice none 0 0, ?_, ?_, hz1⟩, hz2⟩
      · rw [e]; rfl
      · rw [e]; exact tn_nil _ _ _ _
    have HGOOD : Hid (bld (e :: r) [] = some n6 → ∀ V wz, Below w6.heap.size w6 V → sets8 V W.heap.size n6.k n6.d (.slice p6 m6 c6) = wz → BdP (e :: r) W (.returned (.tuple #[ndv n6.k n6.d (.slice p6 m6 c6), .int .i64 0])) wz ∧ wz.heap[W.heap.size]? = some (NdB n6.k n6.d (.slice p6 m6 c6))) := fun hb V wz hbl ez => by
      obtain ⟨hz1, hz2⟩ := HO.out V wz _ _ _ (H6.out.1.bel.trans (hbl.mono H6.out.1.bel.size)) (blk_below H6.out.2.1 hbl) ez
      have e : bo (e :: r) = (n6, 0) := by unfold bo; rw [hb]
      refine ⟨⟨.slice p6 m6 c6, ?_, ?_, hz1⟩, hz2⟩
      · rw [e]
      · rw [e, ← ez]
        exact TN.sub (fun b _ h => by omega) _ _ (TN.kp (sets8_kp _ _ _ _ _) (fun b h1 h2 => by omega) _ _ (TN.kp (Kp.of_below (S := fun _ => False) hbl) (fun _ _ h => h) _ _ H6.out.2.2))
    obtain ⟨W7, eW7⟩ : ∃ W7, w6.alloc (NdB n6.k n6.d (.slice p6 m6 c6)) = W7 := ⟨_, rfl⟩
    have H7 : Hid (Below w6.heap.size w6 W7 ∧ W7.heap[w6.heap.size]? = some (NdB n6.k n6.d (.slice p6 m6 c6))) := by rw [← eW7]; exact ⟨below_new _ _, new_at _ _⟩
    go_upto_region 7 with fail
    try rw [eW7]
    clear eW7
    have HRb : Hid (∀ V, Below w6.heap.size w6 V → V.heap[W.heap.size]? = some (NdB 0 tv0 (.slice none 0 0)) ∧ V.cell? ⟨W.heap.size + 1, 0, none⟩ = some (.slice ao6 r6.length cap6) ∧ W.heap.size + 1 < V.heap.size) := fun V hb => ⟨blk_below H6.out.2.1 hb, blk_cell (blk_below H6.out.1.hg hb) rfl, blk_lt (blk_below H6.out.1.hg hb)⟩
    obtain ⟨⟨i0, i1, i2, i3, i4, i5, i6, i7⟩, il⟩ := nd_cells H7.out.2
    cases ok6 with
    | false =>
      obtain ⟨q1, q2, q3⟩ := HRb.out W7 H7.out.1
      obtain ⟨⟨y0, y1, y2, y3, y4, y5, y6, y7⟩, yl⟩ := nd_cells q1
      obtain ⟨f0, f1, f2, f3, f4, f5, f6, f7⟩ := nd_frozen q1
      have HE : Hid (bld (e :: r) [] = none) := by have := Hok.out; unfold Hid; simpa using this
      clear q1 HC
      go_wp2_with fail
      obtain ⟨wz, ez⟩ : ∃ wz, sets8 W7 W.heap.size 0 tv0 (.slice none 0 0) = wz := ⟨_, rfl⟩
      obtain ⟨hz1, hz2⟩ := HBAD.out HE.out _ wz H7.out.1 ez
      dsimp only [sets8, tv0] at ez
      rw [ez]
      obtain ⟨⟨x0, x1, x2, x3, x4, x5, x6, x7⟩, xl⟩ := nd_cells hz2
      refine bodyPost_ret (v := .tuple #[ndv 0 tv0 (.slice none 0 0), .int .i64 130]) (by simp [results, Tryz.f20, go_sem, x0, x1, x2, x3, x4, x5, x6, x7]) rfl ?_
      exact hz1
    | true =>
      by_cases hk0 : n6.k = 0
      · have hkb : (n6.k == 0) = true := by simpa using hk0
        rw [hkb] at HTk
        have HE : Hid (bld (e :: r) [] = none) := by have := Hok.out; unfold Hid; simpa [aft, hk0] using this
        clear hkb hk0
        go_wp2_with fail
        refine (HTk.out _).mono ?_
        rintro x w8 ⟨rfl, hb8⟩
        have H8 : Hid (Below w6.heap.size w6 w8) := H7.out.1.trans (hb8.mono H7.out.1.size)
        obtain ⟨q1, q2, q3⟩ := HRb.out w8 H8.out
        obtain ⟨⟨y0, y1, y2, y3, y4, y5, y6, y7⟩, yl⟩ := nd_cells q1
        obtain ⟨f0, f1, f2, f3, f4, f5, f6, f7⟩ := nd_frozen q1
        clear q1 HC hb8
        go_wp2_with fail
        obtain ⟨wz, ez⟩ : ∃ wz, sets8 w8 W.heap.size 0 tv0 (.slice none 0 0) = wz := ⟨_, rfl⟩
        obtain ⟨hz1, hz2⟩ := HBAD.out HE.out _ wz H8.out ez
        dsimp only [sets8, tv0] at ez
        rw [ez]
        obtain ⟨⟨x0, x1, x2, x3, x4, x5, x6, x7⟩, xl⟩ := nd_cells hz2
        refine bodyPost_ret (v := .tuple #[ndv 0 tv0 (.slice none 0 0), .int .i64 130]) (by simp [results, Tryz.f20, go_sem, x0, x1, x2, x3, x4, x5, x6, x7]) rfl ?_
        exact hz1
      · have hkb : (n6.k == 0) = false := by simpa using hk0
        rw [hkb] at HTk
        have HE : Hid (bld (e :: r) [] = if r6 = [] then some n6 else none) := by have := Hok.out; unfold Hid; simpa [aft, hk0] using this
        clear hkb hk0
        go_wp2_with fail
        refine (HTk.out _).mono ?_
        rintro x w8 ⟨rfl, hb8⟩
        have H8 : Hid (Below w6.heap.size w6 w8) := H7.out.1.trans (hb8.mono H7.out.1.size)
        obtain ⟨q1, q2, q3⟩ := HRb.out w8 H8.out
        obtain ⟨⟨y0, y1, y2, y3, y4, y5, y6, y7⟩, yl⟩ := nd_cells q1
        obtain ⟨f0, f1, f2, f3, f4, f5, f6, f7⟩ := nd_frozen q1
        have q4 := blk_below H7.out.2 hb8
        obtain ⟨⟨j0, j1, j2, j3, j4, j5, j6, j7⟩, jl⟩ := nd_cells q4
        clear q1 q4 HC hb8
        cases r6 with
        | nil =>
          have q2' : w8.cell? ⟨W.heap.size + 1, 0, none⟩ = some (.slice ao6 0 cap6) := q2
          clear q2
          go_wp2_with fail
          obtain ⟨wz, ez⟩ : ∃ wz, sets8 w8 W.heap.size n6.k n6.d (.slice p6 m6 c6) = wz := ⟨_, rfl⟩
          obtain ⟨hz1, hz2⟩ := HGOOD.out (by have := HE.out; simpa using this) _ wz H8.out ez
          dsimp only [sets8] at ez
          rw [ez]
          obtain ⟨⟨x0, x1, x2, x3, x4, x5, x6, x7⟩, xl⟩ := nd_cells hz2
          refine bodyPost_ret (v := .tuple #[ndv n6.k n6.d (.slice p6 m6 c6), .int .i64 0]) (by simp [results, Tryz.f20, go_sem, x0, x1, x2, x3, x4, x5, x6, x7]) rfl ?_
          exact hz1
        | cons e7 r7 =>
          have q2' : w8.cell? ⟨W.heap.size + 1, 0, none⟩ = some (.slice ao6 (r7.length + 1) cap6) := q2
          have hl7 : (0 : Int) < (r7.length : Int) + 1 := by omega
          clear q2
          go_wp2_with fail
          obtain ⟨wz, ez⟩ : ∃ wz, sets8 w8 W.heap.size 0 tv0 (.slice none 0 0) = wz := ⟨_, rfl⟩
          obtain ⟨hz1, hz2⟩ := HBAD.out (by have := HE.out; simpa using this) _ wz H8.out ez
          dsimp only [sets8, tv0] at ez
          rw [ez]
          obtain ⟨⟨x0, x1, x2, x3, x4, x5, x6, x7⟩, xl⟩ := nd_cells hz2
          refine bodyPost_ret (v := .tuple #[ndv 0 tv0 (.slice none 0 0), .int .i64 130]) (by simp [results, Tryz.f20, go_sem, x0, x1, x2, x3, x4, x5, x6, x7]) rfl ?_
          exact hz1

end Go.Proofs.YtkigadnkclkopaaGreat
