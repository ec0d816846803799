import Derived.Test.YthbgipmkdcffnaaCk
set_option linter.unusedVariables false
set_option linter.unusedSimpArgs false
namespace Go.Proofs.Ythbgipmkdcffnaa
open Go.RowKit

/-! The law's same, of equal rows; awake. -/
theorem Le.at {w : World} {ao : Option Addr} {l : List Ev} (h : Le w ao l) {V : World} (hb : Below w.heap.size w V) {j : Nat} {d : Ev} (hj : l[j]? = some d) : ∃ b off, ao = some ⟨b, off, none⟩ ∧ b < V.heap.size ∧
    V.cell? ⟨b, off + j * 8, none⟩ = some (.int .u8 d.k) ∧ V.cell? ⟨b, off + j * 8 + 1, none⟩ = some (.int .u8 d.n) ∧ V.cell? ⟨b, off + j * 8 + 2, none⟩ = some (.int .u8 d.d.k) ∧ V.cell? ⟨b, off + j * 8 + 3, none⟩ = some (.string d.d.t) ∧ V.cell? ⟨b, off + j * 8 + 4, none⟩ = some (.int .i64 d.d.a) ∧ V.cell? ⟨b, off + j * 8 + 5, none⟩ = some (.int .i64 d.d.l) ∧ V.cell? ⟨b, off + j * 8 + 6, none⟩ = some (.int .i64 d.d.c) ∧ V.cell? ⟨b, off + j * 8 + 7, none⟩ = some (.int .i64 d.d.f) := by
  obtain ⟨b, off, h1, c0, c1, c2, c3, c4, c5, c6, c7⟩ := h.below hb j d hj
  exact ⟨b, off, h1, World.block_lt_of_cell? _ _ c0, c0, c1, c2, c3, c4, c5, c6, c7⟩
theorem Le.pre {w : World} {ao : Option Addr} {l m : List Ev} (h : Le w ao (l ++ m)) : Le w ao l := by
  intro j d hj
  refine h j d ?_
  rw [List.getElem?_append_left (List.getElem?_eq_some_iff.1 hj).1]
  exact hj
theorem le_of_blk {w : World} {g : Nat} {l : List Ev} {cs : Array Value} {f : TypeId} (hg : w.heap[g]? = some (.cells cs f (0, 0))) (hc : ∀ (k : Nat) (u : Value), (ecs l)[k]? = some u → cs[k]? = some u) : Le w (some ⟨g, 0, none⟩) l := by
  intro j d hj
  have hcc : ∀ (i : Nat) (u : Value), d.cs[i]? = some u → w.cell? ⟨g, 0 + j * 8 + i, none⟩ = some u := fun i u hu => by
    rw [Nat.zero_add]
    exact blk_cell hg (hc _ _ (flat_at Ev.cs 8 Ev.cs_len l j i d _ hj hu))
  exact ⟨g, 0, rfl, hcc 0 _ rfl, hcc 1 _ rfl, hcc 2 _ rfl, hcc 3 _ rfl, hcc 4 _ rfl, hcc 5 _ rfl, hcc 6 _ rfl, hcc 7 _ rfl⟩
set_option maxRecDepth 100000 in
set_option maxHeartbeats 1000000 in
theorem lsame_any (l : List Ev) (ao bo : Option Addr) (ca cb : Nat) (W : World) (ha : Le W ao l) (hb : Le W bo l) (hl : l.length ≤ 1000000000) : Calls Try.prog 13 #[.slice ao l.length ca, .slice bo l.length cb] W fun r w' => r = .returned (.bool true) ∧ Below W.heap.size W w' := by
  have HA := show Hid _ from ha
  have HB := show Hid _ from hb
  have hlI : (l.length : Int) ≤ 1000000000 := by omega
  clear ha hb
  go_enter Try.func13, Try.ntmps13
  go_wp2_with fail
  go_loopw [5] (fun iv wr => ∃ j : Nat, j ≤ l.length ∧ iv = .int .i64 j ∧ Hid (Below W.heap.size W wr)) (fun iv _ => l.length - (intOf iv).toNat)
  case atStart => exact ⟨0, Nat.zero_le _, rfl, Below.refl _ _⟩
  case round =>
    obtain ⟨j, hj, rfl, HJ⟩ := hrel
    by_cases hlt : j < l.length
    · have z1 : (j : Int) < l.length := by omega
      have z2 : (0 : Int) ≤ j := by omega
      obtain ⟨d, hd⟩ : ∃ d, l[j]? = some d := ⟨_, List.getElem?_eq_getElem hlt⟩
      obtain ⟨b, off, rfl, hbl, c0, c1, c2, c3, c4, c5, c6, c7⟩ := Le.at HA.out HJ.out hd
      obtain ⟨b', off', rfl, hbl', e0, e1, e2, e3, e4, e5, e6, e7⟩ := Le.at HB.out HJ.out hd
      clear hd
      go_wp2_with fail
      go_quiet (fail)
      go_wp2_with fail
      exact ⟨⟨j + 1, hlt, by go_num, below_dn HJ.out nq⟩, by simp [intOf]; omega⟩
    · obtain rfl : j = l.length := by omega
      have z1 : ¬ ((l.length : Int) < l.length) := by omega
      go_wp2_with fail
      go_ret
      exact ⟨rfl, HJ.out⟩

def tS : Tv := ⟨2, ⟨#[115, 107, 105, 112]⟩, 0, 0, 0, 0⟩
def lS : List Ev := [⟨1, 13, tv0⟩, ⟨2, 0, tS⟩, ⟨3, 13, tv0⟩]
def nS : Nd := .mk 13 tv0 [.mk 0 tS []]
theorem bo_s : bo lS = (nS, 0) := by kernel_rfl
theorem bo_s2 : bo (lS.take 2) = (.mk 0 tv0 [], 130) := by kernel_rfl
theorem evs_s : evs nS = lS := by kernel_rfl
theorem dpt_s : dpt nS = 1 := by kernel_rfl
abbrev TkB (d : Tv) : Obj := .cells #[.int .u8 d.k, .string d.t, .int .i64 d.a, .int .i64 d.l, .int .i64 d.c, .int .i64 d.f] 30
abbrev LsB : Obj := .cells #[.int .u8 1, .int .u8 13, .int .u8 0, .string ⟨#[]⟩, .int .i64 0, .int .i64 0, .int .i64 0, .int .i64 0, .int .u8 2, .int .u8 0, .int .u8 2, .string ⟨#[115, 107, 105, 112]⟩, .int .i64 0, .int .i64 0, .int .i64 0, .int .i64 0, .int .u8 3, .int .u8 13, .int .u8 0, .string ⟨#[]⟩, .int .i64 0, .int .i64 0, .int .i64 0, .int .i64 0] 32
set_option maxRecDepth 100000 in
set_option maxHeartbeats 1000000 in
theorem awake_any (W : World) : Calls Try.prog 8 #[] W fun r w' => r = .returned (.bool true) ∧ Below W.heap.size W w' := by
  obtain ⟨W2, eW2⟩ : ∃ W2, (W.alloc (TkB tS)).alloc LsB = W2 := ⟨_, rfl⟩
  have b1 := below_new W (TkB tS)
  have b2 := below_new (W.alloc (TkB tS)) LsB
  have H2 : Hid (Below W.heap.size W W2 ∧ W2.heap[W.heap.size]? = some (TkB tS) ∧ Le W2 (some ⟨W.heap.size + 1, 0, none⟩) lS) := by
    rw [← eW2]
    refine ⟨b1.trans (b2.mono b1.size), alloc_at' (new_at _ _) _, le_of_blk (l := lS) (cs := #[.int .u8 1, .int .u8 13, .int .u8 0, .string ⟨#[]⟩, .int .i64 0, .int .i64 0, .int .i64 0, .int .i64 0, .int .u8 2, .int .u8 0, .int .u8 2, .string ⟨#[115, 107, 105, 112]⟩, .int .i64 0, .int .i64 0, .int .i64 0, .int .i64 0, .int .u8 3, .int .u8 13, .int .u8 0, .string ⟨#[]⟩, .int .i64 0, .int .i64 0, .int .i64 0, .int .i64 0]) (f := 32) ?_ ?_⟩
    · rw [← size_al W (TkB tS)]
      exact new_at _ _
    · intro k u hu
      have : ecs lS = [.int .u8 1, .int .u8 13, .int .u8 0, .string ⟨#[]⟩, .int .i64 0, .int .i64 0, .int .i64 0, .int .i64 0, .int .u8 2, .int .u8 0, .int .u8 2, .string ⟨#[115, 107, 105, 112]⟩, .int .i64 0, .int .i64 0, .int .i64 0, .int .i64 0, .int .u8 3, .int .u8 13, .int .u8 0, .string ⟨#[]⟩, .int .i64 0, .int .i64 0, .int .i64 0, .int .i64 0] := rfl
      rw [this] at hu
      simpa using hu
  have HB1 : Hid (Calls Try.prog 9 #[.slice (some ⟨W.heap.size + 1, 0, none⟩) 3 3] W2 (BdP lS W2)) := build_any lS W2 _ 3 H2.out.2.2 (by decide) (by decide) (by decide)
  have HB2 : Hid (∀ V, Below W2.heap.size W2 V → Calls Try.prog 9 #[.slice (some ⟨W.heap.size + 1, 0, none⟩) 2 3] V (BdP (lS.take 2) V)) := fun V hb => build_any (lS.take 2) V _ 3 (Le.pre (m := lS.drop 2) (by rw [List.take_append_drop]; exact H2.out.2.2.below hb)) (by decide) (by decide) (by decide)
  clear b1 b2
  dsimp only [TkB, LsB, tS] at eW2
  go_enter Try.func8, Try.ntmps8
  go_upto_region 3 with fail
  try rw [eW2]
  clear eW2
  go_wp2_with fail
  refine HB1.out.mono ?_
  rintro r w3 ⟨sv, rfl, htn, hb3⟩
  rw [bo_s] at htn ⊢
  have H3 : Hid (TN (fun k => W2.heap.size ≤ k) w3 nS sv ∧ Below W2.heap.size W2 w3) := ⟨htn, hb3⟩
  obtain ⟨b, cap, hsv, hkc⟩ : ∃ b cap, sv = .slice (some ⟨b, 0, none⟩) 1 cap ∧ w3.cell? ⟨b, 1, none⟩ = some (.int .u8 2) ∧ w3.cell? ⟨b, 2, none⟩ = some (.string ⟨#[115, 107, 105, 112]⟩) ∧ w3.cell? ⟨b, 3, none⟩ = some (.int .i64 0) ∧ w3.cell? ⟨b, 4, none⟩ = some (.int .i64 0) ∧ w3.cell? ⟨b, 5, none⟩ = some (.int .i64 0) ∧ w3.cell? ⟨b, 6, none⟩ = some (.int .i64 0) := by
    unfold nS at htn
    rw [TN] at htn
    obtain ⟨vs, hrn, _, htl⟩ := htn
    obtain ⟨x, hx, _⟩ := TL.at htl (j := 0) rfl
    rcases hrn.2.2 with ⟨_, e⟩ | ⟨b, cap, cur, e, _⟩
    · simp at e
    · have hc : ∀ i u, (nc (.mk 0 tS []) x)[i]? = some u → w3.cell? ⟨b, 0 * 8 + i, none⟩ = some u := fun i u hu => hrn.cell e (j := 0) rfl hx hu
      have h1 := hc 1 _ rfl
      have h2 := hc 2 _ rfl
      have h3 := hc 3 _ rfl
      have h4 := hc 4 _ rfl
      have h5 := hc 5 _ rfl
      have h6 := hc 6 _ rfl
      rw [Nat.zero_mul, Nat.zero_add] at h1 h2 h3 h4 h5 h6
      exact ⟨b, cap, e, h1, h2, h3, h4, h5, h6⟩
  subst hsv
  have HK3 := show Hid _ from hkc
  clear htn hb3 hkc
  obtain ⟨W4, eW4⟩ : ∃ W4, w3.alloc (NdB 13 tv0 (.slice (some ⟨b, 0, none⟩) 1 cap)) = W4 := ⟨_, rfl⟩
  have H4 : Hid (Below w3.heap.size w3 W4 ∧ W4.heap[w3.heap.size]? = some (NdB 13 tv0 (.slice (some ⟨b, 0, none⟩) 1 cap)) ∧ Below W2.heap.size W2 W4) := by
    rw [← eW4]
    exact ⟨below_new _ _, new_at _ _, H3.out.2.trans ((below_new _ _).mono H3.out.2.size)⟩
  have HNv : Hid (∀ V, Below w3.heap.size w3 V → Nv V (ndv 13 tv0 (.slice (some ⟨b, 0, none⟩) 1 cap)) nS) := fun V hb => (TN.see nS _ H3.out.1).below hb
  have HEv : Hid (Calls Try.prog 16 #[ndv 13 tv0 (.slice (some ⟨b, 0, none⟩) 1 cap)] W4 fun r w' => ∃ v', r = .returned v' ∧ BI W4 v' lS w') := by
    have := events_any nS _ W4 (HNv.out _ H4.out.1) (by rw [evs_s]; decide)
    rw [evs_s] at this
    exact this
  dsimp only [nS, Nd.k, Nd.d, NdB, tv0] at *
  go_upto_region 4 with fail
  try rw [eW4]
  clear eW4
  obtain ⟨⟨i0, i1, i2, i3, i4, i5, i6, i7⟩, il⟩ := nd_cells (d := tv0) H4.out.2.1
  dsimp only [tv0] at i0 i1 i2 i3 i4 i5 i6 i7
  go_wp2_with fail
  refine HEv.out.mono ?_
  rintro r w5 ⟨v5, rfl, hE⟩
  obtain ⟨pE, cE, e5, hLe5, _, _, _⟩ := Le.row hE.re
  subst e5
  have H5 : Hid (Below W4.heap.size W4 w5 ∧ Below W2.heap.size W2 w5 ∧ Below w3.heap.size w3 w5) := ⟨hE.bel, H4.out.2.2.trans (hE.bel.mono H4.out.2.2.size), H4.out.1.trans (hE.bel.mono H4.out.1.size)⟩
  have HSm : Hid (Calls Try.prog 13 #[.slice pE 3 cE, .slice (some ⟨W.heap.size + 1, 0, none⟩) 3 3] w5 fun r w' => r = .returned (.bool true) ∧ Below w5.heap.size w5 w') := lsame_any lS _ _ _ _ w5 hLe5 (H2.out.2.2.below H5.out.2.1) (by decide)
  clear hE hLe5 HEv
  go_wp2_with fail
  refine HSm.out.mono ?_
  rintro r w6 ⟨rfl, hb6⟩
  have H6 : Hid (Below W4.heap.size W4 w6 ∧ Below W2.heap.size W2 w6 ∧ Below w3.heap.size w3 w6) := ⟨H5.out.1.trans (hb6.mono H5.out.1.size), H5.out.2.1.trans (hb6.mono H5.out.2.1.size), H5.out.2.2.trans (hb6.mono H5.out.2.2.size)⟩
  clear hb6 HSm
  go_wp2_with fail
  refine (HB2.out w6 H6.out.2.1).mono ?_
  rintro r w7 ⟨sv7, rfl, ht7, hb7⟩
  rw [bo_s2] at ht7 ⊢
  obtain ⟨p7, c7, hsv7⟩ : ∃ p7 c7, sv7 = .slice p7 0 c7 := by
    rw [TN] at ht7
    obtain ⟨vs6, hrn6, _⟩ := ht7
    obtain ⟨pp, cp, e, _⟩ := hrn6.shape
    exact ⟨pp, cp, e⟩
  subst hsv7
  obtain ⟨W8, eW8⟩ : ∃ W8, w7.alloc (NdB 0 tv0 (.slice p7 0 c7)) = W8 := ⟨_, rfl⟩
  have H8 : Hid (W8.heap[w7.heap.size]? = some (NdB 0 tv0 (.slice p7 0 c7)) ∧ Below W4.heap.size W4 W8 ∧ Below W2.heap.size W2 W8 ∧ Below w3.heap.size w3 W8) := by
    have hn := below_new w7 (NdB 0 tv0 (.slice p7 0 c7))
    rw [← eW8]
    have h1 := H6.out.1.trans (hb7.mono H6.out.1.size)
    have h2 := H6.out.2.1.trans (hb7.mono H6.out.2.1.size)
    have h3 := H6.out.2.2.trans (hb7.mono H6.out.2.2.size)
    exact ⟨new_at _ _, h1.trans (hn.mono h1.size), h2.trans (hn.mono h2.size), h3.trans (hn.mono h3.size)⟩
  have HDp : Hid (∀ V, Below W8.heap.size W8 V → Calls Try.prog 20 #[ndv 13 tv0 (.slice (some ⟨b, 0, none⟩) 1 cap)] V fun r w' => r = .returned (.int .i64 1) ∧ Below V.heap.size V w') := fun V hb => by
    have := depth_any nS _ V (HNv.out V (H8.out.2.2.2.trans (hb.mono H8.out.2.2.2.size))) (by rw [dpt_s]; decide)
    rw [dpt_s] at this
    exact this
  have HSa : Hid (∀ V, Below W8.heap.size W8 V → Calls Try.prog 24 #[ndv 13 tv0 (.slice (some ⟨b, 0, none⟩) 1 cap), ndv 13 tv0 (.slice (some ⟨b, 0, none⟩) 1 cap)] V fun r w' => r = .returned (.bool true) ∧ Below V.heap.size V w') := fun V hb => by
    have hn := HNv.out V (H8.out.2.2.2.trans (hb.mono H8.out.2.2.2.size))
    have := same_any nS nS _ _ V hn hn (by decide) (by decide)
    rw [same_refl] at this
    exact this
  have HK : Hid (∀ V, Below W8.heap.size W8 V → (V.cell? ⟨w3.heap.size, 0, none⟩ = some (.int .u8 13) ∧ V.cell? ⟨w3.heap.size, 1, none⟩ = some (.int .u8 0) ∧ V.cell? ⟨w3.heap.size, 2, none⟩ = some (.string ⟨#[]⟩) ∧ V.cell? ⟨w3.heap.size, 3, none⟩ = some (.int .i64 0) ∧ V.cell? ⟨w3.heap.size, 4, none⟩ = some (.int .i64 0) ∧ V.cell? ⟨w3.heap.size, 5, none⟩ = some (.int .i64 0) ∧ V.cell? ⟨w3.heap.size, 6, none⟩ = some (.int .i64 0) ∧ V.cell? ⟨w3.heap.size, 7, none⟩ = some (.slice (some ⟨b, 0, none⟩) 1 cap)) ∧
      (V.cell? ⟨W.heap.size, 0, none⟩ = some (.int .u8 2) ∧ V.cell? ⟨W.heap.size, 1, none⟩ = some (.string ⟨#[115, 107, 105, 112]⟩) ∧ V.cell? ⟨W.heap.size, 2, none⟩ = some (.int .i64 0) ∧ V.cell? ⟨W.heap.size, 3, none⟩ = some (.int .i64 0) ∧ V.cell? ⟨W.heap.size, 4, none⟩ = some (.int .i64 0) ∧ V.cell? ⟨W.heap.size, 5, none⟩ = some (.int .i64 0)) ∧
      (V.cell? ⟨b, 1, none⟩ = some (.int .u8 2) ∧ V.cell? ⟨b, 2, none⟩ = some (.string ⟨#[115, 107, 105, 112]⟩) ∧ V.cell? ⟨b, 3, none⟩ = some (.int .i64 0) ∧ V.cell? ⟨b, 4, none⟩ = some (.int .i64 0) ∧ V.cell? ⟨b, 5, none⟩ = some (.int .i64 0) ∧ V.cell? ⟨b, 6, none⟩ = some (.int .i64 0)) ∧
      (V.cell? ⟨w7.heap.size, 0, none⟩ = some (.int .u8 0) ∧ V.cell? ⟨w7.heap.size, 7, none⟩ = some (.slice p7 0 c7)) ∧ Below W8.heap.size W8 V) := fun V hb => by
    have n1 := blk_below (blk_below H4.out.2.1 H8.out.2.1) hb
    have n2 := blk_below (blk_below H2.out.2.1 H8.out.2.2.1) hb
    have n3 := H8.out.2.2.2.trans (hb.mono H8.out.2.2.2.size)
    have n4 := blk_below H8.out.1 hb
    have tr : ∀ i u, w3.cell? ⟨b, i, none⟩ = some u → V.cell? ⟨b, i, none⟩ = some u := fun i u hu => (n3.cell (World.block_lt_of_cell? _ _ hu)).trans hu
    obtain ⟨k1, k2, k3, k4, k5, k6⟩ := HK3.out
    exact ⟨(nd_cells (d := tv0) n1).1, ⟨blk_cell n2 rfl, blk_cell n2 rfl, blk_cell n2 rfl, blk_cell n2 rfl, blk_cell n2 rfl, blk_cell n2 rfl⟩, ⟨tr _ _ k1, tr _ _ k2, tr _ _ k3, tr _ _ k4, tr _ _ k5, tr _ _ k6⟩, ⟨blk_cell n4 rfl, blk_cell n4 rfl⟩, hb⟩
  have HBW : Hid (∀ V, Below W8.heap.size W8 V → Below W.heap.size W V) := fun V hb => H2.out.1.trans ((H8.out.2.2.1.trans (hb.mono H8.out.2.2.1.size)).mono H2.out.1.size)
  clear ht7 hb7 i0 i1 i2 i3 i4 i5 i6 i7 il HB1
  dsimp only [tv0, NdB, Nd.k, Nd.d] at *
  go_upto_region 7 with fail
  try rw [eW8]
  clear eW8
  obtain ⟨⟨k0, k1, k2, k3, k4, k5, k6, k7⟩, ⟨t0, t1, t2, t3, t4, t5⟩, ⟨b1, b2, b3, b4, b5, b6⟩, ⟨m0, m7⟩, _⟩ := HK.out W8 (Below.refl _ _)
  have l1 := World.block_lt_of_cell? _ _ k0
  have l2 := World.block_lt_of_cell? _ _ t0
  have l3 := World.block_lt_of_cell? _ _ b1
  have l4 := World.block_lt_of_cell? _ _ m0
  go_region_held3 (fun V => (V.cell? ⟨w3.heap.size, 0, none⟩ = some (.int .u8 13) ∧ V.cell? ⟨w3.heap.size, 1, none⟩ = some (.int .u8 0) ∧ V.cell? ⟨w3.heap.size, 2, none⟩ = some (.string ⟨#[]⟩) ∧ V.cell? ⟨w3.heap.size, 3, none⟩ = some (.int .i64 0) ∧ V.cell? ⟨w3.heap.size, 4, none⟩ = some (.int .i64 0) ∧ V.cell? ⟨w3.heap.size, 5, none⟩ = some (.int .i64 0) ∧ V.cell? ⟨w3.heap.size, 6, none⟩ = some (.int .i64 0) ∧ V.cell? ⟨w3.heap.size, 7, none⟩ = some (.slice (some ⟨b, 0, none⟩) 1 cap)) ∧
      (V.cell? ⟨W.heap.size, 0, none⟩ = some (.int .u8 2) ∧ V.cell? ⟨W.heap.size, 1, none⟩ = some (.string ⟨#[115, 107, 105, 112]⟩) ∧ V.cell? ⟨W.heap.size, 2, none⟩ = some (.int .i64 0) ∧ V.cell? ⟨W.heap.size, 3, none⟩ = some (.int .i64 0) ∧ V.cell? ⟨W.heap.size, 4, none⟩ = some (.int .i64 0) ∧ V.cell? ⟨W.heap.size, 5, none⟩ = some (.int .i64 0)) ∧
      (V.cell? ⟨b, 1, none⟩ = some (.int .u8 2) ∧ V.cell? ⟨b, 2, none⟩ = some (.string ⟨#[115, 107, 105, 112]⟩) ∧ V.cell? ⟨b, 3, none⟩ = some (.int .i64 0) ∧ V.cell? ⟨b, 4, none⟩ = some (.int .i64 0) ∧ V.cell? ⟨b, 5, none⟩ = some (.int .i64 0) ∧ V.cell? ⟨b, 6, none⟩ = some (.int .i64 0)) ∧
      (V.cell? ⟨w7.heap.size, 0, none⟩ = some (.int .u8 0) ∧ V.cell? ⟨w7.heap.size, 7, none⟩ = some (.slice p7 0 c7)) ∧ Below W8.heap.size W8 V) (first | (exact HK.out _ (by assumption)) | (exact HK.out _ (Below.refl _ _)) | (exact HK.out _ (Below.refl _ _).drew) | go_keep) (first | (go_at_call 20; refine (HDp.out _ (by first | assumption | exact (Below.refl _ _).drew | exact (by assumption : Below W8.heap.size W8 _).drew)).mono ?_; rintro e w9 ⟨rfl, hb9⟩; have hB9 := (by first | exact (Below.refl W8.heap.size W8).drew.trans (hb9.mono (Nat.le_refl _)) | exact (by assumption : Below W8.heap.size W8 _).trans (hb9.mono (Below.size (by assumption))) : Below W8.heap.size W8 w9)) | (go_at_call 24; refine (HSa.out _ hB9).mono ?_; rintro e w10 ⟨rfl, hb10⟩; have hB10 : Below W8.heap.size W8 w10 := hB9.trans (hb10.mono hB9.size)))
  all_goals (
    go_wp2_with fail
    go_ret
    exact ⟨rfl, HBW.out _ hB10⟩)

end Go.Proofs.Ythbgipmkdcffnaa
