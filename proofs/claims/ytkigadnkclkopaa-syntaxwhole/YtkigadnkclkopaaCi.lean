import Derived.Test.YtkigadnkclkopaaCh
set_option linter.unusedVariables false
set_option linter.unusedSimpArgs false
namespace Go.Proofs.Ytkigadnkclkopaa
open Go.RowKit

/-! Slices of nodes; the kids that are no comments. -/
abbrev Sn (W : World) (ao : Option Addr) (c : List Nd) : Prop := (ao = none → c = []) ∧ ∀ a, ao = some a → c = [] ∨ ∃ b o, a = ⟨b, o, none⟩ ∧ HL W b o c
theorem Sn.below {W W' : World} {ao : Option Addr} {c : List Nd} (h : Sn W ao c) (hb : Below W.heap.size W W') : Sn W' ao c :=
  ⟨h.1, fun a ha => (h.2 a ha).imp id (fun ⟨b, o, e, hl⟩ => ⟨b, o, e, HL.below hb c b o hl⟩)⟩
/-- A slice of nodes as a value. -/
def SN (W : World) (v : Value) (c : List Nd) : Prop := ∃ ao cap, v = .slice ao c.length cap ∧ c.length ≤ cap ∧ cap ≤ maxLen ∧ Sn W ao c
theorem SN.below {W W' : World} {v : Value} {c : List Nd} (h : SN W v c) (hb : Below W.heap.size W W') : SN W' v c := by
  obtain ⟨ao, cap, h1, h2, h3, h4⟩ := h
  exact ⟨ao, cap, h1, h2, h3, h4.below hb⟩
/-- What stands in a row of nodes: the slices of their kids. -/
def VL (W : World) (c : List Nd) (vs : List Value) : Prop := ∀ (j : Nat) (n : Nd), c[j]? = some n → ∃ x, vs[j]? = some x ∧ Nv W (ndv n.k n.d x) n
theorem VL.below {W W' : World} {c : List Nd} {vs : List Value} (h : VL W c vs) (hb : Below W.heap.size W W') : VL W' c vs := fun j n hj => by
  obtain ⟨x, h1, h2⟩ := h j n hj
  exact ⟨x, h1, h2.below hb⟩
theorem VL.app {W : World} {c : List Nd} {vs : List Value} (h : VL W c vs) (hl : vs.length = c.length) {n : Nd} {x : Value} (hn : Nv W (ndv n.k n.d x) n) : VL W (c ++ [n]) (vs ++ [x]) := by
  intro j m hj
  by_cases hlt : j < c.length
  · rw [List.getElem?_append_left hlt] at hj
    obtain ⟨y, h1, h2⟩ := h j m hj
    exact ⟨y, by rw [List.getElem?_append_left (by omega)]; exact h1, h2⟩
  · rw [List.getElem?_append_right (by omega)] at hj
    have h0 := (List.getElem?_eq_some_iff.1 hj).1
    simp at h0
    rw [show j - c.length = 0 by omega] at hj
    simp at hj
    subst hj
    exact ⟨x, by rw [List.getElem?_append_right (by omega), show j - vs.length = 0 by omega]; rfl, hn⟩
theorem nv_slot {W : World} {n : Nd} {k : Int} {d : Tv} {x : Value} (h : Nv W (ndv k d x) n) : ∃ ao cap, x = .slice ao n.c.length cap ∧ n.c.length ≤ cap ∧ cap ≤ maxLen ∧ (ao = none → n.c = []) ∧ (∀ a, ao = some a → n.c = [] ∨ ∃ b o, a = ⟨b, o, none⟩ ∧ HL W b o n.c) := by
  obtain ⟨ao, cp, q0, q1, q2, q3, q4⟩ := h
  refine ⟨ao, cp, ?_, q1, q2, q3, q4⟩
  simp only [ndv, Value.agg.injEq] at q0
  have := congrArg (fun a : Array Value => a[7]?) q0
  simpa using this
theorem sn_of {W : World} {v : Value} {c : List Nd} {vs : List Value} (h1 : RN W v c vs) (h3 : VL W c vs) : SN W v c := by
  have hr := h1.2.2
  rcases hr with ⟨e1, e2⟩ | ⟨b, cap, cur, e1, _, e3, e4, e5, _⟩
  · have : c = [] := List.eq_nil_of_length_eq_zero e2
    subst this
    exact ⟨none, 0, e1, Nat.le_refl _, Nat.zero_le _, (fun _ => rfl), (fun a ha => by cases ha)⟩
  · refine ⟨some ⟨b, 0, none⟩, cap, e1, e4, e5, (fun h => by cases h), fun a ha => ?_⟩
    cases ha
    refine .inr ⟨b, 0, rfl, hl_of (fun j m hj => ?_)⟩
    obtain ⟨y, hy, hm⟩ := h3 j m hj
    obtain ⟨ao, cp, rfl, q1, q2, q3, q4⟩ := nv_slot hm
    have hc : ∀ i u, (nc m (.slice ao m.c.length cp))[i]? = some u → W.cell? ⟨b, 0 + j * 8 + i, none⟩ = some u := fun i u hu => by
      rw [Nat.zero_add]
      exact h1.cell e1 hj hy hu
    have hc0 := hc 0 _ rfl
    obtain ⟨mk', md, mc⟩ := m
    rw [HN]
    exact ⟨⟨hc0, hc 1 _ rfl, hc 2 _ rfl, hc 3 _ rfl, hc 4 _ rfl, hc 5 _ rfl, hc 6 _ rfl⟩, ao, cp, hc 7 _ rfl, q1, q2, q3, q4⟩
/-- A row of nodes of the call's own. -/
structure NR (W : World) (v : Value) (c : List Nd) (vs : List Value) (V : World) : Prop where
  bel : Below W.heap.size W V
  rn : RN V v c vs
  vB : ∀ k, v.ownBlock = some k → W.heap.size ≤ k
  vl : VL W c vs
theorem NR.below {W V V' : World} {v : Value} {c : List Nd} {vs : List Value} (h : NR W v c vs V) (hb : Below V.heap.size V V') : NR W v c vs V' :=
  ⟨h.bel.trans (hb.mono h.bel.size), h.rn.kp (Kp.of_below (S := fun _ => False) hb) (fun _ _ h => h), h.vB, h.vl⟩
theorem NR.push {W V V1 w3 : World} {v v' x : Value} {c : List Nd} {vs : List Value} {n : Nd} (h : NR W v c vs V) (hb : Below V.heap.size V V1) (hr : RN w3 v' (c ++ [n]) (vs ++ [x])) (hg : V1.grownBy w3 v.ownBlock) (hq : Nb V1 v v') (hn : Nv W (ndv n.k n.d x) n) : NR W v' (c ++ [n]) (vs ++ [x]) w3 := by
  refine ⟨Kp.low (h.bel.trans (hb.mono h.bel.size)) (Kp.of_grown hg) (fun k e => h.vB k e.symm) (Nat.le_trans h.bel.size hb.size), hr, ?_, h.vl.app h.rn.1 hn⟩
  intro q e
  rcases hq with e1 | ⟨r, e1, hr1⟩
  · exact h.vB q (by rw [← e1]; exact e)
  · rw [e1] at e
    simp at e
    have := h.bel.size
    have := hb.size
    omega
theorem NR.sn {W V : World} {v : Value} {c : List Nd} {vs : List Value} (h : NR W v c vs V) : SN V v c := sn_of h.rn (h.vl.below h.bel)
/-- Kids that are no comments. -/
def pl (c : List Nd) : List Nd := c.filter (fun x => !isN x)
theorem pl_take {c : List Nd} {j : Nat} {m : Nd} (h : c[j]? = some m) : pl (c.take (j + 1)) = if isN m then pl (c.take j) else pl (c.take j) ++ [m] := by
  unfold pl
  rw [List.take_add_one, h, List.filter_append]
  cases hm : isN m <;> simp [hm]
theorem pl_le (c : List Nd) (j : Nat) : (pl (c.take j)).length ≤ c.length := by
  unfold pl
  have h1 := List.length_filter_le (fun x => !isN x) (c.take j)
  have h2 : (c.take j).length ≤ c.length := by rw [List.length_take]; omega
  omega
theorem isN_kof (m : Nd) : (kof m.d != 4) = !cm m.d := by
  unfold kof
  cases cm m.d <;> rfl

set_option maxRecDepth 100000 in
set_option maxHeartbeats 1000000 in
/-- The code's. -/
theorem without_any (c : List Nd) (ao : Option Addr) (cap : Nat) (W : World) (h : Sn W ao c) (h1 : c.length ≤ cap) (h2 : cap ≤ maxLen) (hl : c.length ≤ 1000000000) : Calls Try.prog 23 #[.slice ao c.length cap] W fun r w' => ∃ v, r = .returned v ∧ SN w' v (pl c) ∧ Below W.heap.size W w' := by
  have HQ : Hid (Sn W ao c) := h
  have hcl : (c.length : Int) ≤ 1000000000 := by omega
  clear h
  go_enter Try.func23, Try.ntmps23
  go_wp2_with fail
  go_loopw [3, 8] (fun lv iv wr => ∃ (j : Nat) (vs : List Value), j ≤ c.length ∧ iv = .int .i64 j ∧ Hid (NR W lv (pl (c.take j)) vs wr)) (fun _ iv _ => c.length - (intOf iv).toNat)
  case atStart => exact ⟨0, [], Nat.zero_le _, rfl, ⟨Below.refl _ _, rn_nil _, (fun k e => by cases e), fun j n hj => by simp [pl] at hj⟩⟩
  case round =>
    obtain ⟨j, vs, hj, rfl, HJ⟩ := hrel
    obtain ⟨pv, cv, hv, _⟩ := HJ.out.rn.shape
    obtain ⟨nl, hnl⟩ : ∃ nl, (pl (c.take j)).length = nl := ⟨_, rfl⟩
    rw [hnl] at hv
    subst hv
    by_cases hlt : j < c.length
    · have z1 : (j : Int) < c.length := by omega
      have z2 : (0 : Int) ≤ j := by omega
      obtain ⟨m, hm⟩ : ∃ m, c[j]? = some m := ⟨_, List.getElem?_eq_getElem hlt⟩
      obtain ⟨b, o, rfl, hbl, ao2, cap2, ⟨v0, v1, v2, v3, v4, v5, v6, v7⟩, hv⟩ := kid0 HQ.out HJ.out.bel hm
      have ht := pl_take hm
      have hll : (pl (c.take j)).length ≤ 1000000000 := by have := pl_le c j; omega
      have HLL := show Hid _ from hll
      have HTk : Hid (∀ V, Calls Try.prog 18 #[ndv m.k m.d (.slice ao2 m.c.length cap2)] V fun r w' => r = .returned (.bool (m.k == 0)) ∧ Below V.heap.size V w') := fun V => isTok_any m.k m.d ao2 m.c.length cap2 V
      have HKf : Hid (∀ V, Calls Try.prog 33 #[.agg #[.int .u8 m.d.k, .string m.d.t, .int .i64 m.d.a, .int .i64 m.d.l, .int .i64 m.d.c, .int .i64 m.d.f]] V fun r w' => r = .returned (.int .u8 (kof m.d)) ∧ Below V.heap.size V w') := fun V => kindOf_any m.d V
      obtain ⟨W4, eW4⟩ : ∃ W4, wr.alloc (NdB m.k m.d (.slice ao2 m.c.length cap2)) = W4 := ⟨_, rfl⟩
      have H4 : Hid (Below wr.heap.size wr W4 ∧ W4.heap[wr.heap.size]? = some (NdB m.k m.d (.slice ao2 m.c.length cap2))) := by rw [← eW4]; exact ⟨below_new _ _, new_at _ _⟩
      have HV := show Hid _ from hv
      have hcmB := isN_kof m
      have hisN : isN m = (m.k == 0 && cm m.d) := rfl
      clear hv hm hll hnl
      go_upto_region 5 with fail
      try rw [eW4]
      clear eW4 v0 v1 v2 v3 v4 v5 v6 v7
      obtain ⟨⟨i0, i1, i2, i3, i4, i5, i6, i7⟩, il⟩ := nd_cells H4.out.2
      go_cut [20] from 12 to 19 (fun t wx => t = .bool (!isN m) ∧ Hid (Below wr.heap.size wr wx ∧ wx.heap[wr.heap.size]? = some (NdB m.k m.d (.slice ao2 m.c.length cap2))))
      case first =>
        cases hk0 : (m.k == 0) with
        | false =>
          rw [hk0] at HTk
          rw [hk0] at hisN
          have HN : Hid (isN m = false) := by unfold Hid; rw [hisN]; rfl
          clear hisN hk0
          go_wp2_with (go_at_call 18; refine (HTk.out _).mono ?_; rintro r w5 ⟨rfl, hb5⟩; have H5 : Hid (Below wr.heap.size wr w5 ∧ w5.heap[wr.heap.size]? = some (NdB m.k m.d (.slice ao2 m.c.length cap2))) := ⟨H4.out.1.trans (hb5.mono H4.out.1.size), blk_below H4.out.2 hb5⟩; clear hb5)
          go_meet
          exact ⟨by rw [HN.out]; rfl, H5⟩
        | true =>
          rw [hk0] at HTk
          rw [hk0] at hisN
          have HN : Hid ((kof m.d != 4) = !isN m) := by unfold Hid; rw [hisN, hcmB]; rfl
          clear hisN hk0 hcmB
          go_wp2_with (first | (go_at_call 18; refine (HTk.out _).mono ?_; rintro r w5 ⟨rfl, hb5⟩; have H5 : Hid (Below wr.heap.size wr w5 ∧ w5.heap[wr.heap.size]? = some (NdB m.k m.d (.slice ao2 m.c.length cap2))) := ⟨H4.out.1.trans (hb5.mono H4.out.1.size), blk_below H4.out.2 hb5⟩; clear hb5; obtain ⟨⟨j0, j1, j2, j3, j4, j5, j6, j7⟩, jl⟩ := nd_cells H5.out.2) | (go_at_call 33; refine (HKf.out _).mono ?_; rintro r w6 ⟨rfl, hb6⟩; have H6 : Hid (Below wr.heap.size wr w6 ∧ w6.heap[wr.heap.size]? = some (NdB m.k m.d (.slice ao2 m.c.length cap2))) := ⟨H5.out.1.trans (hb6.mono H5.out.1.size), blk_below H5.out.2 hb6⟩; clear hb6))
          go_meet
          exact ⟨by rw [← HN.out], H6⟩
      case rest =>
        obtain ⟨rfl, H5⟩ := hcut
        obtain ⟨⟨j0, j1, j2, j3, j4, j5, j6, j7⟩, jl⟩ := nd_cells H5.out.2
        have H7 : Hid (NR W (.slice pv nl cv) (pl (c.take j)) vs wc) := HJ.out.below H5.out.1
        cases hn : isN m with
        | true =>
          rw [hn] at ht
          simp only [if_true] at ht
          have HT : Hid (pl (c.take (j + 1)) = pl (c.take j)) := ht
          clear ht hn hisN
          go_wp2_with fail
          exact ⟨⟨j + 1, vs, hlt, by go_num, by rw [HT.out]; exact H7⟩, by simp [intOf]; omega⟩
        | false =>
          rw [hn] at ht
          simp only [Bool.false_eq_true, if_false] at ht
          have HT : Hid (pl (c.take (j + 1)) = pl (c.take j) ++ [m]) := ht
          clear ht hn hisN
          go_wp2_with (at_builtin; refine app_nd (by rfl) _ _ (by rfl) (.slice pv nl cv) (pl (c.take j)) vs m ao2 m.c.length cap2 (by rfl) (H7.out.below (below_new _ _)).rn wc.heap.size 1 (by rfl) (new_at _ _) HLL.out ?_; intro v8 w8 h1 h2 h3; obtain ⟨p8, c8, hv8, _⟩ := h1.shape; obtain ⟨l8, hl8⟩ : ∃ l8, (pl (c.take j) ++ [m]).length = l8 := ⟨_, rfl⟩; rw [hl8] at hv8; subst hv8; have H8 : Hid (NR W (.slice p8 l8 c8) (pl (c.take j) ++ [m]) (vs ++ [.slice ao2 m.c.length cap2]) w8) := H7.out.push (below_new _ _) h1 h2 h3 HV.out; clear h1 h2 h3 hl8)
          exact ⟨⟨j + 1, _, hlt, by go_num, by rw [HT.out]; exact H8⟩, by simp [intOf]; omega⟩
    · obtain rfl : j = c.length := by omega
      have z1 : ¬ ((c.length : Int) < c.length) := by omega
      rw [List.take_length] at HJ
      clear hnl
      go_wp2_with fail
      go_ret
      exact ⟨_, rfl, HJ.out.sn, HJ.out.bel⟩

end Go.Proofs.Ytkigadnkclkopaa
