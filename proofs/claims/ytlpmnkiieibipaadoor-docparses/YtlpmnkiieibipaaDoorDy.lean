import Derived.Test.YtlpmnkiieibipaaDoorDx
set_option linter.unusedVariables false
set_option linter.unusedSimpArgs false
namespace Go.Proofs.YtlpmnkiieibipaaDoor
open Go.RowKit
open Go.Lib (itoa)

theorem lay_new {W : World} {g : Nat} {cs : Array Value} {l : List Dc} (h : W.heap[g]? = some (.cells cs 36 (0, 0))) (hc : cs = (dcs l).toArray) (ht : ∀ d ∈ l, d.t.size ≤ 9223372036854775807) : Lay W (some ⟨g, 0, none⟩) l := by
  subst hc
  intro j d hj
  have hc : ∀ (k : Nat) (u : Value), (dcs l)[k]? = some u → W.cell? ⟨g, k, none⟩ = some u := fun k u hu => blk_cell h (by simpa using hu)
  refine ⟨ht d (List.mem_of_getElem? hj), g, 0, rfl, ?_, ?_, ?_, ?_, ?_⟩
  · rw [Nat.zero_add]; exact hc _ _ (flat_at Dc.cs 5 Dc.cs_len l j 0 d _ hj rfl)
  · rw [Nat.zero_add]; exact hc _ _ (flat_at Dc.cs 5 Dc.cs_len l j 1 d _ hj rfl)
  · rw [Nat.zero_add]; exact hc _ _ (flat_at Dc.cs 5 Dc.cs_len l j 2 d _ hj rfl)
  · rw [Nat.zero_add]; exact hc _ _ (flat_at Dc.cs 5 Dc.cs_len l j 3 d _ hj rfl)
  · rw [Nat.zero_add]; exact hc _ _ (flat_at Dc.cs 5 Dc.cs_len l j 4 d _ hj rfl)

/-! The chapter's examples. -/
def L0 : List Dc := [⟨1, ⟨#[97, 92, 195]⟩, 0, 0, false⟩, ⟨3, ⟨#[]⟩, 1, 0, false⟩, ⟨6, ⟨#[]⟩, 0, 2, true⟩, ⟨7, ⟨#[]⟩, 0, 0, false⟩]
def T0 : List UInt8 := [116, 101, 120, 116, 32, 97, 92, 92, 92, 120, 99, 51, 10, 98, 114, 101, 97, 107, 32, 49, 10, 98, 101, 103, 105, 110, 32, 50, 32, 101, 118, 101, 110, 10, 101, 110, 100, 10]
theorem itoa1 : itoa 1 = [49] := by rw [itoa_eq 1 (by decide) (by decide)]; rfl
theorem itoa2 : itoa 2 = [50] := by rw [itoa_eq 2 (by decide) (by decide)]; rfl
theorem lns_L0 : lns L0 = T0 := by
  have e1 : lin ⟨1, ⟨#[97, 92, 195]⟩, 0, 0, false⟩ = [116, 101, 120, 116, 32, 97, 92, 92, 92, 120, 99, 51] := by decide
  have e2 : lin ⟨3, ⟨#[]⟩, 1, 0, false⟩ = [98, 114, 101, 97, 107, 32, 49] := by simp [lin, itoa1]
  have e3 : lin ⟨6, ⟨#[]⟩, 0, 2, true⟩ = [98, 101, 103, 105, 110, 32, 50, 32, 101, 118, 101, 110] := by simp [lin, itoa2, evn, even5]
  have e4 : lin ⟨7, ⟨#[]⟩, 0, 0, false⟩ = [101, 110, 100] := by decide
  simp only [L0, lns_cons, lns_nil, e1, e2, e3, e4]
  rfl
theorem chk_L0 : chk L0 = (0, 0) := by decide +kernel
theorem prn_L0 : prn L0 = (T0, 0) := by
  unfold prn
  rw [chk_L0, if_neg (by decide), lns_L0, if_neg (by decide)]
theorem prs_T0 : prs T0 = (L0, 0, 0) := by
  have := (prs_prn (l := L0) (by rw [prn_L0])).2.2.2
  rw [lns_L0] at this
  exact this
def L1 : List Dc := [⟨2, bE, 0, 0, false⟩, ⟨7, bE, 0, 0, false⟩]
def T1 : List UInt8 := [98, 108, 97, 110, 107, 10, 101, 110, 100, 10]
theorem prs_T1 : prs T1 = ([], 70, 2) := by
  have e : prs1 T1 [] = (L1, true) := by
    have := prs1_lns L1 [] [] (by decide +kernel)
    rw [List.append_nil, prs1_nil] at this
    rw [show T1 = lns L1 by decide +kernel]
    simpa using this
  have c : chk L1 = (70, 1) := by decide +kernel
  unfold prs
  rw [if_neg (by decide), e]
  simp only
  rw [if_neg (by decide), c]
  rfl
theorem chk_L2 : chk [⟨6, ⟨#[]⟩, 0, 0, false⟩] = (70, 1) := by decide +kernel

set_option maxHeartbeats 2000000 in
set_option maxRecDepth 100000 in
theorem awake_any (w : World) (hG : Gl w) : Calls Tryd.prog 8 #[] w fun e w' => e = .returned (.bool true) ∧ Below w.heap.size w w' := by
  have HG : Hid (GlB w.heap.size w) := hG.glB
  clear hG
  have HPr : Hid (∀ W g, Below w.heap.size w W → Lay W (some ⟨g, 0, none⟩) L0 → Calls Tryd.prog 12 #[.slice (some ⟨g, 0, none⟩) 4 4] W fun e w' => e = .returned (.tuple #[.string ⟨#[116, 101, 120, 116, 32, 97, 92, 92, 92, 120, 99, 51, 10, 98, 114, 101, 97, 107, 32, 49, 10, 98, 101, 103, 105, 110, 32, 50, 32, 101, 118, 101, 110, 10, 101, 110, 100, 10]⟩, .int .i64 0]) ∧ Below W.heap.size W w') := fun W g hW hL => by
    have h := print_any (some ⟨g, 0, none⟩) L0 4 W hL (by decide) (HG.out W hW)
    rw [prn_L0] at h
    exact h
  have HPa : Hid (∀ W, Below w.heap.size w W → Calls Tryd.prog 15 #[.string ⟨#[116, 101, 120, 116, 32, 97, 92, 92, 92, 120, 99, 51, 10, 98, 114, 101, 97, 107, 32, 49, 10, 98, 101, 103, 105, 110, 32, 50, 32, 101, 118, 101, 110, 10, 101, 110, 100, 10]⟩] W fun e w' => (∃ v, e = .returned (.tuple #[v, .int .i64 0, .int .i64 0]) ∧ Rp W.heap.size w' v L0) ∧ Below W.heap.size W w') := fun W hW => by
    have h := parse_any ⟨#[116, 101, 120, 116, 32, 97, 92, 92, 92, 120, 99, 51, 10, 98, 114, 101, 97, 107, 32, 49, 10, 98, 101, 103, 105, 110, 32, 50, 32, 101, 118, 101, 110, 10, 101, 110, 100, 10]⟩ (by decide) W (HG.out W hW)
    unfold PV at h
    rw [show ls ⟨#[116, 101, 120, 116, 32, 97, 92, 92, 92, 120, 99, 51, 10, 98, 114, 101, 97, 107, 32, 49, 10, 98, 101, 103, 105, 110, 32, 50, 32, 101, 118, 101, 110, 10, 101, 110, 100, 10]⟩ = T0 from rfl, prs_T0] at h
    exact h
  have HPb : Hid (∀ W, Below w.heap.size w W → Calls Tryd.prog 15 #[.string ⟨#[98, 108, 97, 110, 107, 10, 101, 110, 100, 10]⟩] W fun e w' => (∃ v, e = .returned (.tuple #[v, .int .i64 70, .int .i64 2]) ∧ Rp W.heap.size w' v []) ∧ Below W.heap.size W w') := fun W hW => by
    have h := parse_any ⟨#[98, 108, 97, 110, 107, 10, 101, 110, 100, 10]⟩ (by decide) W (HG.out W hW)
    unfold PV at h
    rw [show ls ⟨#[98, 108, 97, 110, 107, 10, 101, 110, 100, 10]⟩ = T1 from rfl, prs_T1] at h
    exact h
  have HCh : Hid (∀ W g, Lay W (some ⟨g, 0, none⟩) [⟨6, ⟨#[]⟩, 0, 0, false⟩] → Calls Tryd.prog 10 #[.slice (some ⟨g, 0, none⟩) 1 1] W fun e w' => e = .returned (.tuple #[.int .i64 70, .int .i64 1]) ∧ Below W.heap.size W w') := fun W g hL => by
    have h := check_any (some ⟨g, 0, none⟩) [⟨6, ⟨#[]⟩, 0, 0, false⟩] 1 W hL (by decide)
    rw [chk_L2] at h
    exact h
  have h0 : ∀ d ∈ L0, d.t.size ≤ 9223372036854775807 := by decide
  have HS : Hid (∀ W (p : Option Addr) (c : Nat) (g : Nat), Lay W p L0 → Lay W (some ⟨g, 0, none⟩) L0 → Calls Tryd.prog 17 #[.slice p 4 c, .slice (some ⟨g, 0, none⟩) 4 4] W fun e w' => e = .returned (.bool true) ∧ Below W.heap.size W w') := fun W p c g h1 h2 => by
    have h := same_any p (some ⟨g, 0, none⟩) L0 L0 c 4 W h1 h2 (by decide) (by decide)
    rw [decide_eq_true rfl] at h
    exact h
  have HL0 : Hid (∀ d ∈ L0, d.t.size ≤ 9223372036854775807) := h0
  clear h0
  go_enter Tryd.func8, Tryd.ntmps8
  go_wp2_with (first | (go_at_call 15; have hg3 := H3.out.1; clear hg3; refine (HPb.out _ H3.out.1).mono ?_; rintro e w4 ⟨⟨v4, rfl, hr4⟩, hb4⟩; have H4 : Hid (Below w.heap.size w w4 ∧ Lay w4 (some ⟨w.heap.size, 0, none⟩) L0 ∧ Lay w4 p2 L0) := ⟨H3.out.1.trans (hb4.mono H3.out.1.size), H3.out.2.1.below hb4, H3.out.2.2.below hb4⟩; clear hb4 hr4) | (go_at_call 12; refine (HPr.out _ _ ((Below.refl _ _).alloc (Nat.le_refl _) _) (lay_new (heap_new _ _) rfl HL0.out)).mono ?_; rintro e w1 ⟨rfl, hb1⟩; have H1 : Hid (Below w.heap.size w w1 ∧ Lay w1 (some ⟨w.heap.size, 0, none⟩) L0) := ⟨((Below.refl _ _).alloc (Nat.le_refl _) _).trans (hb1.mono (by rw [World.size_alloc]; omega)), (lay_new (heap_new _ _) rfl HL0.out).below hb1⟩; clear hb1) | (go_at_call 15; refine (HPa.out _ H1.out.1).mono ?_; rintro e w2 ⟨⟨v, rfl, hr2⟩, hb2⟩; obtain ⟨p2, c2, hv, _, hL2, _, _, _⟩ := Lay.row hr2 HL0.out; have hv' : v = .slice p2 4 c2 := hv; subst hv'; have H2 : Hid (Below w.heap.size w w2 ∧ Lay w2 (some ⟨w.heap.size, 0, none⟩) L0 ∧ Lay w2 p2 L0) := ⟨H1.out.1.trans (hb2.mono H1.out.1.size), H1.out.2.below hb2, hL2⟩; clear hb2 hr2 hL2 hv) | (go_at_call 10; refine (HCh.out _ _ (lay_new (heap_new _ _) rfl (by decide))).mono ?_; rintro e w3 ⟨rfl, hb3⟩; have H3 : Hid (Below w.heap.size w w3 ∧ Lay w3 (some ⟨w.heap.size, 0, none⟩) L0 ∧ Lay w3 p2 L0) := ⟨(H2.out.1.alloc H2.out.1.size _).trans (hb3.mono (by rw [World.size_alloc]; have := H2.out.1.size; omega)), (H2.out.2.1.below ((Below.refl _ _).alloc (Nat.le_refl _) _)).below hb3, (H2.out.2.2.below ((Below.refl _ _).alloc (Nat.le_refl _) _)).below hb3⟩; clear hb3) | (go_at_call 17; refine (HS.out _ _ _ _ H4.out.2.2 H4.out.2.1).mono ?_; rintro e w5 ⟨rfl, hb5⟩; have H5 : Hid (Below w.heap.size w w5) := H4.out.1.trans (hb5.mono H4.out.1.size); clear hb5))
  go_ret
  exact ⟨rfl, H5.out⟩

set_option maxHeartbeats 1000000 in
theorem names_any (w : World) (hG : Gl w) : Calls Tryd.prog 3 #[] w fun e w' => e = .returned (.bool true) ∧ Below w.heap.size w w' := by
  have HA : Hid (Calls Tryd.prog 8 #[] w fun e w' => e = .returned (.bool true) ∧ Below w.heap.size w w') := awake_any w hG
  clear hG
  go_enter Tryd.func3, Tryd.ntmps3
  go_wp2_with (go_at_call 8; refine HA.out.mono ?_; rintro e w1 ⟨rfl, hb1⟩)
  go_ret
  exact ⟨rfl, hb1⟩
end Go.Proofs.YtlpmnkiieibipaaDoor
