import Derived.Test.YthbgipmkdcffnaaCc
set_option linter.unusedVariables false
set_option linter.unusedSimpArgs false
namespace Go.Proofs.Ythbgipmkdcffnaa
open Go.RowKit

set_option maxRecDepth 100000 in
set_option maxHeartbeats 1000000 in
theorem tell_step (w0 : World) (n : Nd) (IH : ∀ m, m ∈ n.c → TellC w0 m) : TellC w0 n := by
  intro vn h W g p v E hI hle
  obtain ⟨ao, cap, rfl, q1, q2, q3, q4⟩ := h
  have HI : Hid (EI w0 g p v E W) := hI
  obtain ⟨k, d, c⟩ := n
  dsimp only [Nd.k, Nd.d, Nd.c] at *
  by_cases hk : k = 0
  · subst hk
    have e : evs (.mk 0 d c) = [tkE d] := by simp [evs]
    rw [e] at hle ⊢
    exact tell_tok w0 d ao c.length cap W g p v E hI (by simpa using hle)
  · have e : evs (.mk k d c) = ⟨1, k, tv0⟩ :: (evsL c ++ [⟨3, k, tv0⟩]) := by simp [evs, hk]
    have hkb : (k == 0) = false := by simpa using hk
    obtain ⟨pv, cv, hv, _⟩ := hI.re.shape
    subst hv
    have HTk : Hid (∀ V, Calls Try.prog 27 #[ndv k d (.slice ao c.length cap)] V fun r w' => r = .returned (.bool false) ∧ Below V.heap.size V w') := fun V => by have := isTok_any k d ao c.length cap V; rw [hkb] at this; exact this
    have hlc : E.length + (evsL c).length + 2 ≤ 1000000000 := by rw [e] at hle; simp at hle; omega
    have HEV : Hid (E ++ evs (.mk k d c) = (E ++ [⟨1, k, tv0⟩] ++ evsL c) ++ [⟨3, k, tv0⟩]) := (by rw [e]; simp : E ++ evs (.mk k d c) = (E ++ [⟨1, k, tv0⟩] ++ evsL c) ++ [⟨3, k, tv0⟩])
    have HIH : Hid (∀ m, m ∈ c → TellC w0 m) := IH
    have HQ : Hid ((ao = none → c = []) ∧ ∀ a, ao = some a → c = [] ∨ ∃ b o, a = ⟨b, o, none⟩ ∧ HL w0 b o c) := ⟨q3, q4⟩
    have hcl : (c.length : Int) ≤ 9223372036854775807 := by have : maxLen = 9223372036854775807 := rfl; omega
    have hng : W.heap.size ≠ g := fun e => by have := blk_lt HI.out.hg; omega
    obtain ⟨W1, eW⟩ : ∃ W1, W1 = W.alloc (NdB k d (.slice ao c.length cap)) := ⟨_, rfl⟩
    have HB1 : Hid (Below W.heap.size W W1 ∧ W1.heap[W.heap.size]? = some (NdB k d (.slice ao c.length cap))) := by rw [eW]; exact ⟨below_new _ _, new_at _ _⟩
    clear hI hle q3 q4 IH e
    go_enter Try.func29, Try.ntmps29
    go_wp2_with fail
    try rw [← eW]
    clear eW
    refine (HTk.out _).mono ?_
    rintro r w2 ⟨rfl, hb2⟩
    have H2 : Hid (EI w0 g p (.slice pv E.length cv) E w2 ∧ KT 32 g W w2) := ⟨HI.out.below (HB1.out.1.trans (hb2.mono HB1.out.1.size)), KT.of_below (HB1.out.1.trans (hb2.mono HB1.out.1.size))⟩
    have HN2 : Hid (w2.heap[W.heap.size]? = some (NdB k d (.slice ao c.length cap))) := blk_below HB1.out.2 hb2
    have y0 : w2.cell? ⟨W.heap.size, 0, none⟩ = some (.int .u8 k) := blk_cell HN2.out rfl
    have yg : w2.cell? ⟨g, 0, none⟩ = some (.slice pv E.length cv) := blk_cell H2.out.1.hg rfl
    have ygl := blk_lt H2.out.1.hg
    have yl := blk_lt HN2.out
    have hlE : E.length ≤ 1000000000 := by omega
    clear hb2 HB1
    go_wp2_with (at_builtin; refine app_ev (by rfl) _ _ (by rfl) (.slice pv E.length cv) E ⟨1, k, tv0⟩ (by rfl) (H2.out.1.re.below (below_new _ _)) w2.heap.size 1 (by rfl) (new_at _ _) hlE ?_; intro v' w3 h1 h2 h3; obtain ⟨p3, c3, hv3, _⟩ := h1.shape; subst hv3; obtain ⟨⟨x1, x2, x3⟩, x4, x5⟩ := H2.out.1.push (below_new _ _) h1 h2 h3; have H3 : Hid (EI w0 g p (.slice p3 (E ++ [(⟨1, k, tv0⟩ : Ev)]).length c3) (E ++ [⟨1, k, tv0⟩]) (w3.setCell ⟨g, 0, none⟩ (.slice p3 (E ++ [(⟨1, k, tv0⟩ : Ev)]).length c3)) ∧ KT 32 g W (w3.setCell ⟨g, 0, none⟩ (.slice p3 (E ++ [(⟨1, k, tv0⟩ : Ev)]).length c3)) ∧ (w3.setCell ⟨g, 0, none⟩ (.slice p3 (E ++ [(⟨1, k, tv0⟩ : Ev)]).length c3)).heap[W.heap.size]? = some (NdB k d (.slice ao c.length cap))) := ⟨x4, H2.out.2.trans x5, x5.blk HN2.out hng (by decide)⟩; have x6 : w3.cell? ⟨W.heap.size, 7, none⟩ = some (.slice ao c.length cap) := blk_cell ((Kp.of_grown h2).blk (blk_below HN2.out (below_new _ _)) (fun e => H2.out.1.re.ne HN2.out (by decide) _ e.symm rfl)) rfl; have x7 : W.heap.size < w3.heap.size := World.block_lt_of_cell? _ _ x6; clear x4 x5 h1 h2 h3)
    obtain ⟨w4, e4⟩ : ∃ w4, w3.setCell ⟨g, 0, none⟩ (.slice p3 (E.length + 1) c3) = w4 := ⟨_, rfl⟩
    have H4 : Hid (EI w0 g p (.slice p3 (E ++ [(⟨1, k, tv0⟩ : Ev)]).length c3) (E ++ [⟨1, k, tv0⟩]) w4 ∧ KT 32 g W w4 ∧ w4.heap[W.heap.size]? = some (NdB k d (.slice ao c.length cap))) := by
      have := H3.out
      rw [show (E ++ [(⟨1, k, tv0⟩ : Ev)]).length = E.length + 1 by simp] at this ⊢
      rw [e4] at this
      exact this
    rw [e4]
    clear e4 H3 x1 x2 x3 x6 x7 y0 yg ygl yl
    go_loopw [26] (fun iv wr => ∃ j : Nat, j ≤ c.length ∧ iv = .int .i64 j ∧ Hid (∃ v', EI w0 g p v' (E ++ [⟨1, k, tv0⟩] ++ evsL (c.take j)) wr ∧ KT 32 g W wr ∧ wr.heap[W.heap.size]? = some (NdB k d (.slice ao c.length cap)))) (fun iv _ => c.length - (intOf iv).toNat)
    case atStart => exact ⟨0, Nat.zero_le _, rfl, _, by simpa [evsL] using H4.out⟩
    case round =>
      obtain ⟨j, hj, rfl, HJ0⟩ := hrel
      obtain ⟨vj, hJ⟩ := HJ0.out
      have HJ := show Hid _ from hJ
      clear HJ0 hJ
      have hll := evsL_le (c := c) (j := j)
      by_cases hlt : j < c.length
      · have z1 : (j : Int) < c.length := by omega
        have z2 : (0 : Int) ≤ j := by omega
        obtain ⟨m, hm⟩ : ∃ m, c[j]? = some m := ⟨_, List.getElem?_eq_getElem hlt⟩
        have hmm : m ∈ c := List.mem_of_getElem? hm
        obtain ⟨b, o, rfl, hbl, ao2, cap2, ⟨v0, v1, v2, v3, v4, v5, v6, v7⟩, hv⟩ := kid0 HQ.out HJ.out.1.bel hm
        have yp : wr.cell? ⟨p, 0, none⟩ = some (tellF g p) := blk_cell HJ.out.1.hp rfl
        have ypl : p < wr.heap.size := blk_lt HJ.out.1.hp
        have ht := evsL_take hm
        have hll2 := evsL_le (c := c) (j := j + 1)
        rw [ht] at hll2
        have HC : Hid (∀ V, EI w0 g p vj (E ++ [⟨1, k, tv0⟩] ++ evsL (c.take j)) V → Calls Try.prog 29 #[ndv m.k m.d (.slice ao2 m.c.length cap2), .pointer (some ⟨g, 0, none⟩), .pointer (some ⟨p, 0, none⟩)] V fun r w' => r = .returned (.tuple #[]) ∧ ∃ v', EI w0 g p v' (E ++ [⟨1, k, tv0⟩] ++ evsL (c.take (j + 1))) w' ∧ KT 32 g V w') := fun V hV => by
          have := HIH.out m hmm _ hv V g p _ _ hV (by simp at hll2 ⊢; omega)
          rw [ht, ← List.append_assoc]
          exact this
        clear hm hmm hv ht hll2
        obtain ⟨W5, eW5⟩ : ∃ W5, W5 = wr.alloc (NdB m.k m.d (.slice ao2 m.c.length cap2)) := ⟨_, rfl⟩
        have H5 : Hid (Below wr.heap.size wr W5) := by rw [eW5]; exact below_new _ _
        go_wp2_with fail
        try rw [← eW5]
        refine (HC.out _ (HJ.out.1.below H5.out)).mono ?_
        rintro r w6 ⟨rfl, v', h6, k6⟩
        have H6 : Hid (∃ v', EI w0 g p v' (E ++ [⟨1, k, tv0⟩] ++ evsL (c.take (j + 1))) w6 ∧ KT 32 g W w6 ∧ w6.heap[W.heap.size]? = some (NdB k d (.slice (some ⟨b, o, none⟩) c.length cap))) := ⟨v', h6, HJ.out.2.1.trans ((KT.of_below H5.out).trans k6), k6.blk (blk_below HJ.out.2.2 H5.out) hng (by decide)⟩
        clear h6 k6 eW5
        go_wp2_with fail
        exact ⟨⟨j + 1, hlt, by go_num, H6⟩, by simp [intOf]; omega⟩
      · obtain rfl : j = c.length := by omega
        have z1 : ¬ ((c.length : Int) < c.length) := by omega
        rw [List.take_length] at HJ hll
        have HZ : Hid ((E ++ [(⟨1, k, tv0⟩ : Ev)] ++ evsL c).length ≤ 1000000000) := (by simp; omega : (E ++ [(⟨1, k, tv0⟩ : Ev)] ++ evsL c).length ≤ 1000000000)
        obtain ⟨pl, cl, hvl, _⟩ := HJ.out.1.re.shape
        obtain ⟨nl, hnl⟩ : ∃ nl, (E ++ [(⟨1, k, tv0⟩ : Ev)] ++ evsL c).length = nl := ⟨_, rfl⟩
        rw [hnl] at hvl
        subst hvl
        have u0 : wr.cell? ⟨W.heap.size, 0, none⟩ = some (.int .u8 k) := blk_cell HJ.out.2.2 rfl
        have ug : wr.cell? ⟨g, 0, none⟩ = some (.slice pl nl cl) := blk_cell HJ.out.1.hg rfl
        have ul := blk_lt HJ.out.2.2
        have ugl := blk_lt HJ.out.1.hg
        clear hnl
        go_wp2_with (at_builtin; refine app_ev (by rfl) _ _ (by rfl) (.slice pl nl cl) (E ++ [⟨1, k, tv0⟩] ++ evsL c) ⟨3, k, tv0⟩ (by rfl) (HJ.out.1.re.below (below_new _ _)) wr.heap.size 1 (by rfl) (new_at _ _) HZ.out ?_; intro v' w5 h1 h2 h3; obtain ⟨p5, c5, hv5, _⟩ := h1.shape; obtain ⟨nl5, hnl5⟩ : ∃ nl5, ((E ++ [(⟨1, k, tv0⟩ : Ev)] ++ evsL c) ++ [(⟨3, k, tv0⟩ : Ev)]).length = nl5 := ⟨_, rfl⟩; rw [hnl5] at hv5; subst hv5; obtain ⟨⟨x1, x2, x3⟩, x4, x5⟩ := HJ.out.1.push (below_new _ _) h1 h2 h3; have HX : Hid (EI w0 g p (.slice p5 nl5 c5) (E ++ evs (.mk k d c)) (w5.setCell ⟨g, 0, none⟩ (.slice p5 nl5 c5)) ∧ KT 32 g W (w5.setCell ⟨g, 0, none⟩ (.slice p5 nl5 c5))) := ⟨by rw [HEV.out]; exact x4, HJ.out.2.1.trans x5⟩; clear x4 x5 h1 h2 h3 hnl5)
        go_end0
        exact ⟨rfl, ⟨_, HX.out.1⟩, HX.out.2⟩
theorem tell_any (w0 : World) (n : Nd) : TellC w0 n := by
  obtain ⟨s, hs⟩ : ∃ s, nsz n = s := ⟨_, rfl⟩
  induction s using Nat.strongRecOn generalizing n with
  | ind s ih => exact tell_step w0 n (fun m hm => ih (nsz m) (by rw [← hs]; exact nsz_kid hm) m rfl)
theorem ei_start (W : World) (o : Obj) : EI W (W.heap.size + 1) (W.heap.size + 1 + 1) (.slice none 0 0) [] (((W.alloc o).alloc (.cells #[.slice none 0 0] 22)).alloc (.cells #[tellF (W.heap.size + 1) (W.heap.size + 1 + 1)] 40)) := by
  have e1 := size_al W o
  have e2 := size_al (W.alloc o) (.cells #[.slice none 0 0] 22)
  have b1 := below_new W o
  have b2 := below_new (W.alloc o) (.cells #[.slice none 0 0] 22)
  have b3 := below_new ((W.alloc o).alloc (.cells #[.slice none 0 0] 22)) (.cells #[tellF (W.heap.size + 1) (W.heap.size + 1 + 1)] 40)
  refine ⟨(b1.trans (b2.mono b1.size)).trans (b3.mono (by omega)), ?_, ?_, re_nil _, (fun k e => by cases e), by omega, by omega⟩
  · refine alloc_at' ?_ _
    rw [← e1]
    exact new_at _ _
  · rw [← e1, ← e2]
    exact new_at _ _
set_option maxRecDepth 100000 in
theorem events_any (n : Nd) (vn : Value) (W : World) (h : Nv W vn n) (hl : (evs n).length ≤ 1000000000) : Calls Try.prog 16 #[vn] W fun r w' => ∃ v', r = .returned v' ∧ BI W v' (evs n) w' := by
  have hmf : ∀ (fn : Fn) (first cap : Array Value) (w : World), (Instr.makeFunc fn first cap).run Try.prog w = .ok (.func fn first cap) w := fun _ _ _ _ => rfl
  have HL : Hid (∀ V, EI W (W.heap.size + 1) (W.heap.size + 1 + 1) (.slice none 0 0) [] V → Calls Try.prog 29 #[vn, .pointer (some ⟨W.heap.size + 1, 0, none⟩), .pointer (some ⟨W.heap.size + 1 + 1, 0, none⟩)] V fun r w' => r = .returned (.tuple #[]) ∧ ∃ v', EI W (W.heap.size + 1) (W.heap.size + 1 + 1) v' (evs n) w') := fun V hV => by
    refine (tell_any W n vn h V _ _ _ _ hV (by simpa using hl)).mono ?_
    rintro r w' ⟨rfl, v', h1, _⟩
    exact ⟨rfl, v', by simpa using h1⟩
  obtain ⟨ao, cap, rfl, _⟩ := h
  go_enter Try.func16, Try.ntmps16
  go_wp2_with fail
  refine (HL.out _ (ei_start W _)).mono ?_
  rintro r w1 ⟨rfl, v', h1⟩
  obtain ⟨pv, cv, hv, _⟩ := h1.re.shape
  obtain ⟨nl, hnl⟩ : ∃ nl, (evs n).length = nl := ⟨_, rfl⟩
  rw [hnl] at hv
  subst hv
  have yg : w1.cell? ⟨W.heap.size + 1, 0, none⟩ = some (.slice pv nl cv) := blk_cell h1.hg rfl
  have ygl : W.heap.size + 1 < w1.heap.size := blk_lt h1.hg
  have H1 : Hid (BI W (.slice pv nl cv) (evs n) w1) := ⟨h1.bel, h1.re, h1.vB⟩
  clear h1 HL hnl
  go_wp2_with fail
  go_ret
  exact ⟨_, rfl, H1.out⟩
end Go.Proofs.Ythbgipmkdcffnaa
