import Derived.Test.YtlpmnkiieibipaaDoorFk
import Derived.Test.YtlpmnkiieibipaaDoorDy
set_option linter.unusedVariables false
set_option linter.unusedSimpArgs false
namespace Go.Proofs.YtlpmnkiieibipaaDoor
open Go.RowKit

/-! A row whose owner may turn it, beside two that stand. -/
def Orw (B : Nat) (W : World) (v : Value) (n : Nat) : Prop := ∃ xs, W.ownsRow B 36 5 v n xs
theorem size_set (w : World) (a : Addr) (v : Value) : (w.setCell a v).heap.size = w.heap.size := by show (w.heap.modify _ _).size = _; rw [Array.size_modify]
structure Pz (w W : World) (v : Value) (n : Nat) (p2 p3 : Option Addr) (L : List Dc) : Prop where
  bel : Below w.heap.size w W
  row : Orw w.heap.size W v n
  l2 : Lay W p2 L
  l3 : Lay W p3 L
  ne2 : ∀ a b, p2 = some a → v.ownBlock = some b → b ≠ a.block
  ne3 : ∀ a b, p3 = some a → v.ownBlock = some b → b ≠ a.block
  lt2 : ∀ a, p2 = some a → a.block < W.heap.size
  lt3 : ∀ a, p3 = some a → a.block < W.heap.size
theorem Orw.below {B : Nat} {w w' : World} {v : Value} {n : Nat} (h : Orw B w v n) (hb : Below w.heap.size w w') : Orw B w' v n := by
  obtain ⟨xs, h⟩ := h
  refine ⟨xs, h.1, ?_⟩
  rcases h.2 with h1 | ⟨g, cap, cur, rfl, h2, h3, h4⟩
  · exact .inl h1
  · exact .inr ⟨g, cap, cur, rfl, h2, blk_below h3 hb, h4⟩
theorem Orw.shape {B : Nat} {w : World} {v : Value} {n : Nat} (h : Orw B w v n) : ∃ p cap, v = .slice p n cap ∧ n ≤ cap ∧ cap ≤ maxLen := by
  obtain ⟨xs, h⟩ := h
  rcases h.2 with ⟨rfl, h0⟩ | ⟨b, cap, cur, rfl, _, h3, h4, h5, _⟩
  · exact ⟨none, 0, by rw [h0], by omega, Nat.zero_le _⟩
  · exact ⟨_, cap, rfl, h4, h5⟩
theorem Pz.below {w W W' : World} {v : Value} {n : Nat} {p2 p3 : Option Addr} {L : List Dc} (h : Pz w W v n p2 p3 L) (hb : Below W.heap.size W W') : Pz w W' v n p2 p3 L :=
  ⟨h.bel.trans (hb.mono h.bel.size), h.row.below hb, h.l2.below hb, h.l3.below hb, h.ne2, h.ne3, fun a e => Nat.lt_of_lt_of_le (h.lt2 a e) hb.size, fun a e => Nat.lt_of_lt_of_le (h.lt3 a e) hb.size⟩
theorem Pz.set {w W : World} {g n cap : Nat} {p2 p3 : Option Addr} {L : List Dc} (h : Pz w W (.slice (some ⟨g, 0, none⟩) n cap) n p2 p3 L) (k : Nat) (u : Value) : Pz w (W.setCell ⟨g, k, none⟩ u) (.slice (some ⟨g, 0, none⟩) n cap) n p2 p3 L := by
  obtain ⟨xs, hx1, hx2⟩ := h.row
  rcases hx2 with ⟨hv, _⟩ | ⟨g', cap', cur, hv, h1, h2, h3, h4, h5, h6⟩
  · cases hv
  · cases hv
    refine ⟨h.bel.setCell (p := ⟨g, k, none⟩) h1 u, ?_, h.l2.kp (Kp.set W g k u) (fun a e => (h.ne2 a g e rfl).symm), h.l3.kp (Kp.set W g k u) (fun a e => (h.ne3 a g e rfl).symm), h.ne2, h.ne3, ?_, ?_⟩
    · refine ⟨(cur.setIfInBounds k u).toList.take (n * 5), ?_, .inr ⟨g, cap, _, rfl, h1, blk_set h2 k u, h3, h4, by simpa using h5, rfl⟩⟩
      rw [List.length_take]
      simp
      have := Nat.mul_le_mul_right 5 h3
      omega
    · intro a e; rw [size_set]; exact h.lt2 a e
    · intro a e; rw [size_set]; exact h.lt3 a e
theorem app_pz {w W : World} {ops : Array Oper} {rest : List Oper} {o : Oper} {a : Act} {Q : Exit → Act → World → Prop} (hgd : o.guard = none) (s x : Operand)
    (ho : o.op = .call { callee := .builtin .append, args := #[s, x], argTypes := #[23, 23] }) (v : Value) (n : Nat) (p2 p3 : Option Addr) (L : List Dc) (hs : a.eval s = v) (hz : Pz w W v n p2 p3 L)
    (g c : Nat) (hx : a.eval x = .slice (some ⟨g, 0, none⟩) 1 c) (d : Dc) (hg : W.heap[g]? = some (.cells #[.int .u8 d.k, .string d.t, .int .i64 d.b, .int .i64 d.i, .bool d.e] 36 (0, 0))) (hl : n ≤ 1000000000)
    (h : ∀ v' w', Pz w w' v' (n + 1) p2 p3 L → wpList Tryd.prog ops Q rest (a.put o.dst v') w') : wpList Tryd.prog ops Q (o :: rest) a W := by
  obtain ⟨i0, hi, hz0, hz1, hz2⟩ := info_parts Tryd.info36
  obtain ⟨xs, hr⟩ := hz.row
  have hown : ∀ k, v.ownBlock = some k → w.heap.size ≤ k := by
    intro k hk
    rcases hr.2 with ⟨rfl, h0⟩ | ⟨b, cap, cur, rfl, hb, _⟩
    · cases hk
    · simp only [Value.ownBlock, Option.some.injEq] at hk
      omega
  refine wpList_append_own_at (P := Tryd.prog) (w := W) hgd s x 23 ho w.heap.size 36 i0 _ 5 48 Tryd.underlying23 hi hz0 hz1 hz2 rfl (by decide) v _ _ hs hr ⟨g, 0, none⟩ 1 c (dcs [d]) hx (by rw [dcs_len]; rfl) ?_ (dcs_one [d]) (by unfold maxLen; omega) (by omega) hz.bel.size ?_
  · intro j u hu
    refine World.news_of_block hg j u ?_
    have e : dcs [d] = [.int .u8 d.k, .string d.t, .int .i64 d.b, .int .i64 d.i, .bool d.e] := by simp [dcs, flat, Dc.cs]
    rw [e] at hu
    simpa using hu
  · intro v' w' h1 h2 _ h4
    have hne : ∀ (p : Option Addr), (∀ a b, p = some a → v.ownBlock = some b → b ≠ a.block) → (∀ a, p = some a → a.block < W.heap.size) → ∀ a b, p = some a → v'.ownBlock = some b → b ≠ a.block := by
      intro p hp hp2 a b e eb
      rcases h4 with h4 | h4
      · rw [h4] at eb; exact hp a b e eb
      · rw [h4] at eb
        cases eb
        have := hp2 a e
        omega
    refine h v' w' ⟨hz.bel.trans ((Below.refl _ W).grown h2 hz.bel.size hown), ⟨_, h1⟩, hz.l2.kp (Kp.of_grown h2) (fun a e hh => hz.ne2 a a.block e hh.symm rfl), hz.l3.kp (Kp.of_grown h2) (fun a e hh => hz.ne3 a a.block e hh.symm rfl), hne p2 hz.ne2 hz.lt2, hne p3 hz.ne3 hz.lt3, fun a e => Nat.lt_of_lt_of_le (hz.lt2 a e) h2.size, fun a e => Nat.lt_of_lt_of_le (hz.lt3 a e) h2.size⟩
theorem prs_len (s : List UInt8) : (prs s).1.length ≤ 4194304 ∧ ∀ d ∈ (prs s).1, d.t.size ≤ 9223372036854775807 := by
  by_cases h : (prs s).2.1 = 0
  · obtain ⟨_, h2, h3, h4, _⟩ := prs_ok h
    have := lns_len (prs s).1
    rw [h2] at this
    exact ⟨by omega, fun d hd => rt_size (h3 d hd)⟩
  · rw [prs_err h]
    exact ⟨by simp, by simp⟩
theorem pz_start {w w1 w2 w3 : World} {p1 p2 p3 : Option Addr} {c1 : Nat} {L : List Dc} (hb1 : Below w.heap.size w w1) (hr1 : Rp w.heap.size w1 (.slice p1 L.length c1) L) (hb2 : Below w1.heap.size w1 w2) (hL2 : Lay w2 p2 L) (h2 : p2 = none ∨ ∃ g, p2 = some ⟨g, 0, none⟩ ∧ w1.heap.size ≤ g ∧ g < w2.heap.size)
    (hb3 : Below w2.heap.size w2 w3) (hL3 : Lay w3 p3 L) (h3 : p3 = none ∨ ∃ g, p3 = some ⟨g, 0, none⟩ ∧ w2.heap.size ≤ g ∧ g < w3.heap.size) : Pz w w3 (.slice p1 L.length c1) L.length p2 p3 L := by
  have hb13 : Below w1.heap.size w1 w3 := hb2.trans (hb3.mono hb2.size)
  have hlt : ∀ b, (Value.slice p1 L.length c1).ownBlock = some b → b < w1.heap.size := by
    intro b hb
    rcases hr1.2 with ⟨hv, _⟩ | ⟨g, cap, cur, hv, _, hg, _⟩
    · rw [hv] at hb; cases hb
    · rw [hv] at hb
      simp only [Value.ownBlock, Option.some.injEq] at hb
      subst hb
      exact blk_lt hg
  refine ⟨hb1.trans (hb13.mono hb1.size), ⟨_, hr1.below hb13⟩, hL2.below hb3, hL3, ?_, ?_, ?_, ?_⟩
  · intro a b e eb
    have h4 := hlt b eb
    rcases h2 with rfl | ⟨g, rfl, h5, _⟩
    · cases e
    · cases e; show b ≠ g; omega
  · intro a b e eb
    have h4 := hlt b eb
    have h6 := hb2.size
    rcases h3 with rfl | ⟨g, rfl, h5, _⟩
    · cases e
    · cases e; show b ≠ g; omega
  · intro a e
    rcases h2 with rfl | ⟨g, rfl, _, h5⟩
    · cases e
    · cases e; exact Nat.lt_of_lt_of_le h5 hb3.size
  · intro a e
    rcases h3 with rfl | ⟨g, rfl, _, h5⟩
    · cases e
    · cases e; exact h5

set_option maxHeartbeats 4000000 in
set_option maxRecDepth 100000 in
theorem parses_any (s : ByteArray) (hs : s.size ≤ 9223372036854775807) (w : World) (hG : Gl w) : Calls Tryd.prog 5 #[.string s] w fun e w' => e = .returned (.bool true) ∧ Below w.heap.size w w' := by
  have HG : Hid (GlB w.heap.size w) := hG.glB
  have HA : Hid (∀ W, Below w.heap.size w W → Calls Tryd.prog 8 #[] W fun e w' => e = .returned (.bool true) ∧ Below W.heap.size W w') := fun W hW => awake_any W (HG.out W hW)
  obtain ⟨hlen, hsz⟩ := prs_len (ls s)
  obtain ⟨L, hL⟩ : ∃ l, (prs (ls s)).1 = l := ⟨_, rfl⟩
  obtain ⟨k1, hk1⟩ : ∃ k, (prs (ls s)).2.1 = k := ⟨_, rfl⟩
  obtain ⟨k2, hk2⟩ : ∃ k, (prs (ls s)).2.2 = k := ⟨_, rfl⟩
  have HP : Hid (∀ W, Below w.heap.size w W → Calls Tryd.prog 15 #[.string s] W fun e w' => (∃ v, e = .returned (.tuple #[v, .int .i64 k1, .int .i64 k2]) ∧ Rp W.heap.size w' v L) ∧ Below W.heap.size W w') := fun W hW => by
    have h := parse_any s hs W (HG.out W hW)
    unfold PV at h
    rw [hL, hk1, hk2] at h
    exact h
  have HQ : Hid (∀ W, Calls Tryd.prog 16 #[.string s] W fun e w' => (∃ v, e = .returned (.tuple #[v, .int .i64 k1, .int .i64 k2]) ∧ Rp W.heap.size w' v L) ∧ Below W.heap.size W w') := fun W => by
    have h := rparse_any s hs W
    unfold PV at h
    rw [hL, hk1, hk2] at h
    exact h
  rw [hL] at hlen hsz
  have HT : Hid (∀ d ∈ L, d.t.size ≤ 9223372036854775807) := hsz
  have HSm : Hid (∀ W pa pb ca cb, Lay W pa L → Lay W pb L → Calls Tryd.prog 17 #[.slice pa L.length ca, .slice pb L.length cb] W fun e w' => e = .returned (.bool true) ∧ Below W.heap.size W w') := fun W pa pb ca cb h1 h2 => by
    have h := same_any pa pb L L ca cb W h1 h2 (by omega) (by omega)
    rw [decide_eq_true rfl] at h
    exact h
  clear hG hL hk1 hk2 hsz
  go_enter Tryd.func5, Tryd.ntmps5
  go_wp2_with (first | (go_at_call 15; have hg := H1; clear hg; refine (HP.out _ H1.out.1).mono ?_; rintro e w2 ⟨⟨v2, rfl, hr2⟩, hb2⟩; obtain ⟨p2, c2, hv2, _, hL2, hp2, _, _⟩ := Lay.row hr2 HT.out; subst hv2; have H2 : Hid (Below w1.heap.size w1 w2 ∧ Lay w2 p2 L ∧ (p2 = none ∨ ∃ g, p2 = some ⟨g, 0, none⟩ ∧ w1.heap.size ≤ g ∧ g < w2.heap.size)) := ⟨hb2, hL2, hp2⟩; clear hr2 hb2 hL2 hp2) | (go_at_call 15; refine (HP.out _ (Below.refl _ _)).mono ?_; rintro e w1 ⟨⟨v1, rfl, hr1⟩, hb1⟩; obtain ⟨p1, c1, rfl, hc1, hc2⟩ := hr1.shape; have H1 : Hid (Below w.heap.size w w1 ∧ Rp w.heap.size w1 (.slice p1 L.length c1) L) := ⟨hb1, hr1⟩; clear hr1 hb1) | (go_at_call 16; refine (HQ.out _).mono ?_; rintro e w3 ⟨⟨v3, rfl, hr3⟩, hb3⟩; obtain ⟨p3, c3, hv3, _, hL3, hp3, _, _⟩ := Lay.row hr3 HT.out; subst hv3; have H3 : Hid (Pz w w3 (.slice p1 L.length c1) L.length p2 p3 L ∧ Rp w.heap.size w3 (.slice p1 L.length c1) L) := ⟨pz_start H1.out.1 H1.out.2 H2.out.1 H2.out.2.1 H2.out.2.2 hb3 hL3 hp3, (H1.out.2.below H2.out.1).below hb3⟩; clear hr3 hb3 hL3 hp3) | (go_at_call 8; refine (HA.out _ H3.out.1.bel).mono ?_; rintro e w4 ⟨rfl, hb4⟩; have H4 : Hid (Pz w w4 (.slice p1 L.length c1) L.length p2 p3 L ∧ Rp w.heap.size w4 (.slice p1 L.length c1) L) := ⟨H3.out.1.below hb4, H3.out.2.below hb4⟩; clear hb4) | (go_at_call 17; refine (HSm.out _ _ _ _ _ (by obtain ⟨pp, cc, hvv, _, hLL, _⟩ := Lay.row H4.out.2 HT.out; cases hvv; exact hLL) H4.out.1.l3).mono ?_; rintro e w5 ⟨rfl, hb5⟩; have H5 : Hid (Pz w w5 (.slice p1 L.length c1) L.length p2 p3 L) := H4.out.1.below hb5; clear hb5))
  go_loopw [12] (fun i wr => ∃ k : Nat, k ≤ L.length ∧ i = .int .i64 k ∧ Hid (Pz w wr (.slice p1 L.length c1) L.length p2 p3 L)) (fun i _ => L.length - (intOf i).toNat)
  case atStart => exact ⟨0, by omega, rfl, H5⟩
  case round =>
    obtain ⟨k, hk, rfl, HI⟩ := hrel
    by_cases hlt : k < L.length
    · have q1 : (k : Int) < L.length := by omega
      have q0 : (0 : Int) ≤ k := by omega
      obtain ⟨xs, hx1, hx2⟩ := HI.out.row
      rcases hx2 with ⟨hv, h0⟩ | ⟨g, cap', cur, hv, h1, h2, h3, h4, h5, h6⟩
      · omega
      · cases hv
        have hin : ∀ j, j < 5 → ∃ u, cur[k * 5 + j]? = some u := fun j hj => ⟨_, Array.getElem?_eq_getElem (by have := Nat.mul_le_mul_right 5 (Nat.le_trans hlt h3); omega)⟩
        obtain ⟨u0, e0⟩ := hin 0 (by omega)
        obtain ⟨u1, e1⟩ := hin 1 (by omega)
        obtain ⟨u2, e2⟩ := hin 2 (by omega)
        obtain ⟨u3, e3⟩ := hin 3 (by omega)
        obtain ⟨u4, e4⟩ := hin 4 (by omega)
        rw [Nat.add_zero] at e0
        have x0 := blk_cell h2 e0
        have x1 := blk_cell h2 e1
        have x2 := blk_cell h2 e2
        have x3 := blk_cell h2 e3
        have x4 := blk_cell h2 e4
        have y0 := blk_frozen (k := k * 5) h2
        have y1 := blk_frozen (k := k * 5 + 1) h2
        have y2 := blk_frozen (k := k * 5 + 2) h2
        have y3 := blk_frozen (k := k * 5 + 3) h2
        have y4 := blk_frozen (k := k * 5 + 4) h2
        clear hin e0 e1 e2 e3 e4 h2 h5 h6 hx1 h4 h1
        have HZ : Hid (Pz w (((((wr.setCell ⟨g, k * 5, none⟩ (.int .u8 77)).setCell ⟨g, k * 5 + 1, none⟩ (.string ⟨#[]⟩)).setCell ⟨g, k * 5 + 2, none⟩ (.int .i64 0)).setCell ⟨g, k * 5 + 3, none⟩ (.int .i64 0)).setCell ⟨g, k * 5 + 4, none⟩ (.bool false)) (.slice (some ⟨g, 0, none⟩) L.length c1) L.length p2 p3 L) := ((((HI.out.set _ _).set _ _).set _ _).set _ _).set _ _
        go_wp2_with fail
        exact ⟨⟨k + 1, hlt, by go_num, HZ⟩, by simp [intOf]; omega⟩
    · obtain rfl : k = L.length := by omega
      have q1 : ¬ ((L.length : Int) < L.length) := by omega
      clear H1 H2 H3 H4 H5
      go_wp2_with fail
      go_loopw [3, 13] (fun v i wz => ∃ k n : Nat, k ≤ 9 ∧ n = L.length + k ∧ i = .int .i64 k ∧ Hid (Pz w wz v n p2 p3 L)) (fun _ i _ => 9 - (intOf i).toNat)
      case atStart => exact ⟨0, L.length, by omega, rfl, rfl, HI⟩
      case round =>
        obtain ⟨k, n, hk, hn, rfl, HJ⟩ := hrel
        obtain ⟨pv, cv, rfl, hcv1, hcv2⟩ := HJ.out.row.shape
        by_cases h9 : k < 9
        · have q2 : (k : Int) < 9 := by omega
          have hn2 : n ≤ 1000000000 := by omega
          have HN : Hid (n = L.length + k) := hn
          clear hn
          go_wp2_with (at_builtin; refine app_pz (w := w) rfl _ _ rfl (.slice pv n cv) n p2 p3 L rfl (HJ.out.below ((Below.refl _ _).alloc (Nat.le_refl _) _)) _ _ rfl ⟨78, bE, 0, 0, false⟩ (heap_new _ _) hn2 ?_)
          intro v7 w7 hz7
          have HZ : Hid (Pz w w7 v7 (n + 1) p2 p3 L) := hz7
          clear hz7
          go_wp2_with fail
          exact ⟨⟨k + 1, n + 1, by omega, by rw [HN.out]; omega, by go_num, HZ⟩, by simp [intOf]; omega⟩
        · have q2 : ¬ (k : Int) < 9 := by omega
          clear hn
          go_wp2_with (go_at_call 17; refine (HSm.out _ _ _ _ _ HJ.out.l2 HJ.out.l3).mono ?_; rintro e w8 ⟨rfl, hb8⟩)
          go_ret
          exact ⟨rfl, HJ.out.bel.trans (hb8.mono HJ.out.bel.size)⟩
end Go.Proofs.YtlpmnkiieibipaaDoor
