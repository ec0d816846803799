import Derived.Test.YthbgipmkdcffnaaTd
set_option linter.unusedVariables false
set_option linter.unusedSimpArgs false
namespace Go.Proofs.Ythbgipmkdcffnaa
open Go.RowKit

/-! The document's Events. -/
theorem Kp.low {S : Nat → Prop} {B : Nat} {w W W' : World} (h : Below B w W) (hk : Kp S W W') (hS : ∀ k, S k → B ≤ k) (hB : B ≤ W.heap.size) : Below B w W' :=
  ⟨hk.os.trans h.os, hk.tape.trans h.tape, hk.output.trans h.output, Nat.le_trans h.size hk.size, fun k hlt => (hk.block k (by omega) (fun hs => by have := hS k hs; omega)).trans (h.block k hlt)⟩
/-- A row of events of the call's own. -/
structure BI (W : World) (v : Value) (E : List Ev) (V : World) : Prop where
  bel : Below W.heap.size W V
  re : Re V v E
  vB : ∀ k, v.ownBlock = some k → W.heap.size ≤ k
theorem BI.push {W V V1 w3 : World} {v v' : Value} {E ds : List Ev} (h : BI W v E V) (hb : Below V.heap.size V V1) (hr : Re w3 v' (E ++ ds)) (hg : V1.grownBy w3 v.ownBlock) (hq : Nb V1 v v') : BI W v' (E ++ ds) w3 := by
  have hk3 := Kp.of_grown hg
  refine ⟨Kp.low (h.bel.trans (hb.mono h.bel.size)) hk3 (fun k e => h.vB k e.symm) (Nat.le_trans h.bel.size hb.size), hr, ?_⟩
  intro q e
  rcases hq with e1 | ⟨r, e1, hr1⟩
  · exact h.vB q (by rw [← e1]; exact e)
  · rw [e1] at e
    simp at e
    have := h.bel.size
    have := hb.size
    omega
theorem BI.below {W V V' : World} {v : Value} {E : List Ev} (h : BI W v E V) (hb : Below V.heap.size V V') : BI W v E V' := ⟨h.bel.trans (hb.mono h.bel.size), h.re.below hb, h.vB⟩
theorem rcomment_any (t : Tv) (W : World) : Calls Try.prog 40 #[t.v] W fun r w' => r = .returned (.bool (cm t)) ∧ Below W.heap.size W w' := by
  unfold cm
  dsimp only [Tv.v]
  obtain ⟨b7, e7⟩ : ∃ b, (t.k == 7) = b := ⟨_, rfl⟩
  obtain ⟨b8, e8⟩ : ∃ b, (t.k == 8) = b := ⟨_, rfl⟩
  rw [e7, e8]
  cases b7
  · cases b8
    · go_enter Try.func40, Try.ntmps40
      go_wp2_with fail
      go_ret
      exact ⟨rfl, below_new _ _⟩
    · go_enter Try.func40, Try.ntmps40
      go_wp2_with fail
      go_ret
      exact ⟨rfl, below_new _ _⟩
  · go_enter Try.func40, Try.ntmps40
    go_wp2_with fail
    go_ret
    exact ⟨rfl, below_new _ _⟩
theorem evsL_take {c : List Nd} {j : Nat} {m : Nd} (h : c[j]? = some m) : evsL (c.take (j + 1)) = evsL (c.take j) ++ evs m := by
  rw [List.take_add_one, h, evsL_app]
  simp [evsL]
theorem evsL_le {c : List Nd} {j : Nat} : (evsL (c.take j)).length ≤ (evsL c).length := by
  have : evsL c = evsL (c.take j) ++ evsL (c.drop j) := by rw [← evsL_app, List.take_append_drop]
  rw [this, List.length_append]
  omega
abbrev NdB (k : Int) (d : Tv) (s : Value) : Obj := .cells #[.int .u8 k, .int .u8 d.k, .string d.t, .int .i64 d.a, .int .i64 d.l, .int .i64 d.c, .int .i64 d.f, s] 35
/-- Between two rounds of a tree's telling: the row, the node's own block, what stands. -/
structure AI (w0 W : World) (q : Nat) (ob : Obj) (v v' : Value) (E : List Ev) (V : World) : Prop where
  bi : BI w0 v' E V
  nb : V.heap[q]? = some ob
  kp : Kp (fun k => v.ownBlock = some k) W V
  nb2 : Nb W v v'
theorem AI.step {w0 W : World} {q : Nat} {k : Int} {d : Tv} {sv v v' v4 : Value} {E E4 : List Ev} {V w4 : World} (h : AI w0 W q (NdB k d sv) v v' E V) (hb : BI w0 v4 E4 w4) (hk : Kp (fun q => v'.ownBlock = some q) V w4) (hn : Nb V v' v4) : AI w0 W q (NdB k d sv) v v4 E4 w4 := by
  refine ⟨hb, hk.blk h.nb (fun e => h.bi.re.ne h.nb (by decide) _ e rfl), h.kp.step hk (fun j hj e => ?_), Nb.trans h.nb2 hn h.kp.size⟩
  rcases h.nb2 with e1 | ⟨q, e1, hq⟩
  · rw [← e1]; exact e
  · rw [e1] at e
    simp at e
    omega
theorem AI.step' {w0 W : World} {q : Nat} {k : Int} {d : Tv} {sv v v' v4 : Value} {E ds : List Ev} {V V1 w4 : World} (h : AI w0 W q (NdB k d sv) v v' E V) (hb : Below V.heap.size V V1) (hr : Re w4 v4 (E ++ ds)) (hg : V1.grownBy w4 v'.ownBlock) (hn : Nb V1 v' v4) : AI w0 W q (NdB k d sv) v v4 (E ++ ds) w4 :=
  h.step (h.bi.push hb hr hg hn) ((Kp.of_below hb).step (Kp.of_grown hg) (fun k _ e => e.symm)) (hn.imp id (fun ⟨k, e, hk⟩ => ⟨k, e, Nat.le_trans hb.size hk⟩))
def AddC (w0 : World) (n : Nd) : Prop := ∀ vn, Nv w0 vn n → ∀ W v E, BI w0 v E W → E.length + (evs n).length ≤ 1000000000 → Calls Try.prog 30 #[v, vn] W fun r w' => ∃ v', r = .returned v' ∧ BI w0 v' (E ++ evs n) w' ∧ Kp (fun k => v.ownBlock = some k) W w' ∧ Nb W v v'
set_option maxRecDepth 100000 in
set_option maxHeartbeats 600000 in
theorem add_step (w0 : World) (n : Nd) (IH : ∀ m, m ∈ n.c → AddC w0 m) : AddC w0 n := by
  intro vn h W v E hI hle
  obtain ⟨ao, cap, rfl, q1, q2, q3, q4⟩ := h
  have HI : Hid (BI w0 v E W) := hI
  obtain ⟨pv, cv, hv, _⟩ := hI.re.shape
  subst hv
  obtain ⟨k, d, c⟩ := n
  dsimp only [Nd.k, Nd.d, Nd.c] at *
  obtain ⟨W1, eW⟩ : ∃ W1, W.alloc (NdB k d (.slice ao c.length cap)) = W1 := ⟨_, rfl⟩
  have HB1 : Hid (Below W.heap.size W W1 ∧ W1.heap[W.heap.size]? = some (NdB k d (.slice ao c.length cap))) := by rw [← eW]; exact ⟨below_new _ _, new_at _ _⟩
  have x0 : W1.cell? ⟨W.heap.size, 0, none⟩ = some (.int .u8 k) := blk_cell HB1.out.2 rfl
  have x1 : W1.cell? ⟨W.heap.size, 1, none⟩ = some (.int .u8 d.k) := blk_cell HB1.out.2 rfl
  have x2 : W1.cell? ⟨W.heap.size, 2, none⟩ = some (.string d.t) := blk_cell HB1.out.2 rfl
  have x3 : W1.cell? ⟨W.heap.size, 3, none⟩ = some (.int .i64 d.a) := blk_cell HB1.out.2 rfl
  have x4 : W1.cell? ⟨W.heap.size, 4, none⟩ = some (.int .i64 d.l) := blk_cell HB1.out.2 rfl
  have x5 : W1.cell? ⟨W.heap.size, 5, none⟩ = some (.int .i64 d.c) := blk_cell HB1.out.2 rfl
  have x6 : W1.cell? ⟨W.heap.size, 6, none⟩ = some (.int .i64 d.f) := blk_cell HB1.out.2 rfl
  have x7 : W1.cell? ⟨W.heap.size, 7, none⟩ = some (.slice ao c.length cap) := blk_cell HB1.out.2 rfl
  have xl : W.heap.size < W1.heap.size := blk_lt HB1.out.2
  by_cases hk : k = 0
  · subst hk
    have e : evs (.mk 0 d c) = [tkE d] := by simp [evs]
    have hle1 : E.length ≤ 1000000000 := by omega
    have HC : Hid (∀ V, Calls Try.prog 40 #[.agg #[.int .u8 d.k, .string d.t, .int .i64 d.a, .int .i64 d.l, .int .i64 d.c, .int .i64 d.f]] V fun r w' => r = .returned (.bool (cm d)) ∧ Below V.heap.size V w') := fun V => rcomment_any d V
    rw [e]
    clear hI hle q3 q4 IH e
    unfold tkE
    cases hc : cm d with
    | true =>
      rw [hc] at HC
      simp only [if_true]
      go_enter Try.func30, Try.ntmps30
      go_wp2_with fail
      refine (HC.out _).mono ?_
      rintro r w2 ⟨rfl, hb2⟩
      have t0 : w2.heap[W.heap.size]? = some (NdB 0 d (.slice ao c.length cap)) := blk_below HB1.out.2 hb2
      have H2 : Hid (BI w0 (.slice pv E.length cv) E w2) := HI.out.below (HB1.out.1.trans (hb2.mono HB1.out.1.size))
      have HBW : Hid (Below W.heap.size W w2) := HB1.out.1.trans (hb2.mono HB1.out.1.size)
      have y1 : w2.cell? ⟨W.heap.size, 1, none⟩ = some (.int .u8 d.k) := blk_cell t0 rfl
      have y2 : w2.cell? ⟨W.heap.size, 2, none⟩ = some (.string d.t) := blk_cell t0 rfl
      have y3 : w2.cell? ⟨W.heap.size, 3, none⟩ = some (.int .i64 d.a) := blk_cell t0 rfl
      have y4 : w2.cell? ⟨W.heap.size, 4, none⟩ = some (.int .i64 d.l) := blk_cell t0 rfl
      have y5 : w2.cell? ⟨W.heap.size, 5, none⟩ = some (.int .i64 d.c) := blk_cell t0 rfl
      have y6 : w2.cell? ⟨W.heap.size, 6, none⟩ = some (.int .i64 d.f) := blk_cell t0 rfl
      have yl := blk_lt t0
      clear hb2 t0
      go_wp2_with (at_builtin; refine app_ev (by rfl) _ _ (by rfl) (.slice pv E.length cv) E ⟨4, 0, d⟩ (by rfl) (H2.out.re.below (below_new _ _)) w2.heap.size 1 (by rfl) (new_at _ _) hle1 ?_; intro v' w3 h1 h2 h3; have H3 : Hid (BI w0 v' (E ++ [⟨4, 0, d⟩]) w3 ∧ Kp (fun k => (Value.slice pv E.length cv).ownBlock = some k) W w3 ∧ Nb W (.slice pv E.length cv) v') := ⟨H2.out.push (below_new _ _) h1 h2 h3, ((Kp.of_below HBW.out).step (Kp.of_below (S := fun _ => False) (below_new _ _)) (fun _ _ h => h.elim)).step (Kp.of_grown h2) (fun k _ e => e.symm), h3.imp id (fun ⟨k, e, hk⟩ => ⟨k, e, Nat.le_trans HBW.out.size (Nat.le_trans (below_new w2 _).size hk)⟩)⟩; clear h1 h2 h3)
      go_ret
      exact ⟨_, rfl, H3.out⟩
    | false =>
      rw [hc] at HC
      simp only [Bool.false_eq_true, if_false]
      go_enter Try.func30, Try.ntmps30
      go_wp2_with fail
      refine (HC.out _).mono ?_
      rintro r w2 ⟨rfl, hb2⟩
      have t0 : w2.heap[W.heap.size]? = some (NdB 0 d (.slice ao c.length cap)) := blk_below HB1.out.2 hb2
      have H2 : Hid (BI w0 (.slice pv E.length cv) E w2) := HI.out.below (HB1.out.1.trans (hb2.mono HB1.out.1.size))
      have HBW : Hid (Below W.heap.size W w2) := HB1.out.1.trans (hb2.mono HB1.out.1.size)
      have y1 : w2.cell? ⟨W.heap.size, 1, none⟩ = some (.int .u8 d.k) := blk_cell t0 rfl
      have y2 : w2.cell? ⟨W.heap.size, 2, none⟩ = some (.string d.t) := blk_cell t0 rfl
      have y3 : w2.cell? ⟨W.heap.size, 3, none⟩ = some (.int .i64 d.a) := blk_cell t0 rfl
      have y4 : w2.cell? ⟨W.heap.size, 4, none⟩ = some (.int .i64 d.l) := blk_cell t0 rfl
      have y5 : w2.cell? ⟨W.heap.size, 5, none⟩ = some (.int .i64 d.c) := blk_cell t0 rfl
      have y6 : w2.cell? ⟨W.heap.size, 6, none⟩ = some (.int .i64 d.f) := blk_cell t0 rfl
      have yl := blk_lt t0
      clear hb2 t0
      go_wp2_with (at_builtin; refine app_ev (by rfl) _ _ (by rfl) (.slice pv E.length cv) E ⟨2, 0, d⟩ (by rfl) (H2.out.re.below (below_new _ _)) w2.heap.size 1 (by rfl) (new_at _ _) hle1 ?_; intro v' w3 h1 h2 h3; have H3 : Hid (BI w0 v' (E ++ [⟨2, 0, d⟩]) w3 ∧ Kp (fun k => (Value.slice pv E.length cv).ownBlock = some k) W w3 ∧ Nb W (.slice pv E.length cv) v') := ⟨H2.out.push (below_new _ _) h1 h2 h3, ((Kp.of_below HBW.out).step (Kp.of_below (S := fun _ => False) (below_new _ _)) (fun _ _ h => h.elim)).step (Kp.of_grown h2) (fun k _ e => e.symm), h3.imp id (fun ⟨k, e, hk⟩ => ⟨k, e, Nat.le_trans HBW.out.size (Nat.le_trans (below_new w2 _).size hk)⟩)⟩; clear h1 h2 h3)
      go_ret
      exact ⟨_, rfl, H3.out⟩
  · have e : evs (.mk k d c) = ⟨1, k, tv0⟩ :: (evsL c ++ [⟨3, k, tv0⟩]) := by simp [evs, hk]
    have q5 : (k == 0) = false := by simpa using hk
    have hlc : E.length + (evsL c).length + 2 ≤ 1000000000 := by rw [e] at hle; simp at hle; omega
    have HEV : Hid (E ++ evs (.mk k d c) = (E ++ [⟨1, k, tv0⟩] ++ evsL c) ++ [⟨3, k, tv0⟩]) := (by rw [e]; simp : E ++ evs (.mk k d c) = (E ++ [⟨1, k, tv0⟩] ++ evsL c) ++ [⟨3, k, tv0⟩])
    have HIH : Hid (∀ m, m ∈ c → AddC w0 m) := IH
    have HQ : Hid ((ao = none → c = []) ∧ ∀ a, ao = some a → c = [] ∨ ∃ b o, a = ⟨b, o, none⟩ ∧ HL w0 b o c) := ⟨q3, q4⟩
    have H1 : Hid (BI w0 (.slice pv E.length cv) E W1) := HI.out.below HB1.out.1
    have hcl : (c.length : Int) ≤ 9223372036854775807 := by have : maxLen = 9223372036854775807 := rfl; omega
    clear hI hle q3 q4 IH e HI
    go_enter Try.func30, Try.ntmps30
    go_wp2_with (at_builtin; refine app_ev (by rfl) _ _ (by rfl) (.slice pv E.length cv) E ⟨1, k, tv0⟩ (by rfl) (H1.out.re.below (below_new _ _)) W1.heap.size 1 (by rfl) (new_at _ _) (by omega) ?_; intro v' w3 h1 h2 h3; have H3 : Hid (AI w0 W W.heap.size (NdB k d (.slice ao c.length cap)) (.slice pv E.length cv) v' (E ++ [⟨1, k, tv0⟩]) w3) := ⟨H1.out.push (below_new _ _) h1 h2 h3, (Kp.of_grown h2).blk (blk_below HB1.out.2 (below_new _ _)) (fun e => H1.out.re.ne HB1.out.2 (by decide) _ e.symm rfl), ((Kp.of_below HB1.out.1).step (Kp.of_below (S := fun _ => False) (below_new _ _)) (fun _ _ h => h.elim)).step (Kp.of_grown h2) (fun k _ e => e.symm), h3.imp id (fun ⟨k, e, hk⟩ => ⟨k, e, Nat.le_trans HB1.out.1.size (Nat.le_trans (below_new W1 _).size hk)⟩)⟩; clear h1 h2 h3)
    go_loopw [0, 6] (fun lv iv wr => ∃ j : Nat, j ≤ c.length ∧ iv = .int .i64 j ∧ Hid (AI w0 W W.heap.size (NdB k d (.slice ao c.length cap)) (.slice pv E.length cv) lv (E ++ [⟨1, k, tv0⟩] ++ evsL (c.take j)) wr)) (fun _ iv _ => c.length - (intOf iv).toNat)
    case atStart => exact ⟨0, Nat.zero_le _, rfl, by simpa [evsL] using H3⟩
    case round =>
      obtain ⟨j, hj, rfl, HJ⟩ := hrel
      have u7 : wr.cell? ⟨W.heap.size, 7, none⟩ = some (.slice ao c.length cap) := blk_cell HJ.out.nb rfl
      have u0 : wr.cell? ⟨W.heap.size, 0, none⟩ = some (.int .u8 k) := blk_cell HJ.out.nb rfl
      have ul := blk_lt HJ.out.nb
      obtain ⟨pl, cl, hvl, _⟩ := HJ.out.bi.re.shape
      have hll := evsL_le (c := c) (j := j)
      by_cases hlt : j < c.length
      · have z1 : (j : Int) < c.length := by omega
        have z2 : (0 : Int) ≤ j := by omega
        obtain ⟨m, hm⟩ : ∃ m, c[j]? = some m := ⟨_, List.getElem?_eq_getElem hlt⟩
        have hmm : m ∈ c := List.mem_of_getElem? hm
        cases ao with
        | none => have := HQ.out.1 rfl; subst this; simp at hlt
        | some a =>
          obtain ⟨b, o, rfl, hl⟩ := (HQ.out.2 a rfl).resolve_left (fun e => by subst e; simp at hlt)
          have hn := HL.at hl hm
          obtain ⟨hbl, ao2, cap2, ⟨y0, y1, y2, y3, y4, y5, y6, y7⟩, p1, p2, p3, p4⟩ := hn_cells hn
          have ht := evsL_take hm
          have hll2 := evsL_le (c := c) (j := j + 1)
          rw [ht] at hll2
          have tr : ∀ i u, w0.cell? ⟨b, i, none⟩ = some u → wr.cell? ⟨b, i, none⟩ = some u := fun i u hu => (World.cell?_of_block (a := ⟨b, i, none⟩) (HJ.out.bi.bel.block b hbl)).trans hu
          have hbr : b < wr.heap.size := Nat.lt_of_lt_of_le hbl HJ.out.bi.bel.size
          replace y0 := tr _ _ y0
          replace y1 := tr _ _ y1
          replace y2 := tr _ _ y2
          replace y3 := tr _ _ y3
          replace y4 := tr _ _ y4
          replace y5 := tr _ _ y5
          replace y6 := tr _ _ y6
          replace y7 := tr _ _ y7
          have HC : Hid (∀ lv, BI w0 lv (E ++ [⟨1, k, tv0⟩] ++ evsL (c.take j)) wr → Calls Try.prog 30 #[lv, .agg #[.int .u8 m.k, .int .u8 m.d.k, .string m.d.t, .int .i64 m.d.a, .int .i64 m.d.l, .int .i64 m.d.c, .int .i64 m.d.f, .slice ao2 m.c.length cap2]] wr fun r w' => ∃ v', r = .returned v' ∧ BI w0 v' ((E ++ [⟨1, k, tv0⟩] ++ evsL (c.take j)) ++ evs m) w' ∧ Kp (fun q => lv.ownBlock = some q) wr w' ∧ Nb wr lv v') := fun lv hI => HIH.out m hmm _ ⟨ao2, cap2, rfl, p1, p2, p3, p4⟩ wr lv _ hI (by simp at hll2 ⊢; omega)
          have HT : Hid ((E ++ [⟨1, k, tv0⟩] ++ evsL (c.take j)) ++ evs m = E ++ [⟨1, k, tv0⟩] ++ evsL (c.take (j + 1))) := (by rw [ht]; simp : (E ++ [⟨1, k, tv0⟩] ++ evsL (c.take j)) ++ evs m = E ++ [⟨1, k, tv0⟩] ++ evsL (c.take (j + 1)))
          clear hm hmm hn p3 p4 hl tr ht
          obtain ⟨nl, hnl⟩ : ∃ nl, (E ++ [(⟨1, k, tv0⟩ : Ev)] ++ evsL (c.take j)).length = nl := ⟨_, rfl⟩
          rw [hnl] at hvl
          subst hvl
          clear hnl
          go_wp2_with fail
          refine (HC.out _ HJ.out.bi).mono ?_
          rintro r w4 ⟨v4, rfl, hb4, hk4, hn4⟩
          have H4 : Hid (AI w0 W W.heap.size (NdB k d (.slice (some ⟨b, o, none⟩) c.length cap)) (.slice pv E.length cv) v4 (E ++ [⟨1, k, tv0⟩] ++ evsL (c.take (j + 1))) w4) := by
            rw [← HT.out]
            exact HJ.out.step hb4 hk4 hn4
          obtain ⟨p5, c5, hv5, _⟩ := hb4.re.shape
          obtain ⟨nl5, hnl5⟩ : ∃ nl5, ((E ++ [(⟨1, k, tv0⟩ : Ev)] ++ evsL (c.take j)) ++ evs m).length = nl5 := ⟨_, rfl⟩
          rw [hnl5] at hv5
          clear hb4 hk4 hn4 hnl5
          subst hv5
          go_wp2_with fail
          exact ⟨⟨j + 1, hlt, by go_num, H4⟩, by simp [intOf]; omega⟩
      · obtain rfl : j = c.length := by omega
        have z1 : ¬ ((c.length : Int) < c.length) := by omega
        rw [List.take_length] at HJ hvl hll
        have hlz : (E ++ [(⟨1, k, tv0⟩ : Ev)] ++ evsL c).length ≤ 1000000000 := by simp; omega
        have HZ : Hid ((E ++ [(⟨1, k, tv0⟩ : Ev)] ++ evsL c).length ≤ 1000000000) := hlz
        obtain ⟨nl, hnl⟩ : ∃ nl, (E ++ [(⟨1, k, tv0⟩ : Ev)] ++ evsL c).length = nl := ⟨_, rfl⟩
        rw [hnl] at hvl
        subst hvl
        clear hnl hlz
        go_wp2_with (at_builtin; refine app_ev (by rfl) _ _ (by rfl) (.slice pl nl cl) (E ++ [⟨1, k, tv0⟩] ++ evsL c) ⟨3, k, tv0⟩ (by rfl) (HJ.out.bi.re.below (below_new _ _)) wr.heap.size 1 (by rfl) (new_at _ _) HZ.out ?_; intro v' w5 h1 h2 h3; have H5 : Hid (AI w0 W W.heap.size (NdB k d (.slice ao c.length cap)) (.slice pv E.length cv) v' (E ++ [⟨1, k, tv0⟩] ++ evsL c ++ [⟨3, k, tv0⟩]) w5) := HJ.out.step' (below_new _ _) h1 h2 h3; clear h1 h2 h3)
        go_ret
        refine ⟨_, rfl, ?_, H5.out.kp, H5.out.nb2⟩
        rw [HEV.out]
        exact H5.out.bi
theorem add_any (w0 : World) (n : Nd) : AddC w0 n := by
  obtain ⟨s, hs⟩ : ∃ s, nsz n = s := ⟨_, rfl⟩
  induction s using Nat.strongRecOn generalizing n with
  | ind s ih => exact add_step w0 n (fun m hm => ih (nsz m) (by rw [← hs]; exact nsz_kid hm) m rfl)
/-- The document's Events. -/
theorem revents_any (n : Nd) (vn : Value) (W : World) (h : Nv W vn n) (hl : (evs n).length ≤ 1000000000) :
    Calls Try.prog 17 #[vn] W fun r w' => ∃ v', r = .returned v' ∧ BI W v' (evs n) w' := by
  have HA : Hid (∀ V, Below W.heap.size W V → Calls Try.prog 30 #[.slice none 0 0, vn] V fun r w' => ∃ v', r = .returned v' ∧ BI W v' (evs n) w') := fun V hb => by
    refine (add_any W n vn h V (.slice none 0 0) [] ⟨hb, re_nil _, (fun k e => by cases e)⟩ (by simpa using hl)).mono ?_
    rintro r w' ⟨v', rfl, h1, _⟩
    exact ⟨v', rfl, by simpa using h1⟩
  obtain ⟨ao, cap, rfl, _⟩ := h
  go_enter Try.func17, Try.ntmps17
  go_wp2_with fail
  refine (HA.out _ (by first | exact below_new _ _ | exact Below.refl _ _)).mono ?_
  rintro r w1 ⟨v', rfl, h1⟩
  have H1 := show Hid _ from h1
  clear h1 HA
  go_wp2_with fail
  go_ret
  exact ⟨_, rfl, H1.out⟩

end Go.Proofs.Ythbgipmkdcffnaa
