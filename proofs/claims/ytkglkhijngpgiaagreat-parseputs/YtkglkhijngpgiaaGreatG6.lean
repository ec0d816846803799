import Derived.Test.YtkglkhijngpgiaaGreatG5
set_option linter.unusedVariables false
set_option linter.unusedSimpArgs false
namespace Go.Proofs.YtkglkhijngpgiaaGreat
open Go.RowKit

/-! closes, wrong, take. -/
def Pn (d : D) : Prop := d.e = 0 → d.p ≠ []
theorem Rp.last {W : World} {v : Value} {ys : List (Int × Nat)} {x : Int × Nat} (h : Rp W v (ys ++ [x])) : ∃ b cap, v = .slice (some ⟨b, 0, none⟩) (ys.length + 1) cap ∧ ys.length + 1 ≤ cap ∧ Rp W (.slice (some ⟨b, 0, none⟩) ys.length cap) ys := by
  rcases h.2 with ⟨_, h0⟩ | ⟨b, cap, cur, hv, h1, h2, h3, h4, h5, h6⟩
  · simp at h0
  · have hl : (ys ++ [x]).length = ys.length + 1 := by simp
    rw [hl] at hv h3
    refine ⟨b, cap, hv, h3, by rw [scs_len], .inr ⟨b, cap, cur, rfl, h1, h2, by omega, h4, h5, ?_⟩⟩
    rw [hl, scs_app] at h6
    have := congrArg (List.take (ys.length * 2)) h6
    rw [List.take_take] at this
    rw [Nat.min_eq_left (by omega)] at this
    rw [this, List.take_append_of_le_length (by rw [scs_len]; exact Nat.le_refl _), ← scs_len, List.take_length]
theorem clD_dead {d : D} (he : ¬ d.e = 0) : clD d = d := by unfold clD; rw [if_neg he]
/-- A cell of the reader was set. -/
theorem RD.set {X : Rx} {r r' : Nat} {d d' : D} {W : World} (h : RD X r d W) {vp vq vl : Value} (v : RV X d W vp vq vl) (k : Nat) (u : Value) {vp' : Value}
    (hb : RB (W.setCell ⟨X.g, k, none⟩ u) X.g (.slice X.ao X.L.length X.cap) d'.i vp' d'.s vq vl d'.e) (hp : Rp W vp' d'.p) (ho : vp'.ownBlock = vp.ownBlock) (hl : d'.l = d.l) (hi : d.i ≤ d'.i) (il : d'.i ≤ X.L.length) (sm : d'.e = 0 → d'.s ≤ 100 * d'.i + r') (sb : d'.s ≤ 100 * X.L.length + 100) (pl : d'.p.length ≤ d'.s) : RD X r' d' (W.setCell ⟨X.g, k, none⟩ u) := by
  have k0 := Kp.set W X.g k u
  obtain ⟨m, hm, hq⟩ := v.rq
  refine ⟨Kp.low h.bel k0 (fun k e => by rw [e]; exact h.g0) h.bel.size, h.lt, h.g0, h.hL, ⟨vp', vq, vl, hb, hp.kp k0 (hp.ne v.rb (by decide)), by rw [hl]; exact v.rl.kp k0 (v.rl.ne v.rb (by decide)), ⟨m, by omega, hq.kp k0 (hq.ne v.rb (by decide))⟩, by rw [ho]; exact v.bp, v.bq, by rw [ho]; exact v.bl⟩, il, sm, sb, pl⟩
set_option maxHeartbeats 1000000 in
theorem closes_any {X : Rx} {r : Nat} {d : D} {W : World} (h : RD X r d W) (hp : Pn d) :
    Calls Tryz.prog 63 #[pt X.g] W fun e w' => e = .returned (.tuple #[]) ∧ RD X r (clD d) w' := by
  obtain ⟨vp, vq, vl, v⟩ := h.rv
  obtain ⟨c0, c1, c2, c3, c4, c5, c6, c7⟩ := v.rb.cells
  have hgl := v.rb.lt
  have hf2 := v.rb.frozen 2
  have hL := h.hL
  by_cases he : d.e = 0
  · rw [he] at c7
    have hpl := h.pl
    have hsb := h.sb
    obtain ⟨ys, x, hys⟩ : ∃ ys x, d.p = ys ++ [x] := ⟨d.p.dropLast, d.p.getLast (hp he), (List.dropLast_concat_getLast (hp he)).symm⟩
    have hr := v.rp
    rw [hys] at hr
    obtain ⟨b, cap, rfl, hcap, hr2⟩ := hr.last
    have hyl : d.p.length = ys.length + 1 := by rw [hys]; simp
    have e : clD d = { d with p := ys } := by unfold clD; rw [if_pos he, hys, List.dropLast_concat]
    have HX : Hid (RD X r (clD d) (W.setCell ⟨X.g, 2, none⟩ (.slice (some ⟨b, 0, none⟩) ys.length cap))) := by
      rw [e]
      exact h.set v 2 _ (blk_set v.rb 2 _) hr2 rfl rfl (Nat.le_refl _) h.il h.sm h.sb (by show ys.length ≤ d.s; omega)
    have hy : ys.length ≤ 1000000000 := by omega
    have y0 : (0 : Int) ≤ ys.length := by omega
    have y1 : (ys.length : Int) < (ys.length + 1 : Nat) := by omega
    have y2 : ((ys.length + 1 : Nat) : Int) - 1 = ys.length := by omega
    have y3 : IntKind.i64.wrap (((ys.length + 1 : Nat) : Int) - 1) = (ys.length : Int) := by rw [IntKind.wrap_i64]; omega
    have y4 : ys.length ≤ cap := by omega
    have y5 : IntKind.i64.wrap (ys.length : Int) = (ys.length : Int) := by rw [IntKind.wrap_i64]; omega
    clear h v hr hr2 e hys hp
    go_enter Tryz.func63, Tryz.ntmps63
    go_wp2_with fail
    go_region_law (fail)
    all_goals (
      go_wp2_with fail
      go_end0
      first
        | exact ⟨rfl, HX.out⟩
        | exact ⟨rfl, HX.out.below (Below.refl _ _).drew⟩
        | exact ⟨rfl, HX.out.below (Below.refl _ _).drew.drew⟩)
  · rw [clD_dead he]
    have HX : Hid (RD X r d W) := h
    have q1 : (d.e == 0) = false := by simpa using he
    clear h
    go_enter Tryz.func63, Tryz.ntmps63
    go_wp2_with fail
    go_end0
    exact ⟨rfl, HX.out⟩
set_option maxHeartbeats 1000000 in
theorem wrong_any {X : Rx} {r : Nat} {d : D} {W : World} (h : RD X r d W) :
    Calls Tryz.prog 75 #[pt X.g] W fun e w' => e = .returned (.tuple #[]) ∧ RD X 0 (tkD X.L false d) w' := by
  obtain ⟨vp, vq, vl, v⟩ := h.rv
  obtain ⟨c0, c1, c2, c3, c4, c5, c6, c7⟩ := v.rb.cells
  have hgl := v.rb.lt
  have hf7 := v.rb.frozen 7
  have hL := h.hL
  have hil := h.il
  by_cases he : d.e = 0
  · rw [he] at c7
    by_cases hi : d.i < X.L.length
    · have e : tkD X.L false d = { d with e := 120 } := by simp [tkD, he, hi]
      rw [e]
      have HX : Hid (∀ m, RD X 0 { d with e := 120 } ((W.drewN m).setCell ⟨X.g, 7, none⟩ (.int .i64 120))) := fun m => by
        have hb : Below W.heap.size W (W.drewN m) := below_dn (Below.refl _ _) m
        have h2 := h.below hb
        obtain ⟨m', hm', hq'⟩ := v.rq
        have v2 : RV X d (W.drewN m) vp vq vl := ⟨v.rb.below hb, v.rp.below hb, v.rl.below hb, ⟨m', hm', hq'.below hb⟩, v.bp, v.bq, v.bl⟩
        exact h2.set v2 7 _ (blk_set v2.rb 7 _) v2.rp rfl rfl (Nat.le_refl _) h.il (fun e => by cases e) h.sb h.pl
      have q1 : (d.i : Int) < X.L.length := by omega
      clear h v e
      go_enter Tryz.func75, Tryz.ntmps75
      go_wp2_with fail
      go_quiet (fail)
      go_wp2_with fail
      go_end0
      exact ⟨rfl, HX.out _⟩
    · have e : tkD X.L false d = { d with e := 121 } := by simp [tkD, he, hi]
      rw [e]
      have HX : Hid (∀ m, RD X 0 { d with e := 121 } ((W.drewN m).setCell ⟨X.g, 7, none⟩ (.int .i64 121))) := fun m => by
        have hb : Below W.heap.size W (W.drewN m) := below_dn (Below.refl _ _) m
        have h2 := h.below hb
        obtain ⟨m', hm', hq'⟩ := v.rq
        have v2 : RV X d (W.drewN m) vp vq vl := ⟨v.rb.below hb, v.rp.below hb, v.rl.below hb, ⟨m', hm', hq'.below hb⟩, v.bp, v.bq, v.bl⟩
        exact h2.set v2 7 _ (blk_set v2.rb 7 _) v2.rp rfl rfl (Nat.le_refl _) h.il (fun e => by cases e) h.sb h.pl
      have q1 : ¬ ((d.i : Int) < X.L.length) := by omega
      clear h v e
      go_enter Tryz.func75, Tryz.ntmps75
      go_wp2_with fail
      go_quiet (fail)
      go_wp2_with fail
      go_end0
      exact ⟨rfl, HX.out _⟩
  · have e : tkD X.L false d = d := by simp [tkD, he]
    rw [e]
    have HX : Hid (∀ m, RD X 0 d (W.drewN m)) := fun m => (h.dead he).below (below_dn (Below.refl _ _) m)
    have q1 : (d.e == 0) = false := by simpa using he
    clear h
    go_enter Tryz.func75, Tryz.ntmps75
    go_wp2_with fail
    go_quiet (fail)
    go_wp2_with fail
    go_end0
    exact ⟨rfl, HX.out _⟩

end Go.Proofs.YtkglkhijngpgiaaGreat

set_option linter.unusedVariables false
set_option linter.unusedSimpArgs false
namespace Go.Proofs.YtkglkhijngpgiaaGreat
open Go.RowKit

/-! take. -/
theorem step_row {W : World} {ops : Array Oper} {o : Oper} {a : Act} {K : Act → World → Prop} {Q : Exit → Act → World → Prop} {E : Prop} (hgd : o.guard = none) (s x : Operand)
    (ho : o.op = .call { callee := .builtin .append, args := #[s, x], argTypes := #[63, 63] }) (v : Value) (n : Nat) (d : Value) (hd : d.oneCell' = true) (hs : a.eval s = v) (hr : Rq W v n)
    (g c : Nat) (hx : a.eval x = .slice (some ⟨g, 0, none⟩) 1 c) (hg : W.heap[g]? = some (.cells #[d] 47 (0, 0))) (hl : n ≤ 1000000000)
    (h : ∀ q cap w', Rq w' (.slice (some ⟨q, 0, none⟩) (n + 1) cap) (n + 1) → Kp (fun k => v.ownBlock = some k) W w' → Nb W v (.slice (some ⟨q, 0, none⟩) (n + 1) cap) → K (a.put o.dst (.slice (some ⟨q, 0, none⟩) (n + 1) cap)) w') :
    if Region.wanted o (yielded ops a.tmps) = true then Oper.wp Tryz.prog o a W K Q else E := by
  obtain ⟨i0, hi, hz0, hz1, hz2⟩ := info_parts Tryz.info47
  obtain ⟨xs, hxl, hrx⟩ := hr
  refine step_append_lies W hgd s x 63 ho 0 47 i0 _ 1 24 Tryz.underlying63 hi hz0 hz1 hz2 rfl (by decide) v _ _ hs hrx ⟨g, 0, none⟩ 1 c [d] hx rfl ?_ (by intro u hu; simp at hu; subst hu; exact hd) (by omega) (by unfold maxLen; omega) (by omega) (Nat.zero_le _) _ rfl ?_
  · intro j u hu
    exact World.news_of_block hg j u (by simpa using hu)
  · intro q cap w' a1 a2 a3 _
    refine h q cap w' ⟨xs ++ [d], by simp [hxl], a1⟩ ((Kp.of_grown a2).sub (fun k e => e.symm)) ?_
    rcases a3 with a3 | a3
    · exact .inl a3.symm
    · exact .inr ⟨q, rfl, by rw [a3]; exact Nat.le_refl _⟩
/-- The last token's nodes were kept. -/
structure T1 (X : Rx) (d : D) (W : World) (vp vq vl : Value) (n : Nat) (vx : Value) : Prop where
  bel : Below X.w.heap.size X.w W
  rb : RB W X.g (.slice X.ao X.L.length X.cap) d.i vp d.s vq vl d.e
  rp : Rp W vp d.p
  rx : Rp W vx d.p
  rq : Rq W vq n
  xb : ∀ k, vx.ownBlock = some k → X.w.heap.size ≤ k ∧ vp.ownBlock ≠ some k
theorem T1.below {X : Rx} {d : D} {W W' : World} {vp vq vl vx : Value} {n : Nat} (h : T1 X d W vp vq vl n vx) (hb : Below W.heap.size W W') : T1 X d W' vp vq vl n vx := ⟨h.bel.trans (hb.mono h.bel.size), h.rb.below hb, h.rp.below hb, h.rx.below hb, h.rq.below hb, h.xb⟩
theorem t1_of {X : Rx} {r : Nat} {d : D} {W w1 : World} (h : RD X r d W) {vp vq vl vx : Value} (v : RV X d W vp vq vl) {n : Nat} (hq : Rq W vq n) (h1 : Rp w1 vx d.p) (h2 : Kp (fun k => nilS.ownBlock = some k) W w1) (h3 : Nb W nilS vx) : T1 X d w1 vp vq vl n vx := by
  have no : ∀ k, ¬ (nilS.ownBlock = some k) := fun k e => by cases e
  refine ⟨Kp.low h.bel h2 (fun k e => absurd e (no k)) h.bel.size, v.rb.kp h2 (no _), v.rp.kp h2 (fun k _ => no k), h1, hq.kp h2 (fun k _ => no k), ?_⟩
  intro k e
  rcases h3 with e1 | ⟨q, e1, hq1⟩
  · rw [e1] at e; cases e
  · rw [e1] at e
    simp at e
    subst e
    exact ⟨Nat.le_trans h.bel.size hq1, fun e2 => by have := v.rp.lt _ e2; omega⟩
theorem T1.took {X : Rx} {r : Nat} {d : D} {W W0 w1 w3 : World} (h : RD X r d W) (he : d.e = 0) (hr : r ≤ 100) (hi : d.i < X.L.length) {vp vq vl vx v' : Value} (v : RV X d W vp vq vl) {n : Nat} (hn : n ≤ d.i) (t : T1 X d w1 vp vq vl n vx) (hb : Below w1.heap.size w1 W0) (h1 : Rq w3 v' (n + 1)) (h2 : Kp (fun k => vq.ownBlock = some k) W0 w3) (h3 : Nb W0 vq v') :
    RB w3 X.g (.slice X.ao X.L.length X.cap) d.i vp d.s vq vl d.e ∧ (∀ V, Below (w3.setCell ⟨X.g, 5, none⟩ v').heap.size (w3.setCell ⟨X.g, 5, none⟩ v') V → (V.cell? ⟨X.g, 6, none⟩ = some vl ∧ V.frozen? ⟨X.g, 6, none⟩ = false) ∧
      (∀ U, Below (V.setCell ⟨X.g, 6, none⟩ vx).heap.size (V.setCell ⟨X.g, 6, none⟩ vx) U → (U.cell? ⟨X.g, 1, none⟩ = some (.int .i64 (d.i : Int)) ∧ U.frozen? ⟨X.g, 1, none⟩ = false) ∧ RD X 0 { d with i := d.i + 1, l := d.p } (U.setCell ⟨X.g, 1, none⟩ (.int .i64 ((d.i + 1 : Nat) : Int))))) := by
  have t0 := t.below hb
  have hqg : ∀ k, vq.ownBlock = some k → k ≠ X.g := t0.rq.ne t0.rb (by decide)
  have rb3 := t0.rb.kp h2 (fun e => hqg X.g e rfl)
  have hqp : ∀ k, vp.ownBlock = some k → ¬ (vq.ownBlock = some k) := fun k e e2 => t0.rq.rp t0.rp k e2 e
  have hqx : ∀ k, vx.ownBlock = some k → ¬ (vq.ownBlock = some k) := fun k e e2 => t0.rq.rp t0.rx k e2 e
  have k4 := Kp.set w3 X.g 5 v'
  have hpg : ∀ k, vp.ownBlock = some k → k ≠ X.g := t0.rp.ne t0.rb (by decide)
  have hxg : ∀ k, vx.ownBlock = some k → k ≠ X.g := t0.rx.ne t0.rb (by decide)
  have hvg : ∀ k, v'.ownBlock = some k → k ≠ X.g := h1.ne rb3 (by decide)
  have rb4 := blk_set rb3 5 v'
  have b3 : Below X.w.heap.size X.w w3 := Kp.low t0.bel h2 v.bq t0.bel.size
  have b4 := Kp.low b3 k4 (fun k e => by rw [e]; exact h.g0) b3.size
  refine ⟨rb3, fun V hV => ?_⟩
  have rbV := blk_below rb4 hV
  have k5 := Kp.set V X.g 6 vx
  have rb5 := blk_set rbV 6 vx
  have bV := b4.trans (hV.mono b4.size)
  have b5 := Kp.low bV k5 (fun k e => by rw [e]; exact h.g0) bV.size
  refine ⟨⟨blk_cell rbV rfl, blk_frozen rbV⟩, fun U hU => ?_⟩
  have rbU := blk_below rb5 hU
  have k6 := Kp.set U X.g 1 (.int .i64 ((d.i + 1 : Nat) : Int))
  have rb6 := blk_set rbU 1 (.int .i64 ((d.i + 1 : Nat) : Int))
  have bU := b5.trans (hU.mono b5.size)
  have b6 := Kp.low bU k6 (fun k e => by rw [e]; exact h.g0) bU.size
  refine ⟨⟨blk_cell rbU rfl, blk_frozen rbU⟩, ?_⟩
  have hsm := h.sm he
  refine ⟨b6, h.lt, h.g0, h.hL, ⟨vp, v', vx, rb6, ?_, ?_, ⟨n + 1, by show n + 1 ≤ d.i + 1; omega, ?_⟩, v.bp, ?_, t.xb⟩, hi, fun _ => by show d.s ≤ 100 * (d.i + 1) + 0; omega, h.sb, h.pl⟩
  · exact ((((((t0.rp.kp h2 hqp).kp k4 hpg).below hV).kp k5 hpg).below hU).kp k6 hpg)
  · exact ((((((t0.rx.kp h2 hqx).kp k4 hxg).below hV).kp k5 hxg).below hU).kp k6 hxg)
  · exact (((((h1.kp k4 hvg).below hV).kp k5 hvg).below hU).kp k6 hvg)
  · intro k e
    rcases h3 with e1 | ⟨q, e1, hq1⟩
    · exact v.bq k (by rw [← e1]; exact e)
    · rw [e1] at e
      simp at e
      have := t0.bel.size
      omega
set_option maxRecDepth 100000 in
set_option maxHeartbeats 2000000 in
theorem take_any {X : Rx} {r : Nat} {d : D} {W : World} (h : RD X r d W) (hr : r ≤ 100) {f : Tv → Bool} {b : Bool} (hb : b = qn X.L d f) :
    Calls Tryz.prog 56 #[pt X.g, .bool b] W fun e w' => e = .returned (.tuple #[]) ∧ RD X 0 (tkD X.L b d) w' := by
  cases b with
  | false =>
    have HW : Hid (Calls Tryz.prog 75 #[pt X.g] W fun e w' => e = .returned (.tuple #[]) ∧ RD X 0 (tkD X.L false d) w') := wrong_any h
    clear h hb
    go_enter Tryz.func56, Tryz.ntmps56
    go_wp2_with fail
    refine HW.out.mono ?_
    rintro e w1 ⟨rfl, h1⟩
    have HX : Hid (RD X 0 (tkD X.L false d) w1) := h1
    clear h1
    go_wp2_with fail
    refine bodyPost_ret (v := .tuple #[]) (by first | rfl | simp [results, Tryz.f56, go_sem]) rfl ?_
    exact ⟨rfl, HX.out⟩
  | true =>
    obtain ⟨he, hi⟩ := qn_live hb.symm
    obtain ⟨vp, vq, vl, v⟩ := h.rv
    obtain ⟨c0, c1, c2, c3, c4, c5, c6, c7⟩ := v.rb.cells
    have hgl := v.rb.lt
    have hf1 := v.rb.frozen 1
    have hf7 := v.rb.frozen 7
    have hL := h.hL
    have hsm := h.sm he
    have hpl := h.pl
    obtain ⟨pv, cv, hv, _⟩ := v.rp.shape
    by_cases hd : 1000 < d.p.length
    · have e : tkD X.L true d = { d with e := 122 } := by simp [tkD, hd]
      rw [e]
      have HX : Hid (RD X 0 { d with e := 122 } (W.setCell ⟨X.g, 7, none⟩ (.int .i64 122))) := h.set v 7 _ (blk_set v.rb 7 _) v.rp rfl rfl (Nat.le_refl _) h.il (fun e => by cases e) h.sb h.pl
      have q1 : (d.p.length : Int) > 1000 := by omega
      subst hv
      clear h v e hb
      go_enter Tryz.func56, Tryz.ntmps56
      go_wp2_with fail
      refine bodyPost_ret (v := .tuple #[]) (by first | rfl | simp [results, Tryz.f56, go_sem]) rfl ?_
      exact ⟨rfl, HX.out⟩
    · have q1 : ¬ ((d.p.length : Int) > 1000) := by omega
      by_cases hlast : d.i + 1 = X.L.length
      · have e : tkD X.L true d = { d with i := d.i + 1, l := d.p } := by simp [tkD, hd, hlast]
        rw [e]
        obtain ⟨n, hn, hq⟩ := v.rq
        obtain ⟨pq, cq, hvq, _⟩ := hq.shape
        obtain ⟨pl', cl', hvl, _⟩ := v.rl.shape
        subst hvq hvl
        have HT : Hid (∀ m w1 vx, Rp w1 vx ([] ++ d.p) → Kp (fun k => nilS.ownBlock = some k) (W.drewN m) w1 → Nb (W.drewN m) nilS vx → T1 X d w1 vp (.slice pq n cq) (.slice pl' d.l.length cl') n vx) := fun m w1 vx a b c => by
          have hb : Below W.heap.size W (W.drewN m) := below_dn (Below.refl _ _) m
          exact t1_of (h.below hb) ⟨v.rb.below hb, v.rp.below hb, v.rl.below hb, ⟨n, hn, hq.below hb⟩, v.bp, v.bq, v.bl⟩ (hq.below hb) a b c
        have HK : Hid (∀ W0 w1 w3 vx v', T1 X d w1 vp (.slice pq n cq) (.slice pl' d.l.length cl') n vx → Below w1.heap.size w1 W0 → Rq w3 v' (n + 1) → Kp (fun k => (Value.slice pq n cq).ownBlock = some k) W0 w3 → Nb W0 (.slice pq n cq) v' → RB w3 X.g (.slice X.ao X.L.length X.cap) d.i vp d.s (.slice pq n cq) (.slice pl' d.l.length cl') d.e ∧ (∀ V, Below (w3.setCell ⟨X.g, 5, none⟩ v').heap.size (w3.setCell ⟨X.g, 5, none⟩ v') V → (V.cell? ⟨X.g, 6, none⟩ = some (.slice pl' d.l.length cl') ∧ V.frozen? ⟨X.g, 6, none⟩ = false) ∧
      (∀ U, Below (V.setCell ⟨X.g, 6, none⟩ vx).heap.size (V.setCell ⟨X.g, 6, none⟩ vx) U → (U.cell? ⟨X.g, 1, none⟩ = some (.int .i64 (d.i : Int)) ∧ U.frozen? ⟨X.g, 1, none⟩ = false) ∧ RD X 0 { d with i := d.i + 1, l := d.p } (U.setCell ⟨X.g, 1, none⟩ (.int .i64 ((d.i + 1 : Nat) : Int)))))) := fun W0 w1 w3 vx v' a b c e f => T1.took h he hr hi v hn a b c e f
        have HR : Hid (∀ m, Rp (W.drewN m) vp d.p) := fun m => v.rp.below (below_dn (Below.refl _ _) m)
        have q2 : ((d.i : Int) == (X.L.length : Int) - 1) = true := by rw [beq_iff_eq]; omega
        have q3 : (X.L.length : Int) ≤ 1000000 := by omega
        have q4 : (d.i : Int) ≤ 1000000 := by omega
        have hnl : n ≤ 1000000000 := by omega
        have hpl2 : 0 + d.p.length ≤ 1000000000 := by omega
        subst hv
        clear h v e hb hq
        go_enter Tryz.func56, Tryz.ntmps56
        go_wp2_with fail
        go_quiet (fail)
        go_wp2_with (first
          | (at_builtin; refine app_steps (by rfl) _ _ (by rfl) nilS (.slice pv d.p.length cv) [] d.p (by rfl) (rp_nil _) (by rfl) (HR.out _) hpl2 ?_; intro vx w1 h1 h2 h3; have H1 : Hid (T1 X d w1 (.slice pv d.p.length cv) (.slice pq n cq) (.slice pl' d.l.length cl') n vx) := HT.out _ _ _ h1 h2 h3; obtain ⟨px, cx, hvx, _⟩ := h1.shape; subst hvx; have z5 : w1.cell? ⟨X.g, 5, none⟩ = some (.slice pq n cq) := blk_cell H1.out.rb rfl; have zg : X.g < w1.heap.size := H1.out.rb.lt; clear h1 h2 h3)
          | (at_builtin; go_loud (refine app_row (by rfl) _ _ (by rfl) (.slice pq n cq) n _ (by rfl) (by rfl) (H1.out.rq.below (below_new _ _)) w1.heap.size 1 (by rfl) (new_at w1 _) hnl ?_); intro v' w3 h1 h2 h3; obtain ⟨x0, x3⟩ := HK.out _ _ _ _ _ H1.out (below_new _ _) h1 h2 h3; obtain ⟨_, y3⟩ := x3 _ (Below.refl _ _); obtain ⟨_, u3⟩ := y3 _ (Below.refl _ _); have x1 : w3.cell? ⟨X.g, 1, none⟩ = some (.int .i64 (d.i : Int)) := blk_cell x0 rfl; have x5 : w3.cell? ⟨X.g, 5, none⟩ = some (.slice pq n cq) := blk_cell x0 rfl; have x6 : w3.cell? ⟨X.g, 6, none⟩ = some (.slice pl' d.l.length cl') := blk_cell x0 rfl; have y1 := x0.frozen 1; have y5 := x0.frozen 5; have y6 := x0.frozen 6; clear x0; have HX2 := show Hid _ from u3; obtain ⟨p5, k5, hv5, _⟩ := h1.shape; subst hv5; clear x3 y3 u3 h1 h2 h3))
        go_end0
        exact ⟨rfl, HX2.out⟩
      · have e : tkD X.L true d = { d with i := d.i + 1 } := by simp [tkD, hd, hlast]
        rw [e]
        have HX : Hid (∀ m, RD X 0 { d with i := d.i + 1 } ((W.drewN m).setCell ⟨X.g, 1, none⟩ (.int .i64 ((d.i + 1 : Nat) : Int)))) := fun m => by
          have hb : Below W.heap.size W (W.drewN m) := below_dn (Below.refl _ _) m
          have h2 := h.below hb
          obtain ⟨m', hm', hq'⟩ := v.rq
          have v2 : RV X d (W.drewN m) vp vq vl := ⟨v.rb.below hb, v.rp.below hb, v.rl.below hb, ⟨m', hm', hq'.below hb⟩, v.bp, v.bq, v.bl⟩
          exact h2.set v2 1 _ (blk_set v2.rb 1 _) v2.rp rfl rfl (Nat.le_succ _) hi (fun _ => by show d.s ≤ 100 * (d.i + 1) + 0; omega) h.sb h.pl
        have q2 : ((d.i : Int) == (X.L.length : Int) - 1) = false := by rw [beq_eq_false_iff_ne]; omega
        have q3 : (X.L.length : Int) ≤ 1000000 := by omega
        have q4 : (d.i : Int) ≤ 1000000 := by omega
        subst hv
        clear h v e hb
        go_enter Tryz.func56, Tryz.ntmps56
        go_wp2_with fail
        go_quiet (fail)
        go_wp2_with fail
        go_end0
        exact ⟨rfl, HX.out _⟩

end Go.Proofs.YtkglkhijngpgiaaGreat

set_option linter.unusedVariables false
set_option linter.unusedSimpArgs false
namespace Go.Proofs.YtkglkhijngpgiaaGreat
open Go.RowKit

/-! takeWord, takeSign, takeName, value, begins. -/
def tkI (L : List Tv) (x : Fl) (d : D) : D := tkD L (qn L d (fun t => x.takes t)) d
theorem takes_wd (k : Int) (s : ByteArray) : (fun t => Fl.takes t (.wd k [s])) = wk k s := by
  funext t
  simp [Fl.takes, wk, has]
theorem rtakeWord_any {X : Rx} {r : Nat} {d : D} {W : World} (h : RD X r d W) (hr : r ≤ 100) (s : ByteArray) :
    Calls Tryz.prog 44 #[pt X.g, .string s] W fun e w' => e = .returned (.tuple #[]) ∧ RD X 0 (tkI X.L (.wd 2 [s]) d) w' := by
  have HW : Hid (Calls Tryz.prog 55 #[pt X.g, .string s] W fun e w' => e = .returned (.bool (qn X.L d (wk 2 s))) ∧ Below W.heap.size W w') := rword_any h s
  have HT : Hid (∀ V, Below W.heap.size W V → Calls Tryz.prog 56 #[pt X.g, .bool (qn X.L d (wk 2 s))] V fun e w' => e = .returned (.tuple #[]) ∧ RD X 0 (tkI X.L (.wd 2 [s]) d) w') := fun V hb => by
    unfold tkI
    rw [takes_wd]
    exact take_any (h.below hb) hr rfl
  clear h
  go_enter Tryz.func44, Tryz.ntmps44
  go_wp2_with fail
  refine HW.out.mono ?_
  rintro e w1 ⟨rfl, hb1⟩
  go_wp2_with fail
  refine (HT.out _ hb1).mono ?_
  rintro e w2 ⟨rfl, h2⟩
  have H2 := show Hid _ from h2
  clear h2
  go_wp2_with fail
  go_end0
  exact ⟨rfl, H2.out⟩
theorem rtakeSign_any {X : Rx} {r : Nat} {d : D} {W : World} (h : RD X r d W) (hr : r ≤ 100) (s : ByteArray) :
    Calls Tryz.prog 46 #[pt X.g, .string s] W fun e w' => e = .returned (.tuple #[]) ∧ RD X 0 (tkI X.L (.wd 6 [s]) d) w' := by
  have HW : Hid (Calls Tryz.prog 58 #[pt X.g, .string s] W fun e w' => e = .returned (.bool (qn X.L d (wk 6 s))) ∧ Below W.heap.size W w') := rsign_any h s
  have HT : Hid (∀ V, Below W.heap.size W V → Calls Tryz.prog 56 #[pt X.g, .bool (qn X.L d (wk 6 s))] V fun e w' => e = .returned (.tuple #[]) ∧ RD X 0 (tkI X.L (.wd 6 [s]) d) w') := fun V hb => by
    unfold tkI
    rw [takes_wd]
    exact take_any (h.below hb) hr rfl
  clear h
  go_enter Tryz.func46, Tryz.ntmps46
  go_wp2_with fail
  refine HW.out.mono ?_
  rintro e w1 ⟨rfl, hb1⟩
  go_wp2_with fail
  refine (HT.out _ hb1).mono ?_
  rintro e w2 ⟨rfl, h2⟩
  have H2 := show Hid _ from h2
  clear h2
  go_wp2_with fail
  go_end0
  exact ⟨rfl, H2.out⟩
theorem rtakeName_any {X : Rx} {r : Nat} {d : D} {W : World} (h : RD X r d W) (hr : r ≤ 100) :
    Calls Tryz.prog 45 #[pt X.g] W fun e w' => e = .returned (.tuple #[]) ∧ RD X 0 (tkI X.L .nm d) w' := by
  have HW : Hid (Calls Tryz.prog 57 #[pt X.g, .int .u8 1] W fun e w' => e = .returned (.bool (qn X.L d (kd 1))) ∧ Below W.heap.size W w') := rkind_any h 1
  have HT : Hid (∀ V, Below W.heap.size W V → Calls Tryz.prog 56 #[pt X.g, .bool (qn X.L d (kd 1))] V fun e w' => e = .returned (.tuple #[]) ∧ RD X 0 (tkI X.L .nm d) w') := fun V hb => take_any (h.below hb) hr rfl
  clear h
  go_enter Tryz.func45, Tryz.ntmps45
  go_wp2_with fail
  refine HW.out.mono ?_
  rintro e w1 ⟨rfl, hb1⟩
  go_wp2_with fail
  refine (HT.out _ hb1).mono ?_
  rintro e w2 ⟨rfl, h2⟩
  have H2 := show Hid _ from h2
  clear h2
  go_wp2_with fail
  go_end0
  exact ⟨rfl, H2.out⟩
theorem qn_or {L : List Tv} {d : D} {f g : Tv → Bool} : (qn L d f || qn L d g) = qn L d (fun t => f t || g t) := by
  unfold qn
  cases nxt L d <;> rfl
theorem rvalue_any {X : Rx} {r : Nat} {d : D} {W : World} (h : RD X r d W) :
    Calls Tryz.prog 101 #[pt X.g] W fun e w' => e = .returned (.bool (qn X.L d (fun t => Fl.takes t .cs))) ∧ Below W.heap.size W w' := by
  have e0 : qn X.L d (fun t => Fl.takes t .cs) = (qn X.L d (kd 3) || qn X.L d (kd 4) || qn X.L d (kd 5)) := by rw [qn_or, qn_or]; rfl
  rw [e0]
  obtain ⟨b3, e3⟩ : ∃ b, qn X.L d (kd 3) = b := ⟨_, rfl⟩
  obtain ⟨b4, e4⟩ : ∃ b, qn X.L d (kd 4) = b := ⟨_, rfl⟩
  obtain ⟨b5, e5⟩ : ∃ b, qn X.L d (kd 5) = b := ⟨_, rfl⟩
  have H3 : Hid (∀ V, Below W.heap.size W V → Calls Tryz.prog 57 #[pt X.g, .int .u8 3] V fun e w' => e = .returned (.bool b3) ∧ Below V.heap.size V w') := fun V hb => by rw [← e3]; exact rkind_any (h.below hb) 3
  have H4 : Hid (∀ V, Below W.heap.size W V → Calls Tryz.prog 57 #[pt X.g, .int .u8 4] V fun e w' => e = .returned (.bool b4) ∧ Below V.heap.size V w') := fun V hb => by rw [← e4]; exact rkind_any (h.below hb) 4
  have H5 : Hid (∀ V, Below W.heap.size W V → Calls Tryz.prog 57 #[pt X.g, .int .u8 5] V fun e w' => e = .returned (.bool b5) ∧ Below V.heap.size V w') := fun V hb => by rw [← e5]; exact rkind_any (h.below hb) 5
  rw [e3, e4, e5]
  clear h e0 e3 e4 e5
  go_enter Tryz.func101, Tryz.ntmps101
  go_wp2_with fail
  refine (H3.out _ (Below.refl _ _)).mono ?_
  rintro e w1 ⟨rfl, hb1⟩
  go_wp2_with fail
  refine (H4.out _ hb1).mono ?_
  rintro e w2 ⟨rfl, hb2⟩
  have hb2' := hb1.trans (hb2.mono hb1.size)
  go_wp2_with fail
  refine (H5.out _ hb2').mono ?_
  rintro e w3 ⟨rfl, hb3⟩
  have hb3' := hb2'.trans (hb3.mono hb2'.size)
  clear hb1 hb2 hb3 hb2' H3 H4 H5
  go_wp2_with fail
  all_goals (
    go_ret
    exact ⟨by simp_all, hb3'⟩)
def tBeg (t : Tv) : Bool := !(facN t == 0)
theorem wk_is (k : Int) (s : ByteArray) (t : Tv) : wk k s t = (t.k == k && t.t.toList == s.toList) := by unfold wk; rw [tl_eq]
theorem beg_eq (t : Tv) : (wk 6 ⟨#[45]⟩ t || wk 6 ⟨#[40]⟩ t || wk 2 ⟨#[110, 111, 116]⟩ t || Fl.takes t .cs || kd 1 t) = tBeg t := by
  simp only [wk_is, tBeg, facN, Tv.is, Fl.takes, kd]
  have a : (ByteArray.mk #[45]).toList = [45] := by decide +kernel
  have b : (ByteArray.mk #[40]).toList = [40] := by decide +kernel
  have c : (ByteArray.mk #[110, 111, 116]).toList = [110, 111, 116] := by decide +kernel
  rw [a, b, c]
  have key : ∀ x1 x2 x3 x4 x5 : Bool, (x1 || x2 || x3 || x4 || x5) = !((if x1 = true then (25 : Int) else if x3 = true then 26 else if x2 = true then 27 else if x4 = true then 32 else if x5 = true then 28 else 0) == 0) := by decide
  exact key _ _ _ _ _
set_option maxHeartbeats 1000000 in
theorem rbegins_any {X : Rx} {r : Nat} {d : D} {W : World} (h : RD X r d W) :
    Calls Tryz.prog 91 #[pt X.g] W fun e w' => e = .returned (.bool (qn X.L d tBeg)) ∧ Below W.heap.size W w' := by
  have e0 : qn X.L d tBeg = (qn X.L d (wk 6 ⟨#[45]⟩) || qn X.L d (wk 6 ⟨#[40]⟩) || qn X.L d (wk 2 ⟨#[110, 111, 116]⟩) || qn X.L d (fun t => Fl.takes t .cs) || qn X.L d (kd 1)) := by
    rw [qn_or, qn_or, qn_or, qn_or]
    congr 1
    funext t
    exact (beg_eq t).symm
  rw [e0]
  obtain ⟨b1, e1⟩ : ∃ b, qn X.L d (wk 6 ⟨#[45]⟩) = b := ⟨_, rfl⟩
  obtain ⟨b2, e2⟩ : ∃ b, qn X.L d (wk 6 ⟨#[40]⟩) = b := ⟨_, rfl⟩
  obtain ⟨b3, e3⟩ : ∃ b, qn X.L d (wk 2 ⟨#[110, 111, 116]⟩) = b := ⟨_, rfl⟩
  obtain ⟨b4, e4⟩ : ∃ b, qn X.L d (fun t => Fl.takes t .cs) = b := ⟨_, rfl⟩
  obtain ⟨b5, e5⟩ : ∃ b, qn X.L d (kd 1) = b := ⟨_, rfl⟩
  have H1 : Hid (∀ V, Below W.heap.size W V → Calls Tryz.prog 58 #[pt X.g, .string ⟨#[45]⟩] V fun e w' => e = .returned (.bool b1) ∧ Below V.heap.size V w') := fun V hb => by rw [← e1]; exact rsign_any (h.below hb) _
  have H2 : Hid (∀ V, Below W.heap.size W V → Calls Tryz.prog 58 #[pt X.g, .string ⟨#[40]⟩] V fun e w' => e = .returned (.bool b2) ∧ Below V.heap.size V w') := fun V hb => by rw [← e2]; exact rsign_any (h.below hb) _
  have H3 : Hid (∀ V, Below W.heap.size W V → Calls Tryz.prog 55 #[pt X.g, .string ⟨#[110, 111, 116]⟩] V fun e w' => e = .returned (.bool b3) ∧ Below V.heap.size V w') := fun V hb => by rw [← e3]; exact rword_any (h.below hb) _
  have H4 : Hid (∀ V, Below W.heap.size W V → Calls Tryz.prog 101 #[pt X.g] V fun e w' => e = .returned (.bool b4) ∧ Below V.heap.size V w') := fun V hb => by rw [← e4]; exact rvalue_any (h.below hb)
  have H5 : Hid (∀ V, Below W.heap.size W V → Calls Tryz.prog 57 #[pt X.g, .int .u8 1] V fun e w' => e = .returned (.bool b5) ∧ Below V.heap.size V w') := fun V hb => by rw [← e5]; exact rkind_any (h.below hb) 1
  rw [e1, e2, e3, e4, e5]
  clear h e0 e1 e2 e3 e4 e5
  go_enter Tryz.func91, Tryz.ntmps91
  go_wp2_with fail
  refine (H1.out _ (Below.refl _ _)).mono ?_
  rintro e w1 ⟨rfl, hb1⟩
  go_wp2_with fail
  refine (H2.out _ hb1).mono ?_
  rintro e w2 ⟨rfl, hb2⟩
  have hc2 := hb1.trans (hb2.mono hb1.size)
  go_wp2_with fail
  refine (H3.out _ hc2).mono ?_
  rintro e w3 ⟨rfl, hb3⟩
  have hc3 := hc2.trans (hb3.mono hc2.size)
  go_wp2_with fail
  refine (H4.out _ hc3).mono ?_
  rintro e w4 ⟨rfl, hb4⟩
  have hc4 := hc3.trans (hb4.mono hc3.size)
  go_wp2_with fail
  refine (H5.out _ hc4).mono ?_
  rintro e w5 ⟨rfl, hb5⟩
  have hc5 := hc4.trans (hb5.mono hc4.size)
  clear hb1 hb2 hb3 hb4 hb5 hc2 hc3 hc4 H1 H2 H3 H4 H5
  go_wp2_with fail
  all_goals (
    go_ret
    exact ⟨by simp_all, hc5⟩)

end Go.Proofs.YtkglkhijngpgiaaGreat
