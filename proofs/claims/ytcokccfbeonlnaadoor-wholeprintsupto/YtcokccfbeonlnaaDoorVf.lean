import Derived.Test.YtcokccfbeonlnaaDoorVe
import Derived.Lib.LastIndexByte
set_option linter.unusedVariables false
set_option linter.unusedSimpArgs false
namespace Go.Proofs.YtcokccfbeonlnaaDoor
open Go.RowKit
open Go.Lib (lastIdx lastIdx_hit lastIdx_miss lastIdx_spec)

theorem lastIdx_bd (t : ByteArray) (k : Nat) : -1 ≤ lastIdx t 10 k ∧ lastIdx t 10 k < k := by
  rcases lastIdx_spec t 10 k with ⟨h, _⟩ | ⟨i, hi, h, _⟩
  · rw [h]; omega
  · rw [h]; omega
theorem byte_at (t : ByteArray) (k : Nat) (h : k < t.size) : t.data[k]! = t[k]'h := by
  show t.data[k]! = t.data[k]'h
  exact getElem!_pos t.data k h

/-- The page, cell by cell. -/
structure RP (B : Nat) (W0 W : World) (g : Nat) (N col held : Int) (fr sm em : Bool) (vo vb : Value) (out : List UInt8) (n : Nat) (bl : List Value) : Prop where
  blk : W.heap[g]? = some (.cells #[.int .i64 N, vo, .int .i64 col, .bool fr, .int .i64 held, .bool sm, .bool em, vb] 63 (0, 0))
  out : Br B W vo out
  row : W.ownsRow B 98 3 vb n bl
  gB : B ≤ g
  hB : B ≤ W.heap.size
  bel : Below B W0 W
section
variable {B g n : Nat} {W0 W : World} {N col held : Int} {fr sm em : Bool} {vo vb : Value} {out : List UInt8} {bl : List Value}
theorem RP.of (h : RP B W0 W g N col held fr sm em vo vb out n bl) {W' : World} {col' held' : Int} {fr' sm' em' : Bool} (hk : Kp (fun k => k = g) W W') (hb : W'.heap[g]? = some (.cells #[.int .i64 N, vo, .int .i64 col', .bool fr', .int .i64 held', .bool sm', .bool em', vb] 63 (0, 0))) : RP B W0 W' g N col' held' fr' sm' em' vo vb out n bl :=
  ⟨hb, row_kp h.out hk h.blk (by decide), row_kp h.row hk h.blk (by decide), h.gB, Nat.le_trans h.hB hk.size, h.bel.trans (kp_below hk h.gB h.hB)⟩
theorem RP.set2 (h : RP B W0 W g N col held fr sm em vo vb out n bl) (x : Int) : RP B W0 (W.setCell ⟨g, 2, none⟩ (.int .i64 x)) g N x held fr sm em vo vb out n bl := h.of (Kp.set _ _ _ _) (blk_set h.blk 2 _)
theorem RP.set3 (h : RP B W0 W g N col held fr sm em vo vb out n bl) (x : Bool) : RP B W0 (W.setCell ⟨g, 3, none⟩ (.bool x)) g N col held x sm em vo vb out n bl := h.of (Kp.set _ _ _ _) (blk_set h.blk 3 _)
theorem RP.set4 (h : RP B W0 W g N col held fr sm em vo vb out n bl) (x : Int) : RP B W0 (W.setCell ⟨g, 4, none⟩ (.int .i64 x)) g N col x fr sm em vo vb out n bl := h.of (Kp.set _ _ _ _) (blk_set h.blk 4 _)
theorem RP.set5 (h : RP B W0 W g N col held fr sm em vo vb out n bl) (x : Bool) : RP B W0 (W.setCell ⟨g, 5, none⟩ (.bool x)) g N col held fr x em vo vb out n bl := h.of (Kp.set _ _ _ _) (blk_set h.blk 5 _)
theorem RP.set6 (h : RP B W0 W g N col held fr sm em vo vb out n bl) (x : Bool) : RP B W0 (W.setCell ⟨g, 6, none⟩ (.bool x)) g N col held fr sm x vo vb out n bl := h.of (Kp.set _ _ _ _) (blk_set h.blk 6 _)
theorem RP.below (h : RP B W0 W g N col held fr sm em vo vb out n bl) {W' : World} (hb : Below W.heap.size W W') : RP B W0 W' g N col held fr sm em vo vb out n bl :=
  ⟨blk_below h.blk hb, h.out.below hb, row_kept h.row hb, h.gB, Nat.le_trans h.hB hb.size, h.bel.trans (hb.mono h.hB)⟩
theorem RP.app (h : RP B W0 W g N col held fr sm em vo vb out n bl) {w1 : World} {v' : Value} {out' : List UInt8} (hr : Br B w1 v' out') (hb : Bw5 B W w1) : RP B W0 (w1.setCell ⟨g, 1, none⟩ v') g N col held fr sm em v' vb out' n bl ∧ w1.cell? ⟨g, 1, none⟩ = some vo ∧ w1.frozen? ⟨g, 1, none⟩ = false := by
  have b1 := hb.blk h.blk (by decide)
  have r1 := row_bw5 h.row hb (by decide)
  have hk := Kp.set w1 g 1 v'
  have hs : B ≤ w1.heap.size := Nat.le_trans h.hB hb.bel.size
  exact ⟨⟨blk_set b1 1 v', row_kp hr hk b1 (by decide), row_kp r1 hk b1 (by decide), h.gB, Nat.le_trans hs hk.size, (h.bel.trans hb.bel).trans (kp_below hk h.gB hs)⟩, blk_cell b1 rfl, blk_frozen b1⟩
theorem RP.cells (h : RP B W0 W g N col held fr sm em vo vb out n bl) : W.cell? ⟨g, 0, none⟩ = some (.int .i64 N) ∧ W.cell? ⟨g, 1, none⟩ = some vo ∧ W.cell? ⟨g, 2, none⟩ = some (.int .i64 col) ∧ W.cell? ⟨g, 3, none⟩ = some (.bool fr) ∧ W.cell? ⟨g, 4, none⟩ = some (.int .i64 held) ∧ W.cell? ⟨g, 5, none⟩ = some (.bool sm) ∧ W.cell? ⟨g, 6, none⟩ = some (.bool em) ∧ W.cell? ⟨g, 7, none⟩ = some vb :=
  ⟨blk_cell h.blk rfl, blk_cell h.blk rfl, blk_cell h.blk rfl, blk_cell h.blk rfl, blk_cell h.blk rfl, blk_cell h.blk rfl, blk_cell h.blk rfl, blk_cell h.blk rfl⟩
theorem RP.fz (h : RP B W0 W g N col held fr sm em vo vb out n bl) (j : Nat) : W.frozen? ⟨g, j, none⟩ = false := blk_frozen h.blk
end
theorem PG.rp {B : Nat} {W : World} {g N : Nat} {p : Pr} {vo vb : Value} {sm em : Bool} (h : PG B W g N p vo vb sm em) (hB : B ≤ W.heap.size) : RP B W W g N (p.at : Nat) (hld p : Nat) p.sk.fresh sm em vo vb p.sk.out (p.ar.length + 1) (Go.Proofs.YtcokccfbeonlnaaDoor.pbs (p.ar.reverse ++ [p.bl])) :=
  ⟨h.blk, h.out, h.pbs, h.gB, hB, Below.refl _ _⟩
/-- The column behind a text. -/
def lcol (t : ByteArray) (c : Int) : Int := if lf t < 0 then c else 0

set_option maxHeartbeats 2000000 in
set_option maxRecDepth 100000 in
theorem ptx_any {B g N : Nat} {W : World} {p : Pr} (h : Pg B W g N p) (hB : B ≤ W.heap.size) (t : ByteArray) (ht0 : 0 < t.size) (hl : p.at ≤ 1000000000) (ho : p.sk.out.length + hld p + t.size ≤ 1000000000) :
    Calls Tryd.prog 50 #[.pointer (some ⟨g, 0, none⟩), .string t] W fun e w' => e = .returned (.tuple #[]) ∧ Pg B w' g N { p with sk := p.sk.text t, en := false } ∧ Below B W w' := by
  obtain ⟨vo, vb, sm, em, h⟩ := h
  have hlf := lf_bd t
  have htb := tw_bd (aft t)
  have hsa := aft_size t
  have HFIN : Hid (∀ V v, RP B W V g N (lcol t (p.at : Nat) + tw (aft t)) 0 false true false v vb ((p.sk.out ++ rep (hld p)) ++ lsb t) (p.ar.length + 1) (pbs (p.ar.reverse ++ [p.bl])) → Pg B V g N { p with sk := p.sk.text t, en := false } ∧ Below B W V) := by
    intro V v hv
    have hst : p.sk.text t = ⟨false, (ncol p.sk.col p.sk.wait t).toNat, 0, p.sk.out ++ ((if p.sk.fresh then rep p.sk.col else []) ++ (rep p.sk.wait ++ lsb t))⟩ := by
      unfold St6.text; rw [if_neg (by omega)]; rfl
    have hoo : (p.sk.out ++ rep (hld p)) ++ lsb t = (p.sk.text t).out := by
      rw [hst]
      unfold hld
      cases hf : p.sk.fresh
      · simp
      · simp [h.wt hf, rep]
    have hnc : (((p.sk.text t).col : Nat) : Int) = lcol t (p.at : Nat) + tw (aft t) := by
      rw [hst]
      show (((ncol p.sk.col p.sk.wait t).toNat : Nat) : Int) = _
      have h1 := tw_bd t
      unfold ncol lcol Pr.at
      by_cases hlt : lf t < 0
      · rw [if_pos hlt, if_pos hlt]
        have : aft t = t := by
          unfold aft
          rw [show (lf t + 1).toNat = 0 by omega]
          apply ls_inj
          have e : (t.extract 0 t.size).data = t.data.extract 0 t.size := ByteArray.data_extract
          show (t.extract 0 t.size).data.toList = t.data.toList
          rw [e]
          show (t.data.extract 0 t.data.size).toList = t.data.toList
          rw [Array.extract_size]
        rw [this]; omega
      · rw [if_neg hlt, if_neg hlt]; omega
    refine ⟨⟨v, vb, true, false, ?_, ?_, hv.row, ?_, fun _ => rfl, ?_, h.gB⟩, hv.bel⟩
    · have e1 : ((({ p with sk := p.sk.text t, en := false } : Pr).at : Nat) : Int) = lcol t (p.at : Nat) + tw (aft t) := by
        rw [← hnc]; unfold Pr.at
        show (((p.sk.text t).col + (p.sk.text t).wait : Nat) : Int) = _
        rw [hst]; simp
      have e2 : hld ({ p with sk := p.sk.text t, en := false } : Pr) = 0 := by
        unfold hld
        show (if (p.sk.text t).fresh then (p.sk.text t).col else (p.sk.text t).wait) = 0
        rw [hst]; rfl
      have e3 : (({ p with sk := p.sk.text t, en := false } : Pr).sk.fresh) = false := by show (p.sk.text t).fresh = false; rw [hst]
      rw [e1, e2, e3]
      exact hv.blk
    · show Br B V v (p.sk.text t).out
      rw [← hoo]; exact hv.out
    · show false = ((p.sk.text t).fresh && true && !false)
      rw [hst]; rfl
    · intro h2
      have : (p.sk.text t).fresh = true := h2
      rw [hst] at this; cases this
  have HR : Hid (RP B W W g N (p.at : Nat) (hld p : Nat) p.sk.fresh sm em vo vb p.sk.out (p.ar.length + 1) (pbs (p.ar.reverse ++ [p.bl]))) := h.rp hB
  clear h
  generalize p.at = a at *
  generalize hld p = H at *
  generalize p.sk.out = O at *
  generalize p.sk.fresh = fr at *
  generalize p.ar.length + 1 = L at *
  generalize pbs (p.ar.reverse ++ [p.bl]) = bl at *
  go_enter Tryd.func50, Tryd.ntmps50
  go_wp2_with fail
  go_loopw [4] (fun i wr => ∃ (k : Nat) (v : Value), k ≤ H ∧ i = .int .i64 k ∧ Hid (RP B W wr g N (a : Nat) (H : Nat) fr sm em v vb (O ++ rep k) L bl)) (fun i _ => H - (intOf i).toNat)
  case atStart => exact ⟨0, vo, Nat.zero_le _, rfl, by show RP _ _ _ _ _ _ _ _ _ _ _ _ _ _ _; simpa [rep] using HR.out⟩
  case round =>
    obtain ⟨k, v, hk, rfl, HI⟩ := hrel
    obtain ⟨c0, c1, c2, c3, c4, c5, c6, c7⟩ := HI.out.cells
    have fz := HI.out.fz
    have f4 := fz 4
    have hol : (O ++ rep k).length = O.length + k := by simp [rep]
    obtain ⟨Z, hZ⟩ : ∃ Z, O ++ rep k = Z := ⟨_, rfl⟩
    rw [hZ] at HI hol
    have hZl : Z.length + t.size ≤ 1000000000 := by omega
    have HZ : Hid (O ++ rep k = Z) := hZ
    clear hol hZ
    obtain ⟨pv, cv, ev, _, _⟩ := HI.out.out.shape
    subst ev
    by_cases hlt : k < H
    · have q1 : (k : Int) < H := by omega
      have HA : Hid (∀ o, RP B W (wr.alloc o) g N (a : Nat) (H : Nat) fr sm em (.slice pv Z.length cv) vb Z L bl) := fun o => HI.out.below ((Below.refl _ _).alloc (Nat.le_refl _) _)
      have HS : Hid (O ++ rep (k + 1) = Z ++ [32]) := by show _ = _; rw [← HZ.out]; simp [rep, List.replicate_succ']
      clear HI fz
      go_wp2_with (first | (at_builtin; refine app_bytes rfl _ _ rfl B _ Z [32] rfl (HA.out _).out wr.heap.size 1 1 rfl rfl (new_at _ _) (by simp; omega) (HA.out _).hB ?_; intro v' w1 hr1 hb1; obtain ⟨HP, y1, fy1⟩ := (HA.out _).app hr1 hb1; obtain ⟨pv', cv', ev', _, _⟩ := hr1.shape; simp only [List.length_append, List.length_cons, List.length_nil, Nat.zero_add] at ev'; subst ev'; have HPP : Hid (RP B W (w1.setCell ⟨g, 1, none⟩ (.slice pv' (Z.length + 1) cv')) g N (a : Nat) (H : Nat) fr sm em (.slice pv' (Z.length + 1) cv') vb (Z ++ [32]) L bl) := HP; clear HP hr1 hb1))
      exact ⟨⟨k + 1, _, hlt, by go_num, by rw [HS.out]; exact HPP.out⟩, by simp [intOf]; omega⟩
    · obtain rfl : k = H := by omega
      have q1 : ¬ ((k : Int) < k) := by omega
      have HA : Hid (RP B W (wr.setCell ⟨g, 4, none⟩ (.int .i64 0)) g N (a : Nat) 0 fr sm em (.slice pv Z.length cv) vb Z L bl) := HI.out.set4 0
      obtain ⟨_, d1, _⟩ := HA.out.cells
      rw [HZ.out] at HFIN
      clear HI fz HZ
      go_wp2_with (first | (at_builtin; refine app_str rfl _ _ rfl B _ Z t rfl HA.out.out rfl (by omega) HA.out.hB ?_; intro v' w1 hr1 hb1; obtain ⟨HP, y1, fy1⟩ := HA.out.app hr1 hb1; obtain ⟨pv', cv', ev', _, _⟩ := hr1.shape; simp only [List.length_append, ls_len] at ev'; subst ev'; have HPP : Hid (RP B W (w1.setCell ⟨g, 1, none⟩ (.slice pv' (Z.length + t.size) cv')) g N (a : Nat) 0 fr sm em (.slice pv' (Z.length + t.size) cv') vb (Z ++ lsb t) L bl) := HP; clear HP hr1 hb1))
      go_loopw [5, 6] (fun f j wz => ∃ k : Nat, k ≤ t.size ∧ f = .int .i64 (lastIdx t 10 k) ∧ j = .int .i64 k ∧ Hid (RP B W wz g N (a : Nat) 0 fr sm em (.slice pv' (Z.length + t.size) cv') vb (Z ++ lsb t) L bl)) (fun _ j _ => t.size - (intOf j).toNat)
      case atStart => exact ⟨0, Nat.zero_le _, rfl, rfl, HPP.out⟩
      case round =>
        obtain ⟨m, hm, rfl, rfl, HI⟩ := hrel
        by_cases hlt2 : m < t.size
        · have q2 : (m : Int) < t.size := by omega
          have q3 : (0 : Int) ≤ m := by omega
          have hba := byte_at t m hlt2
          by_cases h10 : ((t[m]'hlt2).toNat : Int) = 10
          · have h5 : (((t[m]'hlt2).toNat : Int) == 10) = true := by rw [h10]; rfl
            have HS : Hid (lastIdx t 10 (m + 1) = m) := lastIdx_hit t 10 m (by rw [hba]; exact h10)
            clear hba h10
            go_wp2_with fail
            exact ⟨⟨m + 1, hlt2, by rw [HS.out], by go_num, HI.out⟩, by simp [intOf]; omega⟩
          · have h5 : (((t[m]'hlt2).toNat : Int) == 10) = false := by simp; omega
            have HS : Hid (lastIdx t 10 (m + 1) = lastIdx t 10 m) := lastIdx_miss t 10 m (by rw [hba]; exact h10)
            clear hba h10
            go_wp2_with fail
            exact ⟨⟨m + 1, hlt2, by rw [HS.out], by go_num, HI.out⟩, by simp [intOf]; omega⟩
        · obtain rfl : m = t.size := by omega
          have q2 : ¬ ((t.size : Int) < t.size) := by omega
          obtain ⟨M, hM⟩ : ∃ M : Nat, lf t + 1 = M := ⟨(lf t + 1).toNat, by omega⟩
          have e9 : lastIdx t 10 t.size = (M : Int) - 1 := by show lf t = _; omega
          rw [e9]
          obtain ⟨y, hy⟩ : ∃ y, tw (aft t) = y := ⟨_, rfl⟩
          have HAF : Hid (aft t = t.extract M t.size ∧ tw (aft t) = y) := ⟨by unfold aft; rw [hM]; rfl, hy⟩
          have j1 : (M : Int) ≤ t.size := by omega
          have j2 : M ≤ t.size := by omega
          have hyb : 0 ≤ y ∧ y ≤ 2147483648 := by rw [← hy]; omega
          have w1 : IntKind.i64.wrap ((M : Int) - 1 + 1) = M := by rw [IntKind.wrap_i64]; omega
          have w2 : IntKind.i64.wrap (M : Int) = M := by rw [IntKind.wrap_i64]; omega
          have j0 : (0 : Int) ≤ M := by omega
          have j3 : (M : Int) - 1 + 1 = M := by omega
          have j4 : ((t.size : Nat) : Int) ≤ 9223372036854775807 := by omega
          have j5 : ¬ (t.size : Int) < M := by omega
          have j6 : ¬ (M : Int) < 0 := by omega
          have j7 : ¬ t.size < M := by omega
          by_cases hM0 : M = 0
          · have q5 : ¬ ((0 : Int) ≤ (M : Int) - 1) := by omega
            have hlc : lcol t (a : Nat) = (a : Nat) := by unfold lcol; rw [if_pos (by omega)]
            rw [hlc, hy] at HFIN
            clear hlc hy e9 hM hlf hM0
            go_wp2_with fail
            obtain ⟨V, hV⟩ : ∃ V, wr = V := ⟨_, rfl⟩
            have HV : Hid (RP B W V g N ((a : Nat) : Int) 0 fr sm em (.slice pv' (Z.length + t.size) cv') vb (Z ++ lsb t) L bl) := by show RP _ _ _ _ _ _ _ _ _ _ _ _ _ _ _; rw [← hV]; exact HI.out
            rw [hV]
            clear hV HI
            have x2 : V.cell? ⟨g, 2, none⟩ = some (.int .i64 ((a : Nat) : Int)) := HV.out.cells.2.2.1
            have u2 := HV.out.fz 2
            have HC : Hid (∀ V', Below V.heap.size V V' → Calls Tryd.prog 73 #[.string (t.extract M t.size)] V' fun e w5 => e = .returned (.int .i64 y) ∧ Hid (RP B W w5 g N ((a : Nat) : Int) 0 fr sm em (.slice pv' (Z.length + t.size) cv') vb (Z ++ lsb t) L bl) ∧ w5.cell? ⟨g, 2, none⟩ = some (.int .i64 ((a : Nat) : Int)) ∧ w5.frozen? ⟨g, 2, none⟩ = false) := fun V' hV' => by
              rw [← HAF.out.1, ← HAF.out.2]
              refine (rtext_any (aft t) V' (by omega)).mono ?_
              rintro e w5 ⟨rfl, hb⟩
              have h5 := HV.out.below (hV'.trans (hb.mono hV'.size))
              exact ⟨rfl, h5, h5.cells.2.2.1, h5.fz 2⟩
            go_region_with (go_at_call 73; refine (HC.out _ (by first | exact (Below.refl _ _).drew | exact Below.refl _ _ | exact (Below.refl _ _).drew.drew)).mono ?_; rintro e w5 ⟨rfl, HR5, k1, k2⟩)
            all_goals
              have hE := HFIN.out _ _ ((((HR5.out.set2 (((a : Nat) : Int) + y)).set3 false).set5 true).set6 false)
              have x3 := (HR5.out.set2 (((a : Nat) : Int) + y)).cells.2.2.2.1
              have x5 := ((HR5.out.set2 (((a : Nat) : Int) + y)).set3 false).cells.2.2.2.2.2.1
              have x6 := (((HR5.out.set2 (((a : Nat) : Int) + y)).set3 false).set5 true).cells.2.2.2.2.2.2.1
              have fz := HR5.out.fz
              have f3 := fz 3
              have f5 := fz 5
              have f6 := fz 6
              have HE : Hid (Pg B ((((w5.setCell ⟨g, 2, none⟩ (.int .i64 (((a : Nat) : Int) + y))).setCell ⟨g, 3, none⟩ (.bool false)).setCell ⟨g, 5, none⟩ (.bool true)).setCell ⟨g, 6, none⟩ (.bool false)) g N { p with sk := p.sk.text t, en := false } ∧ Below B W ((((w5.setCell ⟨g, 2, none⟩ (.int .i64 (((a : Nat) : Int) + y))).setCell ⟨g, 3, none⟩ (.bool false)).setCell ⟨g, 5, none⟩ (.bool true)).setCell ⟨g, 6, none⟩ (.bool false))) := hE
              clear hE fz HR5 HFIN HC
              go_wp2_with fail
              go_end0
              exact ⟨rfl, HE.out⟩
          · have q5 : (0 : Int) ≤ (M : Int) - 1 := by omega
            have hlc : lcol t (a : Nat) = 0 := by unfold lcol; rw [if_neg (by omega)]
            rw [hlc, hy] at HFIN
            have g2 := HI.out.cells.2.2.1
            have v2 := HI.out.fz 2
            clear hlc hy e9 hM hlf hM0
            go_wp2_with fail
            obtain ⟨V, hV⟩ : ∃ V, wr.setCell ⟨g, 2, none⟩ (.int .i64 0) = V := ⟨_, rfl⟩
            have HV : Hid (RP B W V g N 0 0 fr sm em (.slice pv' (Z.length + t.size) cv') vb (Z ++ lsb t) L bl) := by show RP _ _ _ _ _ _ _ _ _ _ _ _ _ _ _; rw [← hV]; exact HI.out.set2 0
            rw [hV]
            clear hV HI
            have x2 : V.cell? ⟨g, 2, none⟩ = some (.int .i64 0) := HV.out.cells.2.2.1
            have u2 := HV.out.fz 2
            have HC : Hid (∀ V', Below V.heap.size V V' → Calls Tryd.prog 73 #[.string (t.extract M t.size)] V' fun e w5 => e = .returned (.int .i64 y) ∧ Hid (RP B W w5 g N 0 0 fr sm em (.slice pv' (Z.length + t.size) cv') vb (Z ++ lsb t) L bl) ∧ w5.cell? ⟨g, 2, none⟩ = some (.int .i64 0) ∧ w5.frozen? ⟨g, 2, none⟩ = false) := fun V' hV' => by
              rw [← HAF.out.1, ← HAF.out.2]
              refine (rtext_any (aft t) V' (by omega)).mono ?_
              rintro e w5 ⟨rfl, hb⟩
              have h5 := HV.out.below (hV'.trans (hb.mono hV'.size))
              exact ⟨rfl, h5, h5.cells.2.2.1, h5.fz 2⟩
            go_region_with (go_at_call 73; refine (HC.out _ (by first | exact (Below.refl _ _).drew | exact Below.refl _ _ | exact (Below.refl _ _).drew.drew)).mono ?_; rintro e w5 ⟨rfl, HR5, k1, k2⟩)
            all_goals
              have hE := HFIN.out _ _ ((((HR5.out.set2 (0 + y)).set3 false).set5 true).set6 false)
              have x3 := (HR5.out.set2 (0 + y)).cells.2.2.2.1
              have x5 := ((HR5.out.set2 (0 + y)).set3 false).cells.2.2.2.2.2.1
              have x6 := (((HR5.out.set2 (0 + y)).set3 false).set5 true).cells.2.2.2.2.2.2.1
              have fz := HR5.out.fz
              have f3 := fz 3
              have f5 := fz 5
              have f6 := fz 6
              have HE : Hid (Pg B ((((w5.setCell ⟨g, 2, none⟩ (.int .i64 (0 + y))).setCell ⟨g, 3, none⟩ (.bool false)).setCell ⟨g, 5, none⟩ (.bool true)).setCell ⟨g, 6, none⟩ (.bool false)) g N { p with sk := p.sk.text t, en := false } ∧ Below B W ((((w5.setCell ⟨g, 2, none⟩ (.int .i64 (0 + y))).setCell ⟨g, 3, none⟩ (.bool false)).setCell ⟨g, 5, none⟩ (.bool true)).setCell ⟨g, 6, none⟩ (.bool false))) := hE
              clear hE fz HR5 HFIN HC
              simp only [Int.zero_add] at *
              go_wp2_with fail
              go_end0
              exact ⟨rfl, HE.out⟩
end Go.Proofs.YtcokccfbeonlnaaDoor
