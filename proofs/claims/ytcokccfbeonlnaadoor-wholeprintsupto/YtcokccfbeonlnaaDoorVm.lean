import Derived.Test.YtcokccfbeonlnaaDoorVl
import Derived.Test.YtcokccfbeonlnaaDoorVd
import Derived.Test.YtcokccfbeonlnaaDoorGa9
import Derived.Test.YtcokccfbeonlnaaDoorGa5
import Derived.Deep.RegionHeld3
set_option linter.unusedVariables false
set_option linter.unusedSimpArgs false
namespace Go.Proofs.YtcokccfbeonlnaaDoor
open Go.RowKit

theorem rt_sz {d : Dc} (hd : rt d = true) : d.t.size ≤ 65535 := by
  cases rt_of hd with
  | text t hq => exact (rtT_len hq).2
  | brk m hq => exact Nat.zero_le _
  | beg m e hq => exact Nat.zero_le _
  | blank => exact Nat.zero_le _
  | hard => exact Nat.zero_le _
  | empty => exact Nat.zero_le _
  | «end» => exact Nat.zero_le _
theorem fwd_ud {d : Dc} (hd : rt d = true) : fwd d ≤ ud d := by
  unfold fwd
  split
  · exact Nat.zero_le _
  · rename_i hf
    cases rt_of hd with
    | text t hq =>
      have h1 : ¬ hasF t = true := by
        intro h
        apply hf
        simp [isF, h]
      have h2 := (tw_bd t).2
      simp [pw, h1, ud]; omega
    | brk m hq => have := rtN_of hq; simp [pw, ud, bE]; omega
    | beg m e hq => simp [pw, ud, bE]
    | blank => simp [pw, ud, bE]
    | hard => simp [isF] at hf
    | empty => simp [isF] at hf
    | «end» => simp [pw, ud, bE]
theorem Sf_uds {l : List Dc} (hr : ∀ d ∈ l, rt d = true) (j : Nat) : Sf l j ≤ uds l := by
  have h1 : ∀ l : List Dc, (∀ d ∈ l, rt d = true) → (l.map fwd).sum ≤ uds l := by
    intro l
    induction l with
    | nil => intro _; simp [uds]
    | cons d r ih =>
      intro h
      have a := ih (fun x hx => h x (List.mem_cons_of_mem _ hx))
      have b := fwd_ud (h d List.mem_cons_self)
      have e : uds (d :: r) = ud d + uds r := by simp [uds]
      rw [e, List.map_cons, List.sum_cons]; omega
  have h2 := h1 (l.take j) (fun d hd => hr d (List.mem_of_mem_take hd))
  have h3 := uds_take l j
  unfold Sf; omega
theorem prn_any {B g N U : Nat} {W : World} {p : Pr} (h : Pg B W g N p) (hB : B ≤ W.heap.size) (hN : N ≤ 4096) (hp : Bp p U) (hU : U ≤ 268435456) (ha : p.ar.length ≤ 100000000) (d : Dc) (hd : rt d = true) (h7 : d.k = 7 → p.ar ≠ []) (wide : Int) (need : Nat)
    (hw : d.k = 3 ∨ d.k = 6 → ∃ m : Nat, wide = (m : Int) ∧ m ≤ 1099511627776 ∧ need = min m 4097) :
    Calls Tryd.prog 28 #[.pointer (some ⟨g, 0, none⟩), .agg #[.int .u8 d.k, .string d.t, .int .i64 d.b, .int .i64 d.i, .bool d.e], .int .i64 wide] W fun e w' => e = .returned (.tuple #[]) ∧ Pg B w' g N (put N d need p) ∧ Below B W w' := by
  have h1 := hp.out
  have h2 := hp.col
  have hl : p.at ≤ 1000000000 := by unfold Pr.at; omega
  have ho : p.sk.out.length ≤ 1000000000 := by omega
  have hh : p.sk.out.length + hld p ≤ 268435456 := by
    unfold hld
    cases hf : p.sk.fresh
    · rw [hf] at h1; simp at h1 ⊢; omega
    · rw [hf] at h1; simp at h1 ⊢; omega
  have hs := rt_sz hd
  cases rt_of hd with
  | text t hq =>
    have := (rtT_len hq).1
    simp only at hs
    exact prn_text h hB t (by omega) hl (by omega) wide need
  | brk m hq =>
    obtain ⟨q1, q2⟩ := rtN_of hq
    obtain ⟨k, rfl⟩ := Int.eq_ofNat_of_zero_le q1
    obtain ⟨x, rfl, hx1, hx2⟩ := hw (.inl rfl)
    exact prn_brk h hB hN hl ho ha hp.ind k (by omega) x need hx1 hx2
  | beg m e hq =>
    obtain ⟨q1, q2⟩ := rtN_of hq
    obtain ⟨k, rfl⟩ := Int.eq_ofNat_of_zero_le q1
    obtain ⟨x, rfl, hx1, hx2⟩ := hw (.inr rfl)
    exact prn_beg h hB hN hl ha hp.ind k (by omega) e x need hx1 hx2
  | blank => exact prn_blank h hB hl wide need
  | hard => exact prn_hard h hB hl ho ha hp.ind wide need
  | empty => exact prn_empty h hB ho wide need
  | «end» =>
    cases har : p.ar with
    | nil => exact absurd har (h7 rfl)
    | cons b r => exact prn_end h hB b r har ha wide need
theorem Pg.out {B g N : Nat} {W : World} {p : Pr} (h : Pg B W g N p) : ∃ vo, W.cell? ⟨g, 1, none⟩ = some vo ∧ Br B W vo p.sk.out := by
  obtain ⟨vo, vb, sm, em, h⟩ := h
  exact ⟨vo, h.cells.2.1, h.out⟩
theorem row_int {B n k : Nat} {W : World} {pw : Option Addr} {cw : Nat} {xs : List Int} {x : Int} (hr : W.ownsRow B 3 1 (.slice pw n cw) n (ic xs)) (hn : xs.length = n) (hk : xs[k]? = some x) : ∃ q, pw = some ⟨q, 0, none⟩ ∧ W.cell? ⟨q, k, none⟩ = some (.int .i64 x) := by
  have hlt := (List.getElem?_eq_some_iff.1 hk).1
  have hr0 := hr
  rcases hr.2 with ⟨_, h1⟩ | ⟨q, c, cur, e, _⟩
  · omega
  · simp only [Value.slice.injEq] at e
    obtain ⟨rfl, _, rfl⟩ := e
    refine ⟨q, rfl, ?_⟩
    rw [World.ownsRow.cellAt hr0 k (by omega), ic_at hk]
theorem Pg.lt {B g N : Nat} {W : World} {p : Pr} (h : Pg B W g N p) : g < W.heap.size := by
  obtain ⟨vo, vb, sm, em, h⟩ := h
  exact blk_lt h.blk
set_option maxHeartbeats 4000000 in
set_option maxRecDepth 100000 in
theorem rprint_ok (n : Nat) (hn1 : 1 ≤ n) (hn2 : n ≤ 4096) (ao : Option Addr) (l : List Dc) (cap : Nat) (w : World) (hL : Lay w ao l) (hlen : l.length ≤ 1000000) (hU : uds l ≤ 268435456) (hf : frm 0 0 l = none) :
    Calls Tryd.prog 11 #[.int .i64 n, .slice ao l.length cap] w fun e w' => e = .returned (.tuple #[.string ⟨(wout n l).toArray⟩, .int .i64 0]) ∧ Below w.heap.size w w' := by
  have hrt := frm_rt l 0 0 hf
  have q0 : ¬ ((n : Int) < 1) := by omega
  have q1 : ¬ ((4096 : Int) < n) := by omega
  have HM : Hid (Calls Tryd.prog 25 #[.slice ao l.length cap] w fun e w' => e = .returned (.int .i64 (-1)) ∧ Below w.heap.size w w') := by
    have := rform_any ao l cap w hL (by omega)
    rw [hf] at this
    exact this
  have HN : Hid (∀ W, Below w.heap.size w W → Calls Tryd.prog 26 #[.slice ao l.length cap] W fun e w' => WR W l e w') := fun W hW => widths_any ao l cap W (hL.below hW) hf hlen (fun j => by have := Sf_uds hrt j; omega) (fun d hd => by have := rt_sz (hrt d hd); omega)
  have HS : Hid (∀ W, Calls Tryd.prog 27 #[.int .i64 (n : Int)] W fun e w' => e = .returned (.pointer (some ⟨W.heap.size + 1, 0, none⟩)) ∧ Pg W.heap.size w' (W.heap.size + 1) n pr0 ∧ Below W.heap.size W w') := fun W => pnew_any n W
  have HL : Hid (Lay w ao l) := hL
  clear hL
  go_enter Tryd.func11, Tryd.ntmps11
  go_wp2_with (first | (go_at_call 25; refine HM.out.mono ?_; rintro e w1 ⟨rfl, hb1⟩; have HB1 : Hid (Below w.heap.size w w1) := hb1; clear hb1) | (go_at_call 26; refine (HN.out w1 HB1.out).mono ?_; rintro e w2 ⟨vw, ow, rfl, hwr, hb2⟩; obtain ⟨pw, cw, rfl, hcw1, hcw2⟩ := row_shape (row_zero hwr.1); have hol := hwr.2.len; rw [hol] at hwr hcw1 ⊢; have HWR : Hid ((w2.ownsRow w1.heap.size 3 1 (.slice pw l.length cw) l.length (ic ow) ∧ OutP l l.length [] [] ow)) := hwr; have HB2 : Hid (Below w.heap.size w w2) := (HB1.out.trans (hb2.mono HB1.out.size)); clear hb2 hwr) | (go_at_call 27; refine (HS.out _).mono ?_; rintro e w3 ⟨rfl, hpg, hb3⟩; have HP0 : Hid (Pg w2.heap.size w3 (w2.heap.size + 1) n pr0 ∧ Below w2.heap.size w2 w3) := ⟨hpg, hb3⟩; clear hpg hb3))
  obtain ⟨B, hBe⟩ : ∃ B, w2.heap.size = B := ⟨_, rfl⟩
  have hg1 : (w2.heap.size + 1 : Nat) = B + 1 := by rw [hBe]
  rw [hBe] at HP0 ⊢
  obtain ⟨g, hg⟩ : ∃ g, B + 1 = g := ⟨_, rfl⟩
  rw [hg] at HP0 ⊢
  clear hg1 hg
  go_loopw [8] (fun i wr => ∃ (k : Nat), k ≤ l.length ∧ i = .int .i64 k ∧ Hid (Pg B wr g n (pst n l k) ∧ Below B w2 wr)) (fun i _ => l.length - (intOf i).toNat)
  case atStart => exact ⟨0, Nat.zero_le _, rfl, HP0.out⟩
  case round =>
    obtain ⟨k, hk, rfl, HI⟩ := hrel
    by_cases hlt : k < l.length
    · have q2 : (k : Int) < l.length := by omega
      have q3 : (0 : Int) ≤ k := by omega
      obtain ⟨d, hd⟩ : ∃ d, l[k]? = some d := ⟨_, List.getElem?_eq_getElem hlt⟩
      obtain ⟨hpg, hbl⟩ := HI.out
      have hbl2 : Below w2.heap.size w2 wr := by rw [hBe]; exact hbl
      have hBw : B ≤ wr.heap.size := by rw [← hBe]; exact hbl.size
      have hL2 : Lay w2 ao l := HL.out.below HB2.out
      obtain ⟨ht, b, off, rfl, a0, a1, a2, a3, a4⟩ := hL2 k d hd
      obtain ⟨m, hm, hm4, hpe⟩ := pst_succ (n := n) hd
      have hrd := hrt d (List.mem_of_getElem? hd)
      obtain ⟨o, ho0, ho1, ho2, _⟩ := pst_deep (n := n) hf k hk
      obtain ⟨wd, hwd⟩ : ∃ x, ow[k]? = some x := ⟨_, List.getElem?_eq_getElem (by rw [HWR.out.2.len]; exact hlt)⟩
      obtain ⟨qw, rfl, a5⟩ := row_int HWR.out.1 HWR.out.2.len hwd
      have hnd : d.k = 3 ∨ d.k = 6 → ∃ x : Nat, wd = (x : Int) ∧ x ≤ 1099511627776 ∧ m = min x 4097 := by
        intro h36
        rcases HWR.out.2.ok k d hd hlt h36 with h | h | ⟨x, x1, x2, x3⟩
        · cases h
        · cases h
        · rw [hwd] at x1
          injection x1 with x1
          refine ⟨x, x1, x2, ?_⟩
          rw [← x3]
          unfold Nd
          rw [List.getD_eq_getElem?_getD, hm]; rfl
      have hcell : ∀ V : World, Below w2.heap.size w2 V → (V.cell? ⟨b, off + k * 5, none⟩ = some (.int .u8 d.k) ∧ V.cell? ⟨b, off + k * 5 + 1, none⟩ = some (.string d.t) ∧ V.cell? ⟨b, off + k * 5 + 2, none⟩ = some (.int .i64 d.b) ∧ V.cell? ⟨b, off + k * 5 + 3, none⟩ = some (.int .i64 d.i) ∧ V.cell? ⟨b, off + k * 5 + 4, none⟩ = some (.bool d.e) ∧ V.cell? ⟨qw, k, none⟩ = some (.int .i64 wd)) := fun V hV =>
        ⟨(hV.cell (World.block_lt_of_cell? _ _ a0)).trans a0, (hV.cell (World.block_lt_of_cell? _ _ a1)).trans a1, (hV.cell (World.block_lt_of_cell? _ _ a2)).trans a2, (hV.cell (World.block_lt_of_cell? _ _ a3)).trans a3, (hV.cell (World.block_lt_of_cell? _ _ a4)).trans a4, (hV.cell (World.block_lt_of_cell? _ _ a5)).trans a5⟩
      have HPUT : Hid (∀ V, Below wr.heap.size wr V → Calls Tryd.prog 28 #[.pointer (some ⟨g, 0, none⟩), .agg #[.int .u8 d.k, .string d.t, .int .i64 d.b, .int .i64 d.i, .bool d.e], .int .i64 wd] V fun e w' => e = .returned (.tuple #[]) ∧ Hid (Pg B w' g n (pst n l (k + 1)) ∧ Below B w2 w') ∧ (w'.cell? ⟨b, off + k * 5, none⟩ = some (.int .u8 d.k) ∧ w'.cell? ⟨b, off + k * 5 + 1, none⟩ = some (.string d.t) ∧ w'.cell? ⟨b, off + k * 5 + 2, none⟩ = some (.int .i64 d.b) ∧ w'.cell? ⟨b, off + k * 5 + 3, none⟩ = some (.int .i64 d.i) ∧ w'.cell? ⟨b, off + k * 5 + 4, none⟩ = some (.bool d.e) ∧ w'.cell? ⟨qw, k, none⟩ = some (.int .i64 wd))) := by
        intro V hV
        have hbV : Below B w2 V := hbl.trans (hV.mono hBw)
        refine (prn_any (hpg.below hV) (Nat.le_trans hBw hV.size) hn2 (pst_bd hrt k) hU (by omega) d hrd (pst_seven hf hd) wd m hnd).mono ?_
        rintro e w' ⟨rfl, p1, p2⟩
        rw [← hpe] at p1
        have hbw : Below B w2 w' := hbV.trans p2
        exact ⟨rfl, ⟨p1, hbw⟩, hcell w' (by rw [hBe]; exact hbw)⟩
      have HC1 : Hid (wr.cell? ⟨b, off + k * 5, none⟩ = some (.int .u8 d.k) ∧ wr.cell? ⟨b, off + k * 5 + 1, none⟩ = some (.string d.t) ∧ wr.cell? ⟨b, off + k * 5 + 2, none⟩ = some (.int .i64 d.b) ∧ wr.cell? ⟨b, off + k * 5 + 3, none⟩ = some (.int .i64 d.i) ∧ wr.cell? ⟨b, off + k * 5 + 4, none⟩ = some (.bool d.e) ∧ wr.cell? ⟨qw, k, none⟩ = some (.int .i64 wd)) := hcell wr hbl2
      clear HI hpg hbl hbl2 hL2 hpe hrd ho0 ho1 ho2 hcell hd hm hwd hnd a0 a1 a2 a3 a4 a5 ht
      obtain ⟨dk, dt, db, di, de⟩ := d
      simp only at HPUT HC1
      go_wp2_with fail
      go_region_held3 (fun w' => w'.cell? ⟨b, off + k * 5, none⟩ = some (.int .u8 dk) ∧ w'.cell? ⟨b, off + k * 5 + 1, none⟩ = some (.string dt) ∧ w'.cell? ⟨b, off + k * 5 + 2, none⟩ = some (.int .i64 db) ∧ w'.cell? ⟨b, off + k * 5 + 3, none⟩ = some (.int .i64 di) ∧ w'.cell? ⟨b, off + k * 5 + 4, none⟩ = some (.bool de) ∧ w'.cell? ⟨qw, k, none⟩ = some (.int .i64 wd)) (first | assumption | (exact HC1.out) | go_keep) (first | (go_at_call 28; refine (HPUT.out _ (by first | exact (Below.refl _ _).drew | exact Below.refl _ _)).mono ?_; rintro e w4 ⟨rfl, HP4, HS4⟩))
      all_goals (
        go_wp2_with fail
        exact ⟨⟨k + 1, hlt, by go_num, HP4.out⟩, by simp [intOf]; omega⟩)
    · obtain rfl : k = l.length := by omega
      have q2 : ¬ ((l.length : Int) < l.length) := by omega
      obtain ⟨vo, c1, hbr⟩ := HI.out.1.out
      rw [pst_end] at hbr
      have hcv := conv_bytes wr B _ _ hbr
      have HB : Hid (Below w.heap.size w wr) := HB2.out.trans (HI.out.2.mono (by rw [← hBe]; exact HB2.out.size))
      clear HI hbr
      go_wp2_with fail
      go_ret2
      exact ⟨rfl, HB.out⟩

theorem rprint_any (n : Int) (ao : Option Addr) (l : List Dc) (cap : Nat) (w : World) (hL : Lay w ao l) (hlen : l.length ≤ 1000000) (hU : uds l ≤ 268435456) :
    Calls Tryd.prog 11 #[.int .i64 n, .slice ao l.length cap] w fun e w' => e = .returned (.tuple #[.string (wprn n l).1, .int .i64 (wprn n l).2]) ∧ Below w.heap.size w w' := by
  by_cases hn : n < 1 ∨ 4096 < n
  · have e : wprn n l = (⟨#[]⟩, 1) := if_pos hn
    rw [e]
    by_cases h0 : n < 1
    · have q : decide (n < 1) = true := by simp; omega
      clear hn hL
      go_enter Tryd.func11, Tryd.ntmps11
      go_wp2_with fail
      go_ret2
      exact ⟨rfl, Below.refl _ _⟩
    · have h1 : 4096 < n := by omega
      clear hn hL
      go_enter Tryd.func11, Tryd.ntmps11
      go_wp2_with fail
      go_ret2
      exact ⟨rfl, Below.refl _ _⟩
  · by_cases hf : frm 0 0 l = none
    · have e : wprn n l = (⟨(wout n.toNat l).toArray⟩, 0) := by unfold wprn; rw [if_neg hn, if_neg (by simp [hf])]
      rw [e]
      have := rprint_ok n.toNat (by omega) (by omega) ao l cap w hL hlen hU hf
      rw [show ((n.toNat : Nat) : Int) = n by omega] at this
      exact this
    · have e : wprn n l = (⟨#[]⟩, 70) := by unfold wprn; rw [if_neg hn, if_pos hf]
      rw [e]
      have h0 : ¬ n < 1 := by omega
      have h1 : ¬ 4096 < n := by omega
      have HM := rform_any ao l cap w hL (by omega)
      obtain ⟨j, hj⟩ : ∃ j, frm 0 0 l = some j := by
        cases h : frm 0 0 l with
        | none => exact absurd h hf
        | some j => exact ⟨j, rfl⟩
      rw [hj] at HM
      have HM2 : Calls Tryd.prog 25 #[.slice ao l.length cap] w fun e w' => e = .returned (.int .i64 (j : Int)) ∧ Below w.heap.size w w' := HM
      have hj0 : (0 : Int) ≤ (j : Int) := by omega
      clear hn hL HM
      go_enter Tryd.func11, Tryd.ntmps11
      go_wp2_with (go_at_call 25; refine HM2.mono ?_; rintro e w1 ⟨rfl, hb1⟩)
      go_ret2
      exact ⟨rfl, hb1⟩
end Go.Proofs.YtcokccfbeonlnaaDoor
