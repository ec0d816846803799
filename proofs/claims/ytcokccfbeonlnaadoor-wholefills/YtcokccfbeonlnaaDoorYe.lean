import Derived.Test.YtcokccfbeonlnaaDoorYd
import Derived.Test.YtcokccfbeonlnaaDoorGb1
import Derived.Laws.AppendOwnNone
set_option linter.unusedVariables false
set_option linter.unusedSimpArgs false
namespace Go.Proofs.YtcokccfbeonlnaaDoor
open Go.RowKit

def hgp (zs : List Wg) : Nat := (zs.headD ([], 0)).2
def smz (zs : List Wg) : Nat := tot zs - hgp zs
theorem tot_snoc (zs : List Wg) (y : Wg) : tot (zs ++ [y]) = tot zs + (y.2 + y.1.length) := by
  induction zs with
  | nil => simp [tot]
  | cons x r ih => simp only [List.cons_append, tot, ih]; omega
theorem hgp_le (zs : List Wg) : hgp zs ≤ tot zs := by
  cases zs with
  | nil => exact Nat.zero_le _
  | cons x r => simp only [hgp, tot, List.headD_cons]; omega
theorem hgp_snoc {zs : List Wg} (h : zs ≠ []) (y : Wg) : hgp (zs ++ [y]) = hgp zs := by
  cases zs with
  | nil => exact absurd rfl h
  | cons x r => rfl
theorem smz_snoc {zs : List Wg} (h : zs ≠ []) (y : Wg) : smz (zs ++ [y]) = smz zs + (y.2 + y.1.length) := by
  unfold smz
  rw [tot_snoc, hgp_snoc h]
  have := hgp_le zs
  omega
theorem smz_one (y : Wg) : smz [y] = y.1.length := by simp [smz, tot, hgp]
theorem rsp_snoc (zs : List Wg) (y : Wg) : rsp (zs ++ [y]) = rsp zs ++ [brk y.2, txt y.1] := by
  induction zs with
  | nil => rfl
  | cons x r ih => simp [rsp, ih]
theorem pcs_snoc {zs : List Wg} (h : zs ≠ []) (y : Wg) : pcs (zs ++ [y]) = pcs zs ++ [brk y.2] ++ [txt y.1] := by
  cases zs with
  | nil => exact absurd rfl h
  | cons x r => simp [pcs, rsp_snoc]
theorem rsp_bd {zs : List Wg} (h : Wgs zs) : (rsp zs).length ≤ 2 * zs.length ∧ uds (rsp zs) ≤ 2100 * zs.length ∧ ∀ d ∈ rsp zs, d.t.size ≤ 14 := by
  induction zs with
  | nil => exact ⟨Nat.zero_le _, Nat.zero_le _, fun d hd => by cases hd⟩
  | cons y r ih =>
    obtain ⟨i1, i2, i3⟩ := ih (fun z hz => h z (List.mem_cons_of_mem _ hz))
    obtain ⟨hw, hg⟩ := h y List.mem_cons_self
    have hl := hw.2.1
    have hz : (⟨y.1.toArray⟩ : ByteArray).size = y.1.length := by rw [← ls_len, ls_mk]
    have e : uds (rsp (y :: r)) = ud (brk y.2) + (ud (txt y.1) + uds (rsp r)) := by simp [uds, rsp]
    have e1 : ud (brk y.2) = 1001 := by simp [ud, brk]; rfl
    have e2 : ud (txt y.1) = 2 * y.1.length + 1001 := by simp [ud, txt]; rw [hz]
    refine ⟨by simp only [rsp, List.length_cons]; omega, by rw [e, e1, e2, List.length_cons]; omega, ?_⟩
    intro d hd
    simp only [rsp, List.mem_cons] at hd
    rcases hd with rfl | rfl | hd
    · exact Nat.zero_le _
    · show (⟨y.1.toArray⟩ : ByteArray).size ≤ 14; omega
    · exact i3 d hd
theorem pcs_bd {zs : List Wg} (h : Wgs zs) : (pcs zs).length ≤ 2 * zs.length ∧ uds (pcs zs) ≤ 2100 * zs.length ∧ ∀ d ∈ pcs zs, d.t.size ≤ 14 := by
  cases zs with
  | nil => exact ⟨Nat.zero_le _, Nat.zero_le _, fun d hd => by cases hd⟩
  | cons y r =>
    obtain ⟨i1, i2, i3⟩ := rsp_bd h
    have e : uds (rsp (y :: r)) = ud (brk y.2) + uds (pcs (y :: r)) := by simp [uds, rsp, pcs]
    exact ⟨by simp only [rsp, pcs, List.length_cons] at *; omega, by omega, fun d hd => i3 d (by simp only [rsp, pcs, List.mem_cons] at *; exact .inr hd)⟩
theorem Wgs.take {zs : List Wg} (h : Wgs zs) (k : Nat) : Wgs (zs.take k) := fun y hy => h y (List.mem_of_mem_take hy)
theorem smz_bd {zs : List Wg} (h : Wgs zs) : smz zs ≤ 17 * zs.length := by
  have : tot zs ≤ 17 * zs.length := by
    induction zs with
    | nil => exact Nat.zero_le _
    | cons y r ih =>
      have := ih (fun z hz => h z (List.mem_cons_of_mem _ hz))
      obtain ⟨hw, hg⟩ := h y List.mem_cons_self
      have := hw.2.1
      simp only [tot, List.length_cons]; omega
  unfold smz; omega
theorem blk8_bd {zs : List Wg} (h : Wgs zs) (ind : Nat) (e : Bool) : (blk8 ind e zs).length ≤ 2 * zs.length + 2 ∧ uds (blk8 ind e zs) ≤ 2100 * zs.length ∧ ∀ d ∈ blk8 ind e zs, d.t.size ≤ 14 := by
  obtain ⟨i1, i2, i3⟩ := pcs_bd h
  have e0 : uds (blk8 ind e zs) = ud ⟨6, bE, 0, ind, e⟩ + (uds (pcs zs) + (ud (dK 7) + 0)) := by simp [uds, blk8]
  have e1 : ud ⟨6, bE, 0, ind, e⟩ = 0 := by simp [ud]; rfl
  have e2 : ud (dK 7) = 0 := by simp [ud, dK]; rfl
  refine ⟨by simp only [blk8, List.length_cons, List.length_append, List.length_nil]; omega, by rw [e0, e1, e2]; omega, ?_⟩
  intro d hd
  simp only [blk8, List.mem_cons, List.mem_append, List.not_mem_nil, or_false] at hd
  rcases hd with rfl | hd | rfl
  · exact Nat.zero_le _
  · exact i3 d hd
  · exact Nat.zero_le _

theorem app_both {W : World} {ops : Array Oper} {rest : List Oper} {o : Oper} {a : Act} {Q : Exit → Act → World → Prop} (hgd : o.guard = none) (s x : Operand)
    (ho : o.op = .call { callee := .builtin .append, args := #[s, x], argTypes := #[23, 23] }) (B B' : Nat) (v vx : Value) (l ds : List Dc) (hs : a.eval s = v) (hr : Rp B W v l)
    (hx : a.eval x = vx) (hrx : Rp B' W vx ds) (hl : (l.length + ds.length) * 48 ≤ 140737488355328) (hB : B ≤ W.heap.size)
    (h : ∀ v' w', Rp B w' v' (l ++ ds) → Below B W w' → wpList Tryd.prog ops Q rest (a.put o.dst v') w') : wpList Tryd.prog ops Q (o :: rest) a W := by
  have hc := fun g (hg : vx.ownBlock = some g) => hrx.cells hg
  rcases hrx.2 with ⟨rfl, h0⟩ | ⟨g, cap, cur, rfl, _⟩
  · obtain rfl : ds = [] := List.eq_nil_of_length_eq_zero h0
    obtain ⟨i0, hi, hz0, hz1, hz2⟩ := info_parts Tryd.info26
    refine wpList_append_own_none (P := Tryd.prog) (w := W) hgd s x 23 ho B 26 i0 5 Tryd.underlying23 hi v _ _ hs hr hx ?_
    exact h v W (by rw [List.append_nil]; exact hr) (Below.refl _ _)
  · exact app_row hgd s x ho B v l ds hs hr ⟨g, 0, none⟩ ds.length cap hx rfl (hc g rfl) hl hB h
theorem rp_beg (W : World) (I : Nat) (B : Nat) (hB : B ≤ W.heap.size) : Rp B (W.alloc (.cells #[.int .u8 6, .string ⟨#[]⟩, .int .i64 0, .int .i64 (I : Int), .bool false] 26)) (.slice (some ⟨W.heap.size, 0, none⟩) 1 1) [⟨6, bE, 0, I, false⟩] :=
  World.ownsRow_lit W _ 1 hB (by unfold maxLen; omega) rfl
theorem rp_even {W : World} {B g n c I : Nat} {zs : List Wg} (hn : n = (blk8 I false zs).length) (h : Rp B W (.slice (some ⟨g, 0, none⟩) n c) (blk8 I false zs)) : Rp B (W.setCell ⟨g, 4, none⟩ (.bool true)) (.slice (some ⟨g, 0, none⟩) n c) (blk8 I true zs) := by
  subst hn
  have := (World.ownsRow.stored h 4 (.bool true)).1
  exact this

set_option maxHeartbeats 4000000 in
set_option maxRecDepth 100000 in
theorem fills_any (n inn : Int) (hn1 : -9223372036854775808 ≤ n) (hn2 : n ≤ 9223372036854775807) (hi1 : -9223372036854775808 ≤ inn) (hi2 : inn ≤ 9223372036854775807) (ao : Option Addr) (raw : List (Int × Int)) (cap : Nat) (w : World) (hL : LayW w ao raw) (hT : Tab w) (hlen : raw.length ≤ 9223372036854775807) :
    Calls Tryd.prog 7 #[.int .i64 n, .int .i64 inn, .slice ao raw.length cap] w fun e w' => e = .returned (.bool true) ∧ Below w.heap.size w w' := by
  have hp1 := pk_bd n (n := 40) (by omega)
  have hp2 := pk_bd inn (n := 12) (by omega)
  obtain ⟨n0, hn0⟩ : ∃ m : Nat, pk n 40 = m := ⟨(pk n 40).toNat, by omega⟩
  obtain ⟨I, hI⟩ : ∃ m : Nat, pk inn 12 = m := ⟨(pk inn 12).toNat, by omega⟩
  have K1 : Hid (∀ W, Calls Tryd.prog 15 #[.int .i64 n, .int .i64 40] W fun e w' => e = .returned (.int .i64 n0) ∧ W = w') := fun W => by rw [← hn0]; exact (pick_any n 40 W hn1 hn2 (by omega) (by omega)).mono fun e w' h => ⟨h.1, h.2.symm⟩
  have K2 : Hid (∀ W, Calls Tryd.prog 15 #[.int .i64 inn, .int .i64 12] W fun e w' => e = .returned (.int .i64 I) ∧ W = w') := fun W => by rw [← hI]; exact (pick_any inn 12 W hi1 hi2 (by omega) (by omega)).mono fun e w' h => ⟨h.1, h.2.symm⟩
  rw [hn0] at hp1
  rw [hI] at hp2
  obtain ⟨N, hN⟩ : ∃ N : Nat, N = 1 + n0 := ⟨_, rfl⟩
  have KW : Hid (Calls Tryd.prog 16 #[.slice ao raw.length cap] w fun e w' => ∃ v4 v5 zs, e = .returned (.tuple #[v4, v5]) ∧ (ZR w.heap.size w' v4 v5 zs ∧ Wgs zs ∧ zs.length ≤ 300) ∧ Below w.heap.size w w') := (words_any ao raw cap w hL hlen _ rfl).mono fun e w' ⟨v4, v5, h1, h2, h3⟩ => ⟨v4, v5, _, h1, ⟨h2, zsO_ok _ _, by rw [zsO_len]; omega⟩, h3⟩
  have HT : Hid (Tab w) := hT
  clear hL hT hn1 hn2 hi1 hi2 hn0 hI
  go_enter Tryd.func7, Tryd.ntmps7
  go_wp2_with (first | (go_at_call 15; first | (refine (K1.out _).mono ?_; rintro e w2 ⟨rfl, rfl⟩; clear K1) | (refine (K2.out _).mono ?_; rintro e w2 ⟨rfl, rfl⟩; clear K2)) | (go_at_call 16; refine KW.out.mono ?_; rintro e w1 ⟨v4, v5, zs, rfl, hZ, hb1⟩))
  obtain ⟨hz, hzw, hzl⟩ := hZ
  obtain ⟨p4, c4, rfl, _, _⟩ := row_shp hz.r4
  obtain ⟨p5, c5, rfl, _, _⟩ := row_shp hz.r5
  have HZ : Hid (ZR w.heap.size w1 (.slice p4 zs.length c4) (.slice p5 zs.length c5) zs ∧ Wgs zs) := ⟨hz, hzw⟩
  have HB1 : Hid (Below w.heap.size w w1) := hb1
  clear hz hzw hb1 KW
  go_loopw [9, 10, 11] (fun v sm i wr => ∃ k : Nat, k ≤ zs.length ∧ i = .int .i64 k ∧ sm = .int .i64 (smz (zs.take k)) ∧ Hid (Rp w1.heap.size wr v (pcs (zs.take k)) ∧ Below w1.heap.size w1 wr)) (fun _ _ i _ => zs.length - (intOf i).toNat)
  case atStart => exact ⟨0, Nat.zero_le _, rfl, rfl, rp_nil _ _, Below.refl _ _⟩
  case round =>
    obtain ⟨k, hk, rfl, rfl, HI⟩ := hrel
    obtain ⟨hrp, hbw⟩ := HI.out
    have hsb := smz_bd (HZ.out.2.take k)
    have hpb := (pcs_bd (HZ.out.2.take k)).1
    rw [List.length_take] at hsb hpb
    obtain ⟨p, cp, rfl, _, _⟩ := hrp.shape
    by_cases hlt : k < zs.length
    · have q1 : (k : Int) < zs.length := by omega
      have q0 : (0 : Int) ≤ k := by omega
      obtain ⟨y, hy⟩ : ∃ y, zs[k]? = some y := ⟨_, List.getElem?_eq_getElem hlt⟩
      obtain ⟨hw, hg⟩ := HZ.out.2 y (List.mem_of_getElem? hy)
      have htk : zs.take (k + 1) = zs.take k ++ [y] := by rw [List.take_add_one, hy]; rfl
      obtain ⟨b4, b5, d4, d5, e4, e5, c0, c1⟩ := zt_at HZ.out.1 hy
      simp only [Value.slice.injEq] at e4 e5
      obtain ⟨rfl, _, rfl⟩ := e4
      obtain ⟨rfl, _, rfl⟩ := e5
      have HC : Hid (∀ W, Below w1.heap.size w1 W → W.cell? ⟨b4, k, none⟩ = some (.string ⟨y.1.toArray⟩) ∧ W.cell? ⟨b5, k, none⟩ = some (.int .i64 (y.2 : Int))) := fun W hW => ⟨(hW.cell (World.block_lt_of_cell? _ _ c0)).trans c0, (hW.cell (World.block_lt_of_cell? _ _ c1)).trans c1⟩
      obtain ⟨t, ht⟩ : ∃ t : ByteArray, ⟨y.1.toArray⟩ = t := ⟨_, rfl⟩
      have hlt' : lsb t = y.1 := by rw [← ht]; exact ls_mk _
      have hts : t.size = y.1.length := by rw [← ls_len, hlt']
      have htl := hw.2.1
      have HTX : Hid (txt y.1 = ⟨1, t, 0, 0, false⟩) := by show _ = _; rw [← ht]; rfl
      rw [ht] at HC
      obtain ⟨g, hge⟩ : ∃ g, y.2 = g := ⟨_, rfl⟩
      have HBK : Hid (brk y.2 = ⟨3, bE, g, 0, false⟩) := by show _ = _; rw [← hge]; rfl
      rw [hge] at HC hg
      have htb : t.size ≤ 14 := by omega
      obtain ⟨sm, hsm⟩ : ∃ sm, smz (zs.take k) = sm := ⟨_, rfl⟩
      rw [hsm] at hsb ⊢
      obtain ⟨r, hr⟩ : ∃ r, pcs (zs.take k) = r := ⟨_, rfl⟩
      rw [hr] at hrp hpb
      rw [show (pcs (zs.take k)).length = r.length by rw [hr]]
      have HR : Hid (∀ V, Below wr.heap.size wr V → Rp w1.heap.size V (.slice p r.length cp) r ∧ Below w1.heap.size w1 V) := fun V hV => ⟨hrp.below hV, hbw.trans (hV.mono hbw.size)⟩
      obtain ⟨cc0, cc1⟩ := HC.out wr hbw
      have hrl : r.length ≤ 600 := by omega
      by_cases hk0 : k = 0
      · subst hk0
        have q2 : ¬ ((0 : Int) < 0) := by omega
        have HE : Hid (smz (zs.take 1) = t.size ∧ pcs (zs.take 1) = r ++ [⟨1, t, 0, 0, false⟩] ∧ sm = 0) := by
          have e1 : zs.take 1 = [y] := by have := htk; simpa using this
          rw [e1, smz_one, hts]
          refine ⟨rfl, ?_, by rw [← hsm]; rfl⟩
          rw [← hr, ← HTX.out]; rfl
        have hsm0 : sm = 0 := HE.out.2.2
        clear HI hrp hbw htk hy ht hlt' hts c0 c1 hw hge htl hsm hr
        subst hsm0
        go_wp2_with (first | (go_at_call 18; refine (ptext_any t _).mono ?_; rintro e w2 ⟨rfl, hb2⟩; have HB2 : Hid (Below wr.heap.size wr w2) := hb2; clear hb2) | (at_builtin; refine app_piece rfl _ _ rfl w1.heap.size _ r ⟨1, t, 0, 0, false⟩ rfl (HR.out _ (HB2.out.alloc HB2.out.size _)).1 _ 1 rfl (new_at _ _) (by omega) (HR.out _ (HB2.out.alloc HB2.out.size _)).2.size ?_; intro v4 w4 hr4 hb4 _ _; obtain ⟨p4', cp4', e4, _, _⟩ := hr4.shape; simp only [List.length_append, List.length_cons, List.length_nil, Nat.zero_add] at e4; subst e4; have HR4 : Hid (Rp w1.heap.size w4 (.slice p4' (r.length + 1) cp4') (r ++ [⟨1, t, 0, 0, false⟩]) ∧ Below w1.heap.size w1 w4) := ⟨hr4, (HR.out _ (HB2.out.alloc HB2.out.size _)).2.trans hb4⟩; obtain ⟨cc0', cc1'⟩ := HC.out w4 HR4.out.2))
        exact ⟨⟨1, hlt, rfl, by rw [HE.out.1], by rw [HE.out.2.1]; exact HR4.out⟩, by simp [intOf]; omega⟩
      · have q2 : (0 : Int) < k := by omega
        have hne : zs.take k ≠ [] := by
          intro h
          have h1 : (zs.take k).length = 0 := by rw [h]; rfl
          rw [List.length_take] at h1; omega
        have HE : Hid (smz (zs.take (k + 1)) = sm + (g + t.size) ∧ pcs (zs.take (k + 1)) = r ++ [⟨3, bE, g, 0, false⟩] ++ [⟨1, t, 0, 0, false⟩]) := by
          show _ ∧ _
          rw [htk, smz_snoc hne, hsm, hts, hge, pcs_snoc hne, hr, HTX.out, HBK.out]
          exact ⟨rfl, rfl⟩
        have q6 : (g : Int) ≤ 3 := by omega
        clear HI hrp hbw htk hy ht hlt' hts c0 c1 hw hge htl hsm hr hne HTX HBK
        go_wp2_with (first | (go_at_call 17; refine (pgap_any g _).mono ?_; rintro e w2 ⟨rfl, hb2⟩; have HB2 : Hid (Below wr.heap.size wr w2) := hb2; clear hb2) | (go_at_call 18; refine (ptext_any t _).mono ?_; rintro e w5 ⟨rfl, hb5⟩; have HB5 : Hid (Below w4.heap.size w4 w5) := hb5; clear hb5) | (at_builtin; refine app_piece rfl _ _ rfl w1.heap.size _ (r ++ [⟨3, bE, g, 0, false⟩]) ⟨1, t, 0, 0, false⟩ rfl (HR4.out _ (HB5.out.alloc HB5.out.size _)).1 _ 1 rfl (new_at _ _) (by rw [List.length_append]; simp; omega) (HR4.out _ (HB5.out.alloc HB5.out.size _)).2.size ?_; intro v6 w6 hr6 hb6 _ _; obtain ⟨p6', cp6', e6, _, _⟩ := hr6.shape; simp only [List.length_append, List.length_cons, List.length_nil, Nat.zero_add] at e6; subst e6; have HR6 : Hid (Rp w1.heap.size w6 (.slice p6' (r.length + 1 + 1) cp6') (r ++ [⟨3, bE, g, 0, false⟩] ++ [⟨1, t, 0, 0, false⟩]) ∧ Below w1.heap.size w1 w6) := ⟨hr6, (HR4.out _ (HB5.out.alloc HB5.out.size _)).2.trans hb6⟩; obtain ⟨cd0', cd1'⟩ := HC.out w6 HR6.out.2) | (at_builtin; refine app_piece rfl _ _ rfl w1.heap.size _ r ⟨3, bE, g, 0, false⟩ rfl (HR.out _ (HB2.out.alloc HB2.out.size _)).1 _ 1 rfl (new_at _ _) (by omega) (HR.out _ (HB2.out.alloc HB2.out.size _)).2.size ?_; intro v4 w4 hr4 hb4 _ _; obtain ⟨p4', cp4', e4, _, _⟩ := hr4.shape; simp only [List.length_append, List.length_cons, List.length_nil, Nat.zero_add] at e4; subst e4; have hbw4 : Below w1.heap.size w1 w4 := (HR.out _ (HB2.out.alloc HB2.out.size _)).2.trans hb4; have HR4 : Hid (∀ V, Below w4.heap.size w4 V → Rp w1.heap.size V (.slice p4' (r.length + 1) cp4') (r ++ [⟨3, bE, g, 0, false⟩]) ∧ Below w1.heap.size w1 V) := (fun V hV => ⟨hr4.below hV, hbw4.trans (hV.mono hbw4.size)⟩); obtain ⟨cc0', cc1'⟩ := HC.out w4 hbw4))
        exact ⟨⟨k + 1, hlt, by go_num, by rw [HE.out.1]; go_num, by rw [HE.out.2]; exact HR6.out⟩, by simp [intOf]; omega⟩
    · obtain rfl : k = zs.length := by omega
      have q1 : ¬ ((zs.length : Int) < zs.length) := by omega
      rw [List.take_length] at hrp hsb hpb ⊢
      have hpl : (pcs zs).length ≤ 600 := by omega
      have HRP : Hid (∀ V, Below wr.heap.size wr V → Rp w1.heap.size V (.slice p (pcs zs).length cp) (pcs zs) ∧ Below w1.heap.size w1 V) := fun V hV => ⟨hrp.below hV, hbw.trans (hV.mono hbw.size)⟩
      have HPR : Hid (∀ W l m ao' cap' B, m = l.length → Below w.heap.size w W → Rp B W (.slice ao' m cap') l → (∀ d ∈ l, d.t.size ≤ 14) → l.length ≤ 1000 → uds l ≤ 1000000 → Calls Tryd.prog 10 #[.int .i64 (1 + (n0 : Int)), .slice ao' m cap'] W fun e w' => e = .returned (.tuple #[.string (wprn N l).1, .int .i64 (wprn N l).2]) ∧ Below W.heap.size W w') := fun W l m ao' cap' B hm hW h1 h2 h3 h4 => by
        subst hm
        obtain ⟨ao2, cp2, e2, _, hLr, _, _, _⟩ := Lay.row h1 (fun d hd => by have := h2 d hd; omega)
        simp only [Value.slice.injEq] at e2
        obtain ⟨rfl, _, rfl⟩ := e2
        rw [show (1 : Int) + n0 = (N : Int) by omega]
        exact print_any N ao' l cap' W hLr (HT.out.below hW) (by omega) (by omega)
      clear HI hrp hbw
      go_wp2_with (first | (at_builtin; refine app_piece rfl _ _ rfl wr.heap.size _ ([⟨6, bE, 0, I, false⟩] ++ pcs zs) (dK 7) rfl (HR3.out _ ((Below.refl _ _).alloc (Nat.le_refl _) _)).1 _ 1 rfl (new_at _ _) (by simp; omega) (HR3.out _ ((Below.refl _ _).alloc (Nat.le_refl _) _)).2.size ?_; intro v4 w4 hr4 hb4 _ _; obtain ⟨q, cq, e4, _, _⟩ := rp_some hr4; have hbw4 := (HR3.out _ ((Below.refl _ _).alloc (Nat.le_refl _) _)).2.trans hb4; have hql := hr4.own; simp only [List.length_append, List.length_cons, List.length_nil, Nat.zero_add] at e4; subst e4) | (at_builtin; refine app_both rfl _ _ rfl wr.heap.size w1.heap.size _ _ [⟨6, bE, 0, I, false⟩] (pcs zs) rfl (rp_beg wr I _ (Nat.le_refl _)) rfl (HRP.out _ ((Below.refl _ _).alloc (Nat.le_refl _) _)).1 (by simp; omega) (by rw [World.size_alloc]; omega) ?_; intro vb w3 hr3 hb3; have HR3 : Hid (∀ V, Below w3.heap.size w3 V → Rp wr.heap.size V vb ([⟨6, bE, 0, I, false⟩] ++ pcs zs) ∧ Below wr.heap.size wr V) := (fun V hV => ⟨hr3.below hV, ((Below.refl _ wr).alloc (Nat.le_refl _) _).trans (hb3.trans (hV.mono (Nat.le_trans (by rw [World.size_alloc]; omega) hb3.size)))⟩); obtain ⟨pb, cb, e3, _, _⟩ := hr3.shape; clear hr3 hb3; simp only [List.length_append, List.length_cons, List.length_nil, Nat.zero_add] at e3; subst e3))
      have hqb : wr.heap.size ≤ q := hql q rfl
      have HR4 : Hid (∀ V, Below w4.heap.size w4 V → Rp wr.heap.size V (.slice (some ⟨q, 0, none⟩) (1 + (pcs zs).length + 1) cq) (blk8 I false zs) ∧ Below wr.heap.size wr V) := fun V hV => ⟨hr4.below hV, hbw4.trans (hV.mono hbw4.size)⟩
      have hw14 : Below w.heap.size w w4 := by
        have h1 := (HRP.out w4 hbw4).2
        exact HB1.out.trans (h1.mono HB1.out.size)
      obtain ⟨G, hG⟩ : ∃ G : Int → Int → ByteArray, ∀ m ind, G m ind = ⟨(flz m ind.toNat zs).1.toArray⟩ := ⟨_, fun _ _ => rfl⟩
      have hNi : (1 : Int) + n0 = (N : Int) := by omega
      obtain ⟨i1, i2, i3⟩ := pcs_bd HZ.out.2
      obtain ⟨j1, j2, j3⟩ := blk8_bd HZ.out.2 I false
      obtain ⟨l1, l2, l3⟩ := blk8_bd HZ.out.2 I true
      have hbl : ∀ e, 1 + (pcs zs).length + 1 = (blk8 I e zs).length := fun e => by simp [blk8]; omega
      have hN1 : 1 ≤ N ∧ N ≤ 4096 := by omega
      have PA : Hid (Calls Tryd.prog 10 #[.int .i64 (1 + (n0 : Int)), .slice p (pcs zs).length cp] w4 fun e w' => e = .returned (.tuple #[.string (G (1 + (n0 : Int)) 0), .int .i64 0]) ∧ Below w4.heap.size w4 w') := by
        have := HPR.out w4 (pcs zs) _ p cp _ rfl hw14 (HRP.out w4 hbw4).1 i3 (by omega) (by omega)
        rw [fill_a hN1 zs HZ.out.2] at this
        rw [hG, hNi]
        rw [hNi] at this
        exact this
      have PB : Hid (∀ W, Below w4.heap.size w4 W → Calls Tryd.prog 10 #[.int .i64 (1 + (n0 : Int)), .slice (some ⟨q, 0, none⟩) (1 + (pcs zs).length + 1) cq] W fun e w' => e = .returned (.tuple #[.string (G (1 + (n0 : Int)) I), .int .i64 0]) ∧ Below W.heap.size W w') := fun W hW => by
        have := HPR.out W (blk8 I false zs) _ (some ⟨q, 0, none⟩) cq _ (hbl _) (hw14.trans (hW.mono hw14.size)) (HR4.out W hW).1 j3 (by omega) (by omega)
        rw [fill_b hN1 (by omega) false zs HZ.out.2 N (.inl ⟨rfl, rfl⟩)] at this
        rw [hG, hNi]
        rw [hNi] at this
        exact this
      have HG : Hid (∀ m ind, G m ind = ⟨(flz m ind.toNat zs).1.toArray⟩) := hG
      have HNI : Hid ((1 : Int) + n0 = (N : Int) ∧ (∀ e, 1 + (pcs zs).length + 1 = (blk8 I e zs).length) ∧ N = 1 + n0 ∧ 1 ≤ N ∧ N ≤ 4096) := ⟨hNi, hbl, hN, hN1⟩
      clear hG hNi hN hN1 hbl
      have HW : Hid (Below w.heap.size w w4 ∧ Below wr.heap.size wr w4) := ⟨hw14, hbw4⟩
      clear hr4 hw14 hbw4 hb4 HR3
      refine PA.out.mono ?_
      rintro e w5 ⟨rfl, hb5⟩
      have HB5 : Hid (Below w4.heap.size w4 w5) := hb5
      clear hb5
      go_wp2_with fail
      refine (PB.out w5 HB5.out).mono ?_
      rintro e w6 ⟨rfl, hb6⟩
      have HB6 : Hid (Below w4.heap.size w4 w6) := HB5.out.trans (hb6.mono HB5.out.size)
      clear hb6
      have hr6 := (HR4.out w6 HB6.out).1
      have s4 : w6.cell? ⟨q, 4, none⟩ = some (.bool false) := by
        rw [HNI.out.2.1 false] at hr6
        exact World.ownsRow.cellAt hr6 4 (by simp [blk8]; omega)
      have f4 : w6.frozen? ⟨q, 4, none⟩ = false := by
        rw [HNI.out.2.1 false] at hr6
        exact World.ownsRow.frozenAt hr6 4
      have HR7 : Hid (Rp wr.heap.size (w6.setCell ⟨q, 4, none⟩ (.bool true)) (.slice (some ⟨q, 0, none⟩) (1 + (pcs zs).length + 1) cq) (blk8 I true zs)) := rp_even (HNI.out.2.1 false) hr6
      have HB7 : Hid (Below wr.heap.size wr (w6.setCell ⟨q, 4, none⟩ (.bool true))) := ((HW.out.2.trans (HB6.out.mono HW.out.2.size))).setCell hqb _
      have hwr : Below w1.heap.size w1 wr := (HRP.out wr (Below.refl _ _)).2
      clear hr6
      go_wp2_with fail
      obtain ⟨w7, hw7⟩ : ∃ W, w6.setCell ⟨q, 4, none⟩ (.bool true) = W := ⟨_, rfl⟩
      rw [hw7] at HR7 HB7 ⊢
      clear hw7 s4 f4
      have hb17 : Below w1.heap.size w1 w7 := hwr.trans (HB7.out.mono hwr.size)
      have hbw7 : Below w.heap.size w w7 := HB1.out.trans (hb17.mono HB1.out.size)
      have HF : Hid (∀ W (m ind : Int), Below w1.heap.size w1 W → -1 ≤ m → m ≤ 100000 → 0 ≤ ind → ind ≤ 11 → Calls Tryd.prog 19 #[.int .i64 m, .int .i64 ind, .slice p4 zs.length c4, .slice p5 zs.length c5] W fun e w' => e = .returned (.string (G m ind)) ∧ Below w1.heap.size w1 w') := fun W m ind hW h1 h2 h3 h4 => by
        obtain ⟨d, rfl⟩ : ∃ d : Nat, ind = d := ⟨ind.toNat, by omega⟩
        rw [HG.out]
        exact (filled_any m h1 h2 d (by omega) _ _ zs w.heap.size W (HZ.out.1.below hW) HZ.out.2 hzl).mono fun e w' ⟨a1, a2⟩ => ⟨a1, hW.trans (a2.mono hW.size)⟩
      have HA : Hid (∀ W, Below w1.heap.size w1 W → Calls Tryd.prog 9 #[] W fun e w' => e = .returned (.bool true) ∧ Below w1.heap.size w1 w') := fun W hW => (awake_any W (HT.out.below (HB1.out.trans (hW.mono HB1.out.size)))).mono fun e w' ⟨a1, a2⟩ => ⟨a1, hW.trans (a2.mono hW.size)⟩
      have hhg := hgp_le zs
      have hsm : smz zs = tot zs - hgp zs := rfl
      have hgd : hgp zs = (zs.headD ([], 0)).2 := rfl
      by_cases hsn : smz zs ≤ N
      · have PC : Hid (Calls Tryd.prog 10 #[.int .i64 (1 + (n0 : Int)), .slice (some ⟨q, 0, none⟩) (1 + (pcs zs).length + 1) cq] w7 fun e w' => e = .returned (.tuple #[.string (G (smz zs) I), .int .i64 0]) ∧ Below w1.heap.size w1 w') := by
          have := HPR.out w7 (blk8 I true zs) _ (some ⟨q, 0, none⟩) cq _ (HNI.out.2.1 _) hbw7 HR7.out l3 (by omega) (by omega)
          rw [fill_b HNI.out.2.2.2 (by omega) true zs HZ.out.2 (smz zs) (.inr (.inr ⟨rfl, by omega, by omega⟩))] at this
          rw [HG.out]
          exact this.mono fun e w' ⟨a1, a2⟩ => ⟨a1, hb17.trans (a2.mono hb17.size)⟩
        have qs : ((smz zs : Nat) : Int) ≤ 1 + (n0 : Int) := by have := HNI.out.2.2.1; omega
        obtain ⟨SM, hSM⟩ : ∃ x, smz zs = x := ⟨_, rfl⟩
        have hs17 : SM ≤ 5100 := by omega
        rw [hSM] at qs PC ⊢
        clear hb17 hbw7 HPR PB PA HR7 HR4 hhg hsm hgd i1 i2 i3 j1 j2 j3 l1 l2 l3 hsb hsn hSM HB5 HB6 HB7 hwr hql HNI
        refine PC.out.mono ?_
        rintro e w8 ⟨rfl, hbz⟩
        clear PC
        go_wp2_with (first | (go_at_call 9; refine (HA.out _ hbz).mono ?_; clear hbz; rintro e wz ⟨rfl, hbz⟩) | (go_at_call 19; refine (HF.out _ _ _ hbz (by omega) (by omega) (by omega) (by omega)).mono ?_; clear hbz; rintro e wz ⟨rfl, hbz⟩))
        go_ret
        exact ⟨rfl, HB1.out.trans (hbz.mono HB1.out.size)⟩
      · have PC : Hid (Calls Tryd.prog 10 #[.int .i64 (1 + (n0 : Int)), .slice (some ⟨q, 0, none⟩) (1 + (pcs zs).length + 1) cq] w7 fun e w' => e = .returned (.tuple #[.string (G (-1) I), .int .i64 0]) ∧ Below w1.heap.size w1 w') := by
          have := HPR.out w7 (blk8 I true zs) _ (some ⟨q, 0, none⟩) cq _ (HNI.out.2.1 _) hbw7 HR7.out l3 (by omega) (by omega)
          rw [fill_b HNI.out.2.2.2 (by omega) true zs HZ.out.2 (-1) (.inr (.inl ⟨rfl, by omega, rfl⟩))] at this
          rw [HG.out]
          exact this.mono fun e w' ⟨a1, a2⟩ => ⟨a1, hb17.trans (a2.mono hb17.size)⟩
        have qs : ¬ ((smz zs : Nat) : Int) ≤ 1 + (n0 : Int) := by have := HNI.out.2.2.1; omega
        obtain ⟨SM, hSM⟩ : ∃ x, smz zs = x := ⟨_, rfl⟩
        have hs17 : SM ≤ 5100 := by omega
        rw [hSM] at qs ⊢
        clear hb17 hbw7 HPR PB PA HR7 HR4 hhg hsm hgd i1 i2 i3 j1 j2 j3 l1 l2 l3 hsb hsn hSM HB5 HB6 HB7 hwr hql HNI
        refine PC.out.mono ?_
        rintro e w8 ⟨rfl, hbz⟩
        clear PC
        go_wp2_with (first | (go_at_call 9; refine (HA.out _ hbz).mono ?_; clear hbz; rintro e wz ⟨rfl, hbz⟩) | (go_at_call 19; refine (HF.out _ _ _ hbz (by omega) (by omega) (by omega) (by omega)).mono ?_; clear hbz; rintro e wz ⟨rfl, hbz⟩))
        go_ret
        exact ⟨rfl, HB1.out.trans (hbz.mono HB1.out.size)⟩
end Go.Proofs.YtcokccfbeonlnaaDoor
