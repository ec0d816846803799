import Derived.Test.YtmjhfabdbajchaaGreatDoorCm
set_option linter.unusedVariables false
set_option linter.unusedSimpArgs false
namespace Go.Proofs.YtmjhfabdbajchaaGreatDoor
open Go.RowKit

def udo (l : List Stp) : Nat := (l.map fun o => ud o.d).sum
theorem udo_snoc (l : List Stp) (o : Stp) : udo (l ++ [o]) = udo l + ud o.d := by simp [udo]
theorem udo_take (l : List Stp) (k : Nat) : udo (l.take k) ≤ udo l := by
  unfold udo
  have : (l.map fun o => ud o.d).sum = ((l.take k).map fun o => ud o.d).sum + ((l.drop k).map fun o => ud o.d).sum := by
    rw [← List.sum_append, ← List.map_append, List.take_append_drop]
  omega
/-- While the script is played. -/
structure Z9 (R : (Nat → Prop) → World → Nat → Nat → S9 → Prop) (W0 V : World) (own : Nat → Nat) (gs Ns : Nat → Nat) (ss : Nat → S9) (vl : Value) (T C : Nat) : Prop where
  d9 : D9 R W0 V own gs Ns ss 4
  rw : V.ownsRow W0.heap.size 34 2 vl 2 (flat pbb (prs gs 2))
  lw : ∀ q, vl.ownBlock = some q → own q = 0
  e1 : ss 3 = ss 1
  e2 : ss 4 = ss 2
  b1 : Bud (ss 1) T C
  b2 : Bud (ss 2) T C

set_option maxHeartbeats 4000000 in
set_option maxRecDepth 100000 in
theorem plays9_any {R : (Nat → Prop) → World → Nat → Nat → S9 → Prop} (hC : Ctr R) (one two : Int) (ao : Option Addr) (sc : List Stp) (cap : Nat) (W : World) (hO : LayO W ao sc) (hT : Tab W) (hlen : sc.length ≤ 1000000) (hu : udo sc ≤ 268435456) :
    Calls Tryz.prog 4 #[.int .i64 one, .int .i64 two, .slice ao sc.length cap] W fun e w' => e = .returned (.bool true) ∧ Below W.heap.size W w' := by
  have HC : Hid (Ctr R) := hC
  have HT : Hid (Tab W) := hT
  have HO : Hid (LayO W ao sc) := hO
  have KA : Hid (∀ V, Below W.heap.size W V → Calls Tryz.prog 9 #[] V fun e w' => e = .returned (.bool true) ∧ Below V.heap.size V w') := fun V hV => awake9_any HC.out V (HT.out.below hV)
  clear hC hT hO
  go_enter Tryz.func4, Tryz.ntmps4
  go_wp2_with fail
  obtain ⟨w1, hw1⟩ : ∃ w1, W.alloc (.cells #[.int .i64 one, .int .i64 two] 3) = w1 := ⟨_, rfl⟩
  have hb1 : Below W.heap.size W w1 := by rw [← hw1]; exact (Below.refl _ _).alloc (Nat.le_refl _) _
  have H1 : Hid (M9 R W w1 (fun _ => 0) (fun _ => 0) (fun _ => 0) 0 0 W.heap.size (.slice none 0 0) one two) := ⟨D9.zero W w1 HT.out hb1 _ _ _, World.ownsRow_nil _ _ _ _, (fun q h => by cases h), by rw [← hw1]; exact new_at _ _, rfl, Nat.le_refl _, fun _ => Nat.zero_le _⟩
  rw [hw1]
  obtain ⟨wb, hwb⟩ : ∃ wb, W.heap.size = wb := ⟨_, rfl⟩
  rw [hwb] at H1 ⊢
  clear hw1 hb1
  go_loopw [7, 9] (fun vl i wr => ∃ (k : Nat) (own gs Ns : Nat → Nat), k ≤ 2 ∧ i = .int .i64 k ∧ Hid (M9 R W wr own gs Ns (2 * k) k wb vl one two ∧ ∀ j, j < k → Ns (j + 3) = Ns (j + 1))) (fun _ i _ => 2 - (intOf i).toNat)
  case atStart => exact ⟨0, _, _, _, by omega, rfl, H1.out, fun j hj => by omega⟩
  case round =>
    obtain ⟨k, own, gs, Ns, hk, rfl, HI⟩ := hrel
    obtain ⟨hM, hNE⟩ := HI.out
    obtain ⟨pv, cv, evl, _, _⟩ := row_shape (row_zero hM.rw)
    subst evl
    by_cases hlt : k < 2
    · have q1 : (k : Int) < 2 := by omega
      have q2 : (0 : Int) ≤ k := by omega
      have HM : Hid (M9 R W wr own gs Ns (2 * k) k wb (.slice pv k cv) one two) := hM
      have HNE : Hid (∀ j, j < k → Ns (j + 3) = Ns (j + 1)) := hNE
      obtain ⟨n, cn⟩ : ∃ n, ∀ V, Below wr.heap.size wr V → V.cell? ⟨wb, k, none⟩ = some (.int .i64 n) := by
        have : k = 0 ∨ k = 1 := by omega
        rcases this with rfl | rfl
        · exact ⟨one, fun V hV => blk_cell (blk_below hM.bw hV) rfl⟩
        · exact ⟨two, fun V hV => blk_cell (blk_below hM.bw hV) rfl⟩
      have c0 := cn wr (Below.refl _ _)
      clear HI hM hNE
      by_cases hn : n < 1 ∨ 4096 < n
      · have HN : Hid (n < 1 ∨ 4096 < n) := hn
        clear hn
        go_wp2_with fail
        refine (HC.out.bad n wr HN.out HM.out.d9.en.tab).mono ?_
        rintro e w2 ⟨rfl, hb2⟩
        have H2 : Hid (M9 R W w2 own gs Ns (2 * k) k wb (.slice pv k cv) one two) := HM.out.below HC.out hb2
        have c2 := cn w2 hb2
        clear hb2 HM cn c0
        go_wp2_with fail
        refine (rnew_bad n HN.out w2).mono ?_
        rintro e w2' ⟨rfl, hw2'⟩
        rw [hw2']
        clear hw2' w2'
        go_wp2_with (go_at_call 9; refine (KA.out _ H2.out.d9.be).mono ?_; rintro e w3 ⟨rfl, hb3⟩; have H3 : Hid (M9 R W w3 own gs Ns (2 * k) k wb (.slice pv k cv) one two) := H2.out.below HC.out hb3; clear hb3)
        refine (M9.newP HC.out H3.out rfl (by omega) 20 (by decide) (by decide)).mono ?_
        rintro e w4 ⟨g1, own4, rfl, h4⟩
        have H4 : Hid _ := h4
        clear h4
        go_wp2_with fail
        refine (M9.newQ HC.out H4.out rfl (by omega) 20 (by decide) (by decide)).mono ?_
        rintro e w5 ⟨g2, own5, rfl, h5⟩
        have HAW : Hid (M9 R W w5 own5 (upd (upd gs (k + 1) g1) (k + 3) g2) (upd (upd Ns (k + 1) 20) (k + 3) 20) (2 * k + 1 + 1) k wb (.slice pv k cv) one two) := h5
        clear h5 H4 H3 H2 c2
        have hpr : prs (upd (upd gs (k + 1) g1) (k + 3) g2) (k + 1) = prs (upd (upd gs (k + 1) g1) (k + 3) g2) k ++ [(g1, g2)] := by
          unfold prs
          rw [List.range_succ, List.map_append]
          have e1 : upd (upd gs (k + 1) g1) (k + 3) g2 (k + 1) = g1 := by rw [upd_ne _ (by omega), upd_same]
          have e2 : upd (upd gs (k + 1) g1) (k + 3) g2 (k + 3) = g2 := upd_same _ _ _
          simp [e1, e2]
        have HPR : Hid (prs (upd (upd gs (k + 1) g1) (k + 3) g2) (k + 1) = prs (upd (upd gs (k + 1) g1) (k + 3) g2) k ++ [(g1, g2)]) := hpr
        obtain ⟨gs', hgs'⟩ : ∃ gs', upd (upd gs (k + 1) g1) (k + 3) g2 = gs' := ⟨_, rfl⟩
        obtain ⟨Ns', hNs'⟩ : ∃ Ns', upd (upd Ns (k + 1) 20) (k + 3) 20 = Ns' := ⟨_, rfl⟩
        have hNE' : ∀ j, j < k + 1 → Ns' (j + 3) = Ns' (j + 1) := by
          intro j hj
          rw [← hNs']
          by_cases e : j = k
          · subst e
            rw [upd_same, upd_ne _ (by omega), upd_same]
          · rw [upd_ne _ (by omega), upd_ne _ (by omega), upd_ne _ (by omega), upd_ne _ (by omega)]
            exact HNE.out j (by omega)
        rw [hgs', hNs'] at HAW
        rw [hgs'] at HPR
        clear hpr hgs' hNs'
        go_wp2_with (at_builtin; refine app_pair rfl _ _ rfl W.heap.size (.slice pv k cv) (prs gs' k) (g1, g2) rfl (by rw [prs_len]; exact (HAW.out.below HC.out ((Below.refl _ w5).alloc (Nat.le_refl _) _)).rw) w5.heap.size 1 rfl (new_at w5 _) (by rw [prs_len]; omega) (HAW.out.below HC.out ((Below.refl _ w5).alloc (Nat.le_refl _) _)).d9.be.size ?_; intro v8 w8 hr8 hg8 hat8; rw [prs_len, ← HPR.out] at hr8; have HK8 : Hid (M9 R W w8 own5 gs' Ns' (2 * k + 1 + 1) (k + 1) wb v8 one two) := (HAW.out.below HC.out ((Below.refl _ w5).alloc (Nat.le_refl _) _)).app HC.out HT.out hr8 hg8 hat8; clear hr8 hg8 hat8)
        exact ⟨⟨k + 1, own5, gs', Ns', by omega, by go_num, by show M9 _ _ _ _ _ _ _ _ _ _ _ _ ∧ _; exact ⟨by rw [show 2 * (k + 1) = 2 * k + 1 + 1 by omega]; exact HK8.out, hNE'⟩⟩, by simp [intOf]; omega⟩
      · obtain ⟨N, hN⟩ : ∃ N : Nat, n = (N : Int) := ⟨n.toNat, by omega⟩
        subst hN
        have hN1 : 1 ≤ N := by omega
        have hN2 : N ≤ 4096 := by omega
        clear hn
        go_wp2_with fail
        refine (M9.newP HC.out HM.out rfl (by omega) N hN1 hN2).mono ?_
        rintro e w4 ⟨g1, own4, rfl, h4⟩
        have c4 : w4.cell? ⟨wb, k, none⟩ = some (.int .i64 (N : Int)) := by
          have h5 := h4.bw
          have h6 := HM.out.bw
          have : wr.cell? ⟨wb, k, none⟩ = w4.cell? ⟨wb, k, none⟩ := World.cell?_of_block (h6.trans h5.symm)
          rw [← this]; exact c0
        have H4 : Hid _ := h4
        clear h4 cn c0 HM
        go_wp2_with fail
        refine (M9.newQ HC.out H4.out rfl (by omega) N hN1 hN2).mono ?_
        rintro e w5 ⟨g2, own5, rfl, h5⟩
        have H5 : Hid (M9 R W w5 own5 (upd (upd gs (k + 1) g1) (k + 3) g2) (upd (upd Ns (k + 1) N) (k + 3) N) (2 * k + 1 + 1) k wb (.slice pv k cv) one two) := h5
        clear h5 H4 c4
        have hpr : prs (upd (upd gs (k + 1) g1) (k + 3) g2) (k + 1) = prs (upd (upd gs (k + 1) g1) (k + 3) g2) k ++ [(g1, g2)] := by
          unfold prs
          rw [List.range_succ, List.map_append]
          have e1 : upd (upd gs (k + 1) g1) (k + 3) g2 (k + 1) = g1 := by rw [upd_ne _ (by omega), upd_same]
          have e2 : upd (upd gs (k + 1) g1) (k + 3) g2 (k + 3) = g2 := upd_same _ _ _
          simp [e1, e2]
        have HPR : Hid (prs (upd (upd gs (k + 1) g1) (k + 3) g2) (k + 1) = prs (upd (upd gs (k + 1) g1) (k + 3) g2) k ++ [(g1, g2)]) := hpr
        obtain ⟨gs', hgs'⟩ : ∃ gs', upd (upd gs (k + 1) g1) (k + 3) g2 = gs' := ⟨_, rfl⟩
        obtain ⟨Ns', hNs'⟩ : ∃ Ns', upd (upd Ns (k + 1) N) (k + 3) N = Ns' := ⟨_, rfl⟩
        have hNE' : ∀ j, j < k + 1 → Ns' (j + 3) = Ns' (j + 1) := by
          intro j hj
          rw [← hNs']
          by_cases e : j = k
          · subst e
            rw [upd_same, upd_ne _ (by omega), upd_same]
          · rw [upd_ne _ (by omega), upd_ne _ (by omega), upd_ne _ (by omega), upd_ne _ (by omega)]
            exact HNE.out j (by omega)
        rw [hgs', hNs'] at H5
        rw [hgs'] at HPR
        clear hpr hgs' hNs'
        go_wp2_with (first | (go_at_call 9; refine (KA.out _ H5.out.d9.be).mono ?_; rintro e w6 ⟨rfl, hb6⟩; have HAW : Hid (M9 R W w6 own5 gs' Ns' (2 * k + 1 + 1) k wb (.slice pv k cv) one two) := H5.out.below HC.out hb6; clear hb6) | (at_builtin; refine app_pair rfl _ _ rfl W.heap.size (.slice pv k cv) (prs gs' k) (g1, g2) rfl (by rw [prs_len]; exact (HAW.out.below HC.out ((Below.refl _ w6).alloc (Nat.le_refl _) _)).rw) w6.heap.size 1 rfl (new_at w6 _) (by rw [prs_len]; omega) (HAW.out.below HC.out ((Below.refl _ w6).alloc (Nat.le_refl _) _)).d9.be.size ?_; intro v8 w8 hr8 hg8 hat8; rw [prs_len, ← HPR.out] at hr8; have HK8 : Hid (M9 R W w8 own5 gs' Ns' (2 * k + 1 + 1) (k + 1) wb v8 one two) := (HAW.out.below HC.out ((Below.refl _ w6).alloc (Nat.le_refl _) _)).app HC.out HT.out hr8 hg8 hat8; clear hr8 hg8 hat8))
        exact ⟨⟨k + 1, own5, gs', Ns', by omega, by go_num, by show M9 _ _ _ _ _ _ _ _ _ _ _ _ ∧ _; exact ⟨by rw [show 2 * (k + 1) = 2 * k + 1 + 1 by omega]; exact HK8.out, hNE'⟩⟩, by simp [intOf]; omega⟩
    · obtain rfl : k = 2 := by omega
      have q1 : ¬ ((2 : Int) < 2) := by omega
      have hn31 : Ns 3 = Ns 1 := hNE 0 (by omega)
      have hn42 : Ns 4 = Ns 2 := hNE 1 (by omega)
      have hnn := hM.nn
      obtain ⟨q, rfl⟩ : ∃ q, pv = some ⟨q, 0, none⟩ := by
        rcases hM.rw.2 with ⟨_, h0⟩ | ⟨q, c, cur, e, _⟩
        · omega
        · simp only [Value.slice.injEq] at e
          exact ⟨q, e.1⟩
      have HZ0 : Hid (Z9 R W wr own gs Ns (fun _ => s90) (.slice (some ⟨q, 0, none⟩) 2 cv) (udo (sc.take 0)) 0) := ⟨hM.d9, hM.rw, hM.lw, rfl, rfl, by rw [List.take_zero]; exact Bud.zero, by rw [List.take_zero]; exact Bud.zero⟩
      clear HI hM hNE H1
      go_wp2_with fail
      obtain ⟨wq, eq⟩ : ∃ wq, wq = wr := ⟨wr, rfl⟩
      rw [← eq] at HZ0 ⊢
      clear eq
      go_loopw [14] (fun i wz => ∃ (j : Nat) (own : Nat → Nat) (ss : Nat → S9), j ≤ sc.length ∧ i = .int .i64 j ∧ Hid (Z9 R W wz own gs Ns ss (.slice (some ⟨q, 0, none⟩) 2 cv) (udo (sc.take j)) j)) (fun i _ => sc.length - (intOf i).toNat)
      case atStart => exact ⟨0, own, _, Nat.zero_le _, rfl, HZ0.out⟩
      case round =>
        obtain ⟨j, own2, ss, hj, rfl, HJ⟩ := hrel
        have hZ := HJ.out
        by_cases hlj : j < sc.length
        · have r1 : (j : Int) < sc.length := by omega
          have r2 : (0 : Int) ≤ j := by omega
          obtain ⟨o, ho⟩ : ∃ o, sc[j]? = some o := ⟨_, List.getElem?_eq_getElem hlj⟩
          have htk : sc.take (j + 1) = sc.take j ++ [o] := by rw [List.take_add_one, ho]; rfl
          have hud : udo (sc.take j) + ud o.d = udo (sc.take (j + 1)) := by rw [htk, udo_snoc]
          have hub : udo (sc.take (j + 1)) ≤ 268435456 := by have := udo_take sc (j + 1); omega
          obtain ⟨e, he⟩ : ∃ e : Nat, o.on % 2 = (e : Int) := ⟨(o.on % 2).toNat, by omega⟩
          have he2 : e ≤ 1 := by omega
          have hand : bits BinOp.and IntKind.i64 o.on 1 = (e : Int) := by rw [and_one_i64]; exact he
          have hsz := ((HO.out.below hZ.d9.be) j o ho).1
          obtain ⟨b, off, hab⟩ : ∃ b off, ao = some ⟨b, off, none⟩ := by
            obtain ⟨_, b, off, h1, _⟩ := HO.out j o ho
            exact ⟨b, off, h1⟩
          subst hab
          have hcell : ∀ w' own' ss' T C, Z9 R W w' own' gs Ns ss' (.slice (some ⟨q, 0, none⟩) 2 cv) T C → w'.cell? ⟨b, off + j * 7, none⟩ = some (.int .u8 o.d.k) ∧ w'.cell? ⟨b, off + j * 7 + 1, none⟩ = some (.string o.d.t) ∧ w'.cell? ⟨b, off + j * 7 + 2, none⟩ = some (.int .i64 o.d.b) ∧ w'.cell? ⟨b, off + j * 7 + 3, none⟩ = some (.int .i64 o.d.i) ∧ w'.cell? ⟨b, off + j * 7 + 4, none⟩ = some (.bool o.d.e) ∧ w'.cell? ⟨b, off + j * 7 + 5, none⟩ = some (.int .i64 o.on) ∧ w'.cell? ⟨b, off + j * 7 + 6, none⟩ = some (.bool o.en) ∧ w'.cell? ⟨q, e * 2, none⟩ = some (.pointer (some ⟨gs (e + 1), 0, none⟩)) ∧ w'.cell? ⟨q, e * 2 + 1, none⟩ = some (.pointer (some ⟨gs (e + 3), 0, none⟩)) := by
            intro w' own' ss' T C hz
            obtain ⟨_, b', off', eb, x0, x1, x2, x3, x4, x5, x6⟩ := (HO.out.below hz.d9.be) j o ho
            simp only [Option.some.injEq, Addr.mk.injEq, and_true] at eb
            obtain ⟨rfl, rfl⟩ := eb
            have hce : ∀ m, m < 2 → w'.cell? ⟨q, e * 2 + m, none⟩ = (pbb (gs (e + 1), gs (e + 3)))[m]? := by
              intro m hm
              rw [World.ownsRow.cellAt hz.rw (e * 2 + m) (by omega)]
              have : e = 0 ∨ e = 1 := by omega
              have hm2 : m = 0 ∨ m = 1 := by omega
              rcases this with rfl | rfl <;> rcases hm2 with rfl | rfl <;> rfl
            exact ⟨x0, x1, x2, x3, x4, x5, x6, hce 0 (by omega), hce 1 (by omega)⟩
          have hss : ss (e + 3) = ss (e + 1) := by
            have : e = 0 ∨ e = 1 := by omega
            rcases this with rfl | rfl
            · exact hZ.e1
            · exact hZ.e2
          have hNs : Ns (e + 3) = Ns (e + 1) := by
            have : e = 0 ∨ e = 1 := by omega
            rcases this with rfl | rfl
            · exact hn31
            · exact hn42
          have hbe : Bud (ss (e + 1)) (udo (sc.take j)) j := by
            have : e = 0 ∨ e = 1 := by omega
            rcases this with rfl | rfl
            · exact hZ.b1
            · exact hZ.b2
          have HPL : Hid (∀ V, Below wr.heap.size wr V → Calls Tryz.prog 12 #[.agg #[.pointer (some ⟨gs (e + 1), 0, none⟩), .pointer (some ⟨gs (e + 3), 0, none⟩)], .agg #[.int .u8 o.d.k, .string o.d.t, .int .i64 o.d.b, .int .i64 o.d.i, .bool o.d.e, .int .i64 o.on, .bool o.en]] V fun x w' => x = .returned (.bool true) ∧ Hid (∃ own' ss', Z9 R W w' own' gs Ns ss' (.slice (some ⟨q, 0, none⟩) 2 cv) (udo (sc.take (j + 1))) (j + 1)) ∧ (w'.cell? ⟨b, off + j * 7, none⟩ = some (.int .u8 o.d.k) ∧ w'.cell? ⟨b, off + j * 7 + 1, none⟩ = some (.string o.d.t) ∧ w'.cell? ⟨b, off + j * 7 + 2, none⟩ = some (.int .i64 o.d.b) ∧ w'.cell? ⟨b, off + j * 7 + 3, none⟩ = some (.int .i64 o.d.i) ∧ w'.cell? ⟨b, off + j * 7 + 4, none⟩ = some (.bool o.d.e) ∧ w'.cell? ⟨b, off + j * 7 + 5, none⟩ = some (.int .i64 o.on) ∧ w'.cell? ⟨b, off + j * 7 + 6, none⟩ = some (.bool o.en) ∧ w'.cell? ⟨q, e * 2, none⟩ = some (.pointer (some ⟨gs (e + 1), 0, none⟩)) ∧ w'.cell? ⟨q, e * 2 + 1, none⟩ = some (.pointer (some ⟨gs (e + 3), 0, none⟩)))) := by
            intro V hV
            obtain ⟨s', hs'⟩ : ∃ s', s' = if o.en then ((ss (e + 1)).close (Ns (e + 1))).1 else ((ss (e + 1)).put (Ns (e + 1)) o.d).1 := ⟨_, rfl⟩
            refine (plays_any HC.out (hZ.d9.below HC.out hV) (i := e + 1) (by omega) (by omega) hss hNs (hnn _) hbe o.d hsz o.on o.en (by omega) (by omega) s' hs').mono ?_
            rintro x w' ⟨rfl, own', a1, a2, a3⟩
            have hbs : Bud s' (udo (sc.take (j + 1))) (j + 1) := by
              rw [hs', ← hud]
              split
              · exact (Bud.close hbe).mono (by omega) (by omega)
              · exact Bud.put hbe o.d
            obtain ⟨r3, r4⟩ := row_sd (row_kept hZ.rw hV) a2 hZ.lw
            have hz' : Z9 R W w' own' gs Ns (upd (upd ss (e + 1) s') (e + 1 + 2) s') (.slice (some ⟨q, 0, none⟩) 2 cv) (udo (sc.take (j + 1))) (j + 1) := by
              have : e = 0 ∨ e = 1 := by omega
              rcases this with rfl | rfl
              · exact ⟨a1, r3, r4, rfl, hZ.e2, hbs, hZ.b2.mono (by omega) (by omega)⟩
              · exact ⟨a1, r3, r4, hZ.e1, rfl, hZ.b1.mono (by omega) (by omega), hbs⟩
            exact ⟨rfl, ⟨own', _, hz'⟩, hcell w' own' _ _ _ hz'⟩
          have HC1 : Hid (wr.cell? ⟨b, off + j * 7, none⟩ = some (.int .u8 o.d.k) ∧ wr.cell? ⟨b, off + j * 7 + 1, none⟩ = some (.string o.d.t) ∧ wr.cell? ⟨b, off + j * 7 + 2, none⟩ = some (.int .i64 o.d.b) ∧ wr.cell? ⟨b, off + j * 7 + 3, none⟩ = some (.int .i64 o.d.i) ∧ wr.cell? ⟨b, off + j * 7 + 4, none⟩ = some (.bool o.d.e) ∧ wr.cell? ⟨b, off + j * 7 + 5, none⟩ = some (.int .i64 o.on) ∧ wr.cell? ⟨b, off + j * 7 + 6, none⟩ = some (.bool o.en) ∧ wr.cell? ⟨q, e * 2, none⟩ = some (.pointer (some ⟨gs (e + 1), 0, none⟩)) ∧ wr.cell? ⟨q, e * 2 + 1, none⟩ = some (.pointer (some ⟨gs (e + 3), 0, none⟩))) := hcell wr own2 ss _ _ hZ
          have i1 : (e : Int) < 2 := by omega
          have i2 : (0 : Int) ≤ e := by omega
          clear HJ hZ ho htk hud hub he hsz hcell hss hNs hbe
          obtain ⟨⟨dk, dt, db, di, de⟩, on, en⟩ := o
          simp only at hand HPL HC1
          go_wp2_with fail
          go_region_held3 (fun w' => w'.cell? ⟨b, off + j * 7, none⟩ = some (.int .u8 dk) ∧ w'.cell? ⟨b, off + j * 7 + 1, none⟩ = some (.string dt) ∧ w'.cell? ⟨b, off + j * 7 + 2, none⟩ = some (.int .i64 db) ∧ w'.cell? ⟨b, off + j * 7 + 3, none⟩ = some (.int .i64 di) ∧ w'.cell? ⟨b, off + j * 7 + 4, none⟩ = some (.bool de) ∧ w'.cell? ⟨b, off + j * 7 + 5, none⟩ = some (.int .i64 on) ∧ w'.cell? ⟨b, off + j * 7 + 6, none⟩ = some (.bool en) ∧ w'.cell? ⟨q, e * 2, none⟩ = some (.pointer (some ⟨gs (e + 1), 0, none⟩)) ∧ w'.cell? ⟨q, e * 2 + 1, none⟩ = some (.pointer (some ⟨gs (e + 3), 0, none⟩))) (first | assumption | (exact HC1.out) | go_keep) (first | (go_at_call 12; refine (HPL.out _ (by first | exact (Below.refl _ _).drew | exact Below.refl _ _)).mono ?_; rintro x w4 ⟨rfl, HP4, HS4⟩))
          all_goals (
            go_wp2_with fail
            obtain ⟨own4, ss4, hz4⟩ := HP4.out
            exact ⟨⟨j + 1, own4, ss4, hlj, by go_num, hz4⟩, by simp [intOf]; omega⟩)
        · obtain rfl : j = sc.length := by omega
          have r1 : ¬ ((sc.length : Int) < sc.length) := by omega
          have HB : Hid (Below W.heap.size W wr) := hZ.d9.be
          clear HJ hZ
          go_wp2_with fail
          go_ret
          exact ⟨rfl, by rw [← hwb]; exact HB.out⟩
end Go.Proofs.YtmjhfabdbajchaaGreatDoor
