import Derived.Test.YtmjhfabdbajchaaGreatDoorCe
set_option linter.unusedVariables false
set_option linter.unusedSimpArgs false
namespace Go.Proofs.YtmjhfabdbajchaaGreatDoor
open Go.RowKit

theorem put_far {N : Nat} (hN : N ≤ 4096) {s : S9} {d : Dc} (hc : s.cl = false) (hok : rt d = true ∧ ¬ (d.k = 7 ∧ s.dp = 0)) (h : 4097 ≤ pw d) (hk : d.k ≠ 6 ∧ d.k ≠ 7 ∧ d.k ≠ 3) : (s.put N d).1.wt = [] := by
  unfold S9.put
  rw [if_neg (by rw [hc]; simp), if_pos hok]
  exact drn_far hN h hk _ _
theorem put_dp {N : Nat} {s : S9} {d : Dc} (hc : s.cl = false) (hok : rt d = true ∧ ¬ (d.k = 7 ∧ s.dp = 0)) : (s.put N d).1.dp = dn d.k s.dp := by
  unfold S9.put
  rw [if_neg (by rw [hc]; simp), if_pos hok]
theorem rt_text {d : Dc} (hd : rt d = true) (h : 0 < d.t.size) : d.k = 1 := by
  cases rt_of hd with
  | text t hq => rfl
  | brk m hq => exact absurd h (by show ¬ (0 < bE.size); decide)
  | beg m e hq => exact absurd h (by show ¬ (0 < bE.size); decide)
  | blank => exact absurd h (by show ¬ (0 < bE.size); decide)
  | hard => exact absurd h (by show ¬ (0 < bE.size); decide)
  | empty => exact absurd h (by show ¬ (0 < bE.size); decide)
  | «end» => exact absurd h (by show ¬ (0 < bE.size); decide)
def Q9 (R : (Nat → Prop) → World → Nat → Nat → S9 → Prop) (W0 V : World) (g N : Nat) (va : Value) (A : List Dc) (k dp : Nat) : Prop := ∃ own s, B9 R W0 V own g N s va A ∧ Sin N (A.take k) s ∧ Bud s (uds (A.take k)) k ∧ s.dp = dp

set_option maxHeartbeats 4000000 in
set_option maxRecDepth 100000 in
theorem soon9_any {R : (Nat → Prop) → World → Nat → Nat → S9 → Prop} (hC : Ctr R) (n : Int) (ao : Option Addr) (l : List Dc) (cap : Nat) (W : World) (hL : Lay W ao l) (hnil : ao = none → l.length = 0) (hT : Tab W) (hlen : l.length ≤ 200000) (hs : lsum l ≤ 1048576) :
    Calls Tryz.prog 7 #[.int .i64 n, .slice ao l.length cap] W fun e w' => e = .returned (.bool true) ∧ Below W.heap.size W w' := by
  have HC : Hid (Ctr R) := hC
  have HT : Hid (Tab W) := hT
  have hU : uds l ≤ 268435456 := by have := uds_lsum l; omega
  have hcb := clo_bd l
  have hf := clo_ok l
  have KA : Hid (∀ V, Below W.heap.size W V → Calls Tryz.prog 9 #[] V fun e w' => e = .returned (.bool true) ∧ Below V.heap.size V w') := fun V hV => awake9_any HC.out V (HT.out.below hV)
  have K5 : Hid (∀ V, Below W.heap.size W V → Calls Tryz.prog 13 #[.slice ao l.length cap, .slice none 0 0] V fun e w' => ∃ v, e = .returned v ∧ Rp V.heap.size w' v (clo l) ∧ Below V.heap.size V w') := fun V hV => by
    have := closed_any ao none l [] cap 0 V (hL.below hV) (fun j d h => by simp at h) hnil (fun _ => rfl) (by simp; omega)
    rw [List.append_nil] at this
    exact this
  obtain ⟨A, hA⟩ : ∃ A, clo l = A := ⟨_, rfl⟩
  rw [hA] at K5 hcb hf
  have hrt := frm_rt A 0 0 hf
  have hsz : ∀ d ∈ A, d.t.size ≤ 65535 := fun d hd => rt_sq (hrt d hd)
  have hAl : A.length ≤ 400000 := by omega
  have hAu : uds A ≤ 268435456 := by omega
  have HF : Hid (frm 0 0 A = none ∧ ∀ d ∈ A, d.t.size ≤ 65535) := ⟨hf, hsz⟩
  clear hL hnil hC hT hs hU hcb hf hA hrt hsz
  by_cases hn : n < 1 ∨ 4096 < n
  · have HN : Hid (n < 1 ∨ 4096 < n) := hn
    clear hn
    go_enter Tryz.func7, Tryz.ntmps7
    go_wp2_with fail
    refine (HC.out.bad n W HN.out HT.out).mono ?_
    rintro e w2 ⟨rfl, hb2⟩
    go_wp2_with (go_at_call 9; refine (KA.out _ hb2).mono ?_; rintro e w4 ⟨rfl, hb4⟩; have H4 : Hid (Below W.heap.size W w4) := hb2.trans (hb4.mono hb2.size); clear hb4)
    go_ret
    exact ⟨rfl, H4.out⟩
  · obtain ⟨N, hN⟩ : ∃ N : Nat, n = (N : Int) := ⟨n.toNat, by omega⟩
    subst hN
    have hN1 : 1 ≤ N := by omega
    have hN2 : N ≤ 4096 := by omega
    clear hn
    go_enter Tryz.func7, Tryz.ntmps7
    go_wp2_with fail
    refine (new9 HC.out N hN1 hN2 W W HT.out (Below.refl _ _)).mono ?_
    rintro e w2 ⟨g, own, rfl, hA2, ho2, hb2⟩
    have H2 : Hid (A9 R W w2 own g N s90) := hA2
    clear hA2 ho2 hb2
    go_wp2_with fail
    refine (K5.out w2 H2.out.be).mono ?_
    rintro e w3 ⟨v, rfl, hr3, hb3⟩
    obtain ⟨p1, c1, rfl, _, _⟩ := hr3.shape
    have H3 : Hid (Q9 R W w3 g N (.slice p1 A.length c1) A 0 0) := by
      have hs2 := H2.out.be.size
      refine ⟨own, s90, ⟨H2.out.below HC.out hb3, ⟨hr3.1, ?_⟩, fun q hq => H2.out.en.nf q (World.ownsRow.lt hr3 q hq).1⟩, by rw [List.take_zero]; exact sin0 N, by rw [List.take_zero]; exact Bud.zero, rfl⟩
      rcases hr3.2 with h | ⟨q, c, cur, e1, e2, e3⟩
      · exact .inl h
      · exact .inr ⟨q, c, cur, e1, Nat.le_trans hs2 e2, e3⟩
    clear hr3 hb3 H2 K5
    go_wp2_with fail
    go_loopw [8, 9] (fun o i wr => ∃ (k dp : Nat), k ≤ A.length ∧ i = .int .i64 k ∧ o = .int .i64 dp ∧ dp ≤ k ∧ Hid (Q9 R W wr g N (.slice p1 A.length c1) A k dp)) (fun _ i _ => A.length - (intOf i).toNat)
    case atStart => exact ⟨0, 0, Nat.zero_le _, rfl, rfl, Nat.le_refl _, H3.out⟩
    case round =>
      obtain ⟨k, dp, hk, rfl, rfl, hdk, HI⟩ := hrel
      obtain ⟨own2, s, h9, hsin, hbu, hdp⟩ := HI.out
      obtain ⟨hz, hat⟩ := clo_at HF.out.1 hsin hk
      have huk : uds (A.take k) ≤ 268435456 := by have := uds_take A k; omega
      by_cases hlt : k < A.length
      · have q1 : (k : Int) < A.length := by omega
        have q2 : (0 : Int) ≤ k := by omega
        obtain ⟨d, hd⟩ : ∃ d, A[k]? = some d := ⟨_, List.getElem?_eq_getElem hlt⟩
        have htk : A.take (k + 1) = A.take k ++ [d] := by rw [List.take_add_one, hd]; rfl
        have hsz9 : ∀ d ∈ A, d.t.size ≤ 9223372036854775807 := fun d hd => by have := HF.out.2 d hd; omega
        obtain ⟨ao2, cap2, hv2, _, hL2, _, _, _⟩ := Lay.row h9.rf hsz9
        simp only [Value.slice.injEq] at hv2
        obtain ⟨rfl, _, rfl⟩ := hv2
        obtain ⟨ht, b, off, rfl, c0, c1', c2, c3, c4⟩ := hL2 k d hd
        have hok := hat d hd
        obtain ⟨he0, hsin'⟩ := sin_put hN2 hsin hok
        have hbu' := hbu.put (N := N) d
        have hud : uds (A.take k) + ud d = uds (A.take (k + 1)) := by rw [htk, uds_snoc]
        have huk2 : uds (A.take (k + 1)) ≤ 268435456 := by have := uds_take A (k + 1); omega
        rw [hud] at hbu'
        rw [← htk] at hsin'
        have KP9 := h9.a9.put HC.out hN2 hbu d ht (by omega) (by omega)
        rw [he0] at KP9
        have hdp' := put_dp (N := N) hsin.cl hok
        have hfar : (d.k = 4 ∨ hasF d.t = true) → (s.put N d).1.wt = [] := by
          intro h
          rcases h with h4 | h10
          · exact put_far hN2 hsin.cl hok (by unfold pw; rw [if_neg (by omega), if_neg (by omega), if_neg (by omega), if_pos (.inl h4)]; omega) ⟨by omega, by omega, by omega⟩
          · have h0 : 0 < d.t.size := by
              rcases Nat.eq_zero_or_pos d.t.size with e | e
              · exfalso
                unfold hasF at h10
                have hm := of_decide_eq_true h10
                have : lsb d.t = [] := List.eq_nil_of_length_eq_zero (by rw [ls_len]; exact e)
                rw [show d.t.data.toList = lsb d.t from rfl, this] at hm
                cases hm
              · exact e
            have h1 := rt_text hok.1 h0
            exact put_far hN2 hsin.cl hok (by unfold pw; rw [if_pos h1, if_pos h10]; omega) ⟨by omega, by omega, by omega⟩
        obtain ⟨s', hs'⟩ : ∃ s', (s.put N d).1 = s' := ⟨_, rfl⟩
        rw [hs'] at KP9 hsin' hbu' hdp' hfar
        rw [hdp] at hdp'
        obtain ⟨TL, hTL⟩ : ∃ TL : ByteArray, ⟨(s.told s').toArray⟩ = TL := ⟨_, rfl⟩
        rw [hTL] at KP9
        obtain ⟨dp', hdpe⟩ : ∃ dp', dn d.k dp = dp' := ⟨_, rfl⟩
        rw [hdpe] at hdp'
        have HP9 : Hid (Calls Tryz.prog 15 #[.pointer (some ⟨g, 0, none⟩), .agg #[.int .u8 d.k, .string d.t, .int .i64 d.b, .int .i64 d.i, .bool d.e]] wr fun e w' => e = .returned (.tuple #[.string TL, .int .i64 0]) ∧ Hid (∃ own', B9 R W w' own' g N s' (.slice (some ⟨b, off, none⟩) A.length c1) A)) := by
          refine KP9.mono ?_
          rintro e w' ⟨rfl, own', a1, a2⟩
          exact ⟨rfl, own', h9.sd a1 a2⟩
        have HQ9 : Hid (∀ V, Hid (∃ own', B9 R W V own' g N s' (.slice (some ⟨b, off, none⟩) A.length c1) A) → Q9 R W V g N (.slice (some ⟨b, off, none⟩) A.length c1) A (k + 1) dp') := fun V hV => by
          obtain ⟨own', h⟩ := hV.out
          exact ⟨own', s', h, hsin', hbu', hdp'⟩
        have hwl : s'.wt.length ≤ 100000000 := by have := hsin'.len; rw [List.length_take] at this; omega
        have HH9 : Hid ((d.k = 4 ∨ hasF d.t = true) → ∀ V, Hid (∃ own', B9 R W V own' g N s' (.slice (some ⟨b, off, none⟩) A.length c1) A) → Calls Tryz.prog 16 #[.pointer (some ⟨g, 0, none⟩)] V fun e w' => e = .returned (.int .i64 0) ∧ Hid (∃ own', B9 R W w' own' g N s' (.slice (some ⟨b, off, none⟩) A.length c1) A)) := fun hh V hV => by
          obtain ⟨own', h⟩ := hV.out
          refine (h.a9.held HC.out hwl).mono ?_
          rintro e w' ⟨rfl, a1, a2⟩
          exact ⟨by rw [hfar hh]; rfl, own', h.below HC.out a2⟩
        have HLY : Hid (∀ V, Hid (∃ own', B9 R W V own' g N s' (.slice (some ⟨b, off, none⟩) A.length c1) A) → V.cell? ⟨b, off + k * 5, none⟩ = some (.int .u8 d.k) ∧ V.cell? ⟨b, off + k * 5 + 1, none⟩ = some (.string d.t)) := by
          intro V hV
          obtain ⟨own', h⟩ := hV.out
          obtain ⟨ao2, cap2, hv2, _, hL2, _, _, _⟩ := Lay.row h.rf hsz9
          simp only [Value.slice.injEq] at hv2
          obtain ⟨rfl, _, _⟩ := hv2
          obtain ⟨_, b', off', eb, x0, x1, _⟩ := hL2 k d hd
          simp only [Option.some.injEq, Addr.mk.injEq, and_true] at eb
          obtain ⟨rfl, rfl⟩ := eb
          exact ⟨x0, x1⟩
        have hk7 := hok.2
        rw [hdp] at hk7
        have hts := HF.out.2 d (List.mem_of_getElem? hd)
        clear HI h9 hsin hbu hz hat hd htk hL2 he0 hsin' hbu' hud KP9 hs' hTL huk huk2 hok hdp hdp' hfar hwl ht
        obtain ⟨dk, dt, db, di, de⟩ := d
        simp only at c0 c1' c2 c3 c4 HP9 HH9 HLY hk7 hdpe hts
        by_cases h6 : dk = 6
        · subst h6
          have e6 : dp' = dp + 1 := hdpe.symm
          subst e6
          go_wp2_with (go_at_call 15; refine HP9.out.mono ?_; rintro e w5 ⟨rfl, K5⟩; obtain ⟨x0, x1⟩ := HLY.out _ K5)
          obtain ⟨wq, eq⟩ : ∃ wq, wq = w5 := ⟨w5, rfl⟩
          rw [← eq] at K5 ⊢
          clear eq
          go_loopw [13] (fun i wz => ∃ (j : Nat), j ≤ dt.size ∧ i = .int .i64 j ∧ Hid (∃ own', B9 R W wz own' g N s' (.slice (some ⟨b, off, none⟩) A.length c1) A)) (fun i _ => dt.size - (intOf i).toNat)
          case atStart => exact ⟨0, Nat.zero_le _, rfl, K5.out⟩
          case round =>
            obtain ⟨j, hj, rfl, KJ⟩ := hrel
            by_cases hlj : j < dt.size
            · have r1 : (j : Int) < dt.size := by omega
              have r2 : (0 : Int) ≤ j := by omega
              obtain ⟨c, hc⟩ : ∃ c, dt[j] = c := ⟨_, rfl⟩
              by_cases h10 : c = 10
              · subst h10
                have hF : hasF dt = true := by
                  unfold hasF
                  have := at_ls' dt j hlj
                  rw [hc] at this
                  exact decide_eq_true (List.mem_of_getElem? this)
                go_wp2_with (go_at_call 16; refine (HH9.out (.inr hF) _ KJ).mono ?_; rintro e w7 ⟨rfl, K7⟩)
                exact ⟨⟨j + 1, hlj, by go_num, K7.out⟩, by simp [intOf]; omega⟩
              · have n10 := u8_ne c 10 h10
                have n10' : ((c.toNat : Int) == 10) = false := n10
                go_wp2_with fail
                exact ⟨⟨j + 1, hlj, by go_num, KJ.out⟩, by simp [intOf]; omega⟩
            · obtain rfl : j = dt.size := by omega
              have r1 : ¬ ((dt.size : Int) < dt.size) := by omega
              have HE := HQ9.out _ KJ
              have HEE : Hid (Q9 R W wr g N (.slice (some ⟨b, off, none⟩) A.length c1) A (k + 1) (dp + 1)) := HE
              clear HE
              go_wp2_with fail
              exact ⟨⟨k + 1, (dp + 1), hlt, by go_num, by first | rfl | go_num, by omega, HEE.out⟩, by simp [intOf]; omega⟩
        by_cases h7 : dk = 7
        · subst h7
          have hd0 : dp ≠ 0 := fun e => hk7 ⟨rfl, e⟩
          obtain ⟨dq, rfl⟩ : ∃ dq, dp = dq + 1 := ⟨dp - 1, by omega⟩
          have e7 : dp' = dq := hdpe.symm
          subst e7
          go_wp2_with (go_at_call 15; refine HP9.out.mono ?_; rintro e w5 ⟨rfl, K5⟩; obtain ⟨x0, x1⟩ := HLY.out _ K5)
          obtain ⟨wq, eq⟩ : ∃ wq, wq = w5 := ⟨w5, rfl⟩
          rw [← eq] at K5 ⊢
          clear eq
          go_loopw [13] (fun i wz => ∃ (j : Nat), j ≤ dt.size ∧ i = .int .i64 j ∧ Hid (∃ own', B9 R W wz own' g N s' (.slice (some ⟨b, off, none⟩) A.length c1) A)) (fun i _ => dt.size - (intOf i).toNat)
          case atStart => exact ⟨0, Nat.zero_le _, rfl, K5.out⟩
          case round =>
            obtain ⟨j, hj, rfl, KJ⟩ := hrel
            by_cases hlj : j < dt.size
            · have r1 : (j : Int) < dt.size := by omega
              have r2 : (0 : Int) ≤ j := by omega
              obtain ⟨c, hc⟩ : ∃ c, dt[j] = c := ⟨_, rfl⟩
              by_cases h10 : c = 10
              · subst h10
                have hF : hasF dt = true := by
                  unfold hasF
                  have := at_ls' dt j hlj
                  rw [hc] at this
                  exact decide_eq_true (List.mem_of_getElem? this)
                go_wp2_with (go_at_call 16; refine (HH9.out (.inr hF) _ KJ).mono ?_; rintro e w7 ⟨rfl, K7⟩)
                exact ⟨⟨j + 1, hlj, by go_num, K7.out⟩, by simp [intOf]; omega⟩
              · have n10 := u8_ne c 10 h10
                have n10' : ((c.toNat : Int) == 10) = false := n10
                go_wp2_with fail
                exact ⟨⟨j + 1, hlj, by go_num, KJ.out⟩, by simp [intOf]; omega⟩
            · obtain rfl : j = dt.size := by omega
              have r1 : ¬ ((dt.size : Int) < dt.size) := by omega
              have HE := HQ9.out _ KJ
              have HEE : Hid (Q9 R W wr g N (.slice (some ⟨b, off, none⟩) A.length c1) A (k + 1) dp') := HE
              clear HE
              go_wp2_with fail
              exact ⟨⟨k + 1, dp', hlt, by go_num, by first | rfl | go_num, by omega, HEE.out⟩, by simp [intOf]; omega⟩
        have edn : dp' = dp := by rw [← hdpe]; unfold dn; rw [if_neg h6, if_neg h7]
        subst edn
        have k6 : (dk == 6) = false := by simpa using h6
        have k7 : (dk == 7) = false := by simpa using h7
        by_cases h4 : dk = 4
        · subst h4
          by_cases hz : dp' = 0
          · subst hz
            go_wp2_with (first | (go_at_call 15; refine HP9.out.mono ?_; rintro e w5 ⟨rfl, K5⟩; obtain ⟨x0, x1⟩ := HLY.out _ K5) | (go_at_call 16; refine (HH9.out (by simp) w5 K5).mono ?_; rintro e w6 ⟨rfl, K6⟩; obtain ⟨z0, z1⟩ := HLY.out _ K6))
            obtain ⟨wq, eq⟩ : ∃ wq, wq = w6 := ⟨w6, rfl⟩
            rw [← eq] at K6 ⊢
            clear eq
            go_loopw [13] (fun i wz => ∃ (j : Nat), j ≤ dt.size ∧ i = .int .i64 j ∧ Hid (∃ own', B9 R W wz own' g N s' (.slice (some ⟨b, off, none⟩) A.length c1) A)) (fun i _ => dt.size - (intOf i).toNat)
            case atStart => exact ⟨0, Nat.zero_le _, rfl, K6.out⟩
            case round =>
              obtain ⟨j, hj, rfl, KJ⟩ := hrel
              by_cases hlj : j < dt.size
              · have r1 : (j : Int) < dt.size := by omega
                have r2 : (0 : Int) ≤ j := by omega
                obtain ⟨c, hc⟩ : ∃ c, dt[j] = c := ⟨_, rfl⟩
                by_cases h10 : c = 10
                · subst h10
                  have hF : hasF dt = true := by
                    unfold hasF
                    have := at_ls' dt j hlj
                    rw [hc] at this
                    exact decide_eq_true (List.mem_of_getElem? this)
                  go_wp2_with (go_at_call 16; refine (HH9.out (.inr hF) _ KJ).mono ?_; rintro e w7 ⟨rfl, K7⟩)
                  exact ⟨⟨j + 1, hlj, by go_num, K7.out⟩, by simp [intOf]; omega⟩
                · have n10 := u8_ne c 10 h10
                  have n10' : ((c.toNat : Int) == 10) = false := n10
                  go_wp2_with fail
                  exact ⟨⟨j + 1, hlj, by go_num, KJ.out⟩, by simp [intOf]; omega⟩
              · obtain rfl : j = dt.size := by omega
                have r1 : ¬ ((dt.size : Int) < dt.size) := by omega
                have HE := HQ9.out _ KJ
                have HEE : Hid (Q9 R W wr g N (.slice (some ⟨b, off, none⟩) A.length c1) A (k + 1) 0) := HE
                clear HE
                go_wp2_with fail
                exact ⟨⟨k + 1, 0, hlt, by go_num, by first | rfl | go_num, by omega, HEE.out⟩, by simp [intOf]; omega⟩
          · have q5 : ((dp' : Int) == 0) = false := by simp; omega
            have q6 : ¬ ((dp' : Int) = 0) := by omega
            go_wp2_with (go_at_call 15; refine HP9.out.mono ?_; rintro e w5 ⟨rfl, K5⟩; obtain ⟨x0, x1⟩ := HLY.out _ K5)
            obtain ⟨wq, eq⟩ : ∃ wq, wq = w5 := ⟨w5, rfl⟩
            rw [← eq] at K5 ⊢
            clear eq
            go_loopw [13] (fun i wz => ∃ (j : Nat), j ≤ dt.size ∧ i = .int .i64 j ∧ Hid (∃ own', B9 R W wz own' g N s' (.slice (some ⟨b, off, none⟩) A.length c1) A)) (fun i _ => dt.size - (intOf i).toNat)
            case atStart => exact ⟨0, Nat.zero_le _, rfl, K5.out⟩
            case round =>
              obtain ⟨j, hj, rfl, KJ⟩ := hrel
              by_cases hlj : j < dt.size
              · have r1 : (j : Int) < dt.size := by omega
                have r2 : (0 : Int) ≤ j := by omega
                obtain ⟨c, hc⟩ : ∃ c, dt[j] = c := ⟨_, rfl⟩
                by_cases h10 : c = 10
                · subst h10
                  have hF : hasF dt = true := by
                    unfold hasF
                    have := at_ls' dt j hlj
                    rw [hc] at this
                    exact decide_eq_true (List.mem_of_getElem? this)
                  go_wp2_with (go_at_call 16; refine (HH9.out (.inr hF) _ KJ).mono ?_; rintro e w7 ⟨rfl, K7⟩)
                  exact ⟨⟨j + 1, hlj, by go_num, K7.out⟩, by simp [intOf]; omega⟩
                · have n10 := u8_ne c 10 h10
                  have n10' : ((c.toNat : Int) == 10) = false := n10
                  go_wp2_with fail
                  exact ⟨⟨j + 1, hlj, by go_num, KJ.out⟩, by simp [intOf]; omega⟩
              · obtain rfl : j = dt.size := by omega
                have r1 : ¬ ((dt.size : Int) < dt.size) := by omega
                have HE := HQ9.out _ KJ
                have HEE : Hid (Q9 R W wr g N (.slice (some ⟨b, off, none⟩) A.length c1) A (k + 1) dp') := HE
                clear HE
                go_wp2_with fail
                exact ⟨⟨k + 1, dp', hlt, by go_num, by first | rfl | go_num, by omega, HEE.out⟩, by simp [intOf]; omega⟩
        have k4 : (dk == 4) = false := by simpa using h4
        go_wp2_with (go_at_call 15; refine HP9.out.mono ?_; rintro e w5 ⟨rfl, K5⟩; obtain ⟨x0, x1⟩ := HLY.out _ K5)
        obtain ⟨wq, eq⟩ : ∃ wq, wq = w5 := ⟨w5, rfl⟩
        rw [← eq] at K5 ⊢
        clear eq
        go_loopw [13] (fun i wz => ∃ (j : Nat), j ≤ dt.size ∧ i = .int .i64 j ∧ Hid (∃ own', B9 R W wz own' g N s' (.slice (some ⟨b, off, none⟩) A.length c1) A)) (fun i _ => dt.size - (intOf i).toNat)
        case atStart => exact ⟨0, Nat.zero_le _, rfl, K5.out⟩
        case round =>
          obtain ⟨j, hj, rfl, KJ⟩ := hrel
          by_cases hlj : j < dt.size
          · have r1 : (j : Int) < dt.size := by omega
            have r2 : (0 : Int) ≤ j := by omega
            obtain ⟨c, hc⟩ : ∃ c, dt[j] = c := ⟨_, rfl⟩
            by_cases h10 : c = 10
            · subst h10
              have hF : hasF dt = true := by
                unfold hasF
                have := at_ls' dt j hlj
                rw [hc] at this
                exact decide_eq_true (List.mem_of_getElem? this)
              go_wp2_with (go_at_call 16; refine (HH9.out (.inr hF) _ KJ).mono ?_; rintro e w7 ⟨rfl, K7⟩)
              exact ⟨⟨j + 1, hlj, by go_num, K7.out⟩, by simp [intOf]; omega⟩
            · have n10 := u8_ne c 10 h10
              have n10' : ((c.toNat : Int) == 10) = false := n10
              go_wp2_with fail
              exact ⟨⟨j + 1, hlj, by go_num, KJ.out⟩, by simp [intOf]; omega⟩
          · obtain rfl : j = dt.size := by omega
            have r1 : ¬ ((dt.size : Int) < dt.size) := by omega
            have HE := HQ9.out _ KJ
            have HEE : Hid (Q9 R W wr g N (.slice (some ⟨b, off, none⟩) A.length c1) A (k + 1) dp') := HE
            clear HE
            go_wp2_with fail
            exact ⟨⟨k + 1, dp', hlt, by go_num, by first | rfl | go_num, by omega, HEE.out⟩, by simp [intOf]; omega⟩
      · obtain rfl : k = A.length := by omega
        have q1 : ¬ ((A.length : Int) < A.length) := by omega
        have HB : Hid (Below W.heap.size W wr) := h9.a9.be
        clear HI h9 hsin hbu hz hat huk hdp
        go_wp2_with (go_at_call 9; refine (KA.out _ HB.out).mono ?_; rintro e w4 ⟨rfl, hb4⟩; have H4 : Hid (Below W.heap.size W w4) := HB.out.trans (hb4.mono HB.out.size); clear hb4)
        go_ret
        exact ⟨rfl, H4.out⟩
end Go.Proofs.YtmjhfabdbajchaaGreatDoor
