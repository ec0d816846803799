import Derived.Test.YtkglkhijngpgiaaLg
set_option linter.unusedVariables false
set_option linter.unusedSimpArgs false
namespace Go.Proofs.Ytkglkhijngpgiaa
open Go.RowKit

theorem ev_cells {W : World} {v : Value} {E : List Ev} (h : Re W v E) {i : Nat} {e : Ev} (hi : E[i]? = some e) : ∃ b cap, v = .slice (some ⟨b, 0, none⟩) E.length cap ∧ b < W.heap.size ∧ W.cell? ⟨b, i * 8, none⟩ = some (.int .u8 e.k) ∧ W.cell? ⟨b, i * 8 + 1, none⟩ = some (.int .u8 e.n) ∧ W.cell? ⟨b, i * 8 + 2, none⟩ = some (.int .u8 e.d.k) ∧ W.cell? ⟨b, i * 8 + 3, none⟩ = some (.string e.d.t) ∧ W.cell? ⟨b, i * 8 + 4, none⟩ = some (.int .i64 e.d.a) ∧ W.cell? ⟨b, i * 8 + 5, none⟩ = some (.int .i64 e.d.l) ∧ W.cell? ⟨b, i * 8 + 6, none⟩ = some (.int .i64 e.d.c) ∧ W.cell? ⟨b, i * 8 + 7, none⟩ = some (.int .i64 e.d.f) := by
  have hil := (List.getElem?_eq_some_iff.1 hi).1
  rcases h.2 with ⟨_, h0⟩ | ⟨b, cap, cur, rfl, _, h2, _⟩
  · omega
  · have hc : ∀ (k : Nat) (u : Value), (ecs E)[k]? = some u → W.cell? ⟨b, k, none⟩ = some u := fun k u hu => by
      have := World.ownsRow.cells h (g := b) rfl k u hu
      rw [Addr.add_lit, Nat.zero_add] at this
      exact this
    exact ⟨b, cap, rfl, blk_lt h2, hc _ _ (flat_at Ev.cs 8 Ev.cs_len E i 0 e _ hi rfl), hc _ _ (flat_at Ev.cs 8 Ev.cs_len E i 1 e _ hi rfl), hc _ _ (flat_at Ev.cs 8 Ev.cs_len E i 2 e _ hi rfl), hc _ _ (flat_at Ev.cs 8 Ev.cs_len E i 3 e _ hi rfl), hc _ _ (flat_at Ev.cs 8 Ev.cs_len E i 4 e _ hi rfl), hc _ _ (flat_at Ev.cs 8 Ev.cs_len E i 5 e _ hi rfl), hc _ _ (flat_at Ev.cs 8 Ev.cs_len E i 6 e _ hi rfl), hc _ _ (flat_at Ev.cs 8 Ev.cs_len E i 7 e _ hi rfl)⟩

theorem alr_len : ∀ (l : List Tv) (st : St) (E : List Ev) (code : Int) (k : Nat), Good st → Alr st l E code k → E.length ≤ 30000 * l.length + 1
  | [], st, E, code, k, hg, h => by
    have h1 := h.end.1
    cases h1 <;> simp
  | t :: l, st, E, code, k, hg, h => by
    rcases h.inv with ⟨ev, st', hp, hc, rfl, rfl⟩ | ⟨ev, st', E2, k2, hp, hR2, rfl, rfl⟩
    · simp
    · have h1 := put_keep hg hp
      have h2 := alr_len l st' E2 code k2 h1.1 hR2
      simp
      have := h1.2.1
      omega
/-- Between two rounds. -/
structure NI (w : World) (ao : Option Addr) (l : List Tv) (v : Value) (E : List Ev) (s : List Int × Nat) (i k : Nat) (op : List Int) (vo : Value) (W : World) : Prop where
  bel : Below w.heap.size w W
  re : Re W v E
  vB : ∀ k, v.ownBlock = some k → w.heap.size ≤ k
  rn : Rn W vo op.reverse
  oB : ∀ k, vo.ownBlock = some k → w.heap.size ≤ k
  run : nrun l i (E.drop i) (op, k) = some s
  le : op.length ≤ 1000
  kl : k ≤ l.length

theorem NI.keep {w : World} {ao : Option Addr} {l : List Tv} {v : Value} {E : List Ev} {s : List Int × Nat} {i k : Nat} {op : List Int} {vo : Value} {W W' : World} (h : NI w ao l v E s i k op vo W) (hb : Below W.heap.size W W') {j k' : Nat} {op' : List Int} {vo' : Value} (hr : Rn W' vo' op'.reverse) (ho : ∀ k, vo'.ownBlock = some k → w.heap.size ≤ k) (hn : nrun l j (E.drop j) (op', k') = some s) (hl : op'.length ≤ 1000) (hk : k' ≤ l.length) : NI w ao l v E s j k' op' vo' W' :=
  ⟨h.bel.trans (hb.mono h.bel.size), h.re.below hb, h.vB, hr, ho, hn, hl, hk⟩
theorem NI.push {w : World} {ao : Option Addr} {l : List Tv} {v : Value} {E : List Ev} {s : List Int × Nat} {i k : Nat} {op : List Int} {vo : Value} {W W1 w3 : World} (h : NI w ao l v E s i k op vo W) (hb : Below W.heap.size W W1) {en : Int} {vo' : Value} (hr : Rn w3 vo' (op.reverse ++ [en])) (hg : W1.grownBy w3 vo.ownBlock) (hq : Nb W1 vo vo') (hn : nrun l (i + 1) (E.drop (i + 1)) (en :: op, k) = some s) (hl : (en :: op).length ≤ 1000) : NI w ao l v E s (i + 1) k (en :: op) vo' w3 := by
  have hre := h.re.below hb
  have hk3 := Kp.of_grown hg
  have hne : ∀ k, v.ownBlock = some k → ¬ some k = vo.ownBlock := by
    intro q e1 e2
    have h1 := h.rn.below hb
    rcases h1.2 with ⟨e3, _⟩ | ⟨b, cap, cur, e3, _, h3, _⟩
    · rw [e3] at e2; cases e2
    · rw [e3] at e2
      simp only [Value.ownBlock, Option.some.injEq] at e2
      subst e2
      exact hre.ne h3 (by decide) q e1 rfl
  refine ⟨Kp.low (h.bel.trans (hb.mono h.bel.size)) hk3 (fun k e => h.oB k e.symm) (Nat.le_trans h.bel.size hb.size), hre.kp hk3 hne, h.vB, by simpa using hr, ?_, hn, hl, h.kl⟩
  intro q e
  rcases hq with e1 | ⟨r, e1, hr1⟩
  · exact h.oB q (by rw [← e1]; exact e)
  · rw [e1] at e
    simp at e
    have := h.bel.size
    have := hb.size
    omega

theorem below_dn {b : Nat} {w v : World} (h : Below b w v) : ∀ m, Below b w (v.drewN m)
  | 0 => h
  | m + 1 => (below_dn h m).drew
theorem nchk_close (l : List Tv) (i : Nat) (en : Int) (ed : Tv) (op : List Int) (k : Nat) : nchk l i ⟨3, en, ed⟩ (op, k) = (match op with | n :: r => if n = en ∧ ed = tv0 then some (r, k) else none | [] => none) := rfl
theorem nchk_tok (l : List Tv) (i : Nat) (ek en : Int) (ed : Tv) (op : List Int) (k : Nat) (s : List Int × Nat) (h1 : ¬ ek = 1) (h3 : ¬ ek = 3) (h : nchk l i ⟨ek, en, ed⟩ (op, k) = some s) : (ek = 2 ∨ ek = 4) ∧ l[k]? = some ed ∧ en = 0 ∧ (decide (ek = 4) = (ed.k == 7 || ed.k == 8)) ∧ op ≠ [] ∧ s = (op, k + 1) := by
  simp only [nchk, if_neg h1, if_neg h3] at h
  split at h
  · rename_i h2
    split at h
    · rename_i t ht
      split at h
      · rename_i hh
        obtain ⟨rfl, h4, h5, h6⟩ := hh
        cases h
        exact ⟨h2, ht, h4, h5, h6, rfl⟩
      · cases h
    · cases h
  · cases h

set_option maxRecDepth 100000 in
set_option maxHeartbeats 2000000 in
theorem nests_any (ao : Option Addr) (l : List Tv) (cap : Nat) (w : World) (hL : Lt w ao l) (hl : l.length ≤ 1048576) :
    Calls Try.prog 3 #[.slice ao l.length cap] w fun r w' => r = .returned (.bool true) ∧ Below w.heap.size w w' := by
  obtain ⟨E, code, kk, hA⟩ := alr_ex l (.live [] 0) good_new
  obtain ⟨s, hs, hend⟩ := nests_top hA
  have hEl : E.length ≤ 1000000000000 := by have := alr_len l _ E code kk good_new hA; omega
  have HA : Hid (∀ V, Below w.heap.size w V → Calls Try.prog 6 #[.slice ao l.length cap] V fun r w' => ∃ v, r = .returned (.tuple #[v, .int .i64 code, .int .i64 kk]) ∧ Re w' v E ∧ Below V.heap.size V w' ∧ (∀ k, v.ownBlock = some k → V.heap.size ≤ k)) := fun V hb => all_any ao l cap V (hL.below hb) hl hA
  have HL : Hid (Lt w ao l ∧ nrun l 0 E ([], 0) = some s ∧ NEnd l code kk s) := ⟨hL, hs, hend⟩
  have q0 : ¬ ((l.length : Int) > 1048576) := by omega
  clear hL hA hs hend
  go_enter Try.func3, Try.ntmps3
  go_wp2_with (go_at_call 5; refine (awake_any _).mono ?_; rintro r w1 ⟨rfl, hb1⟩)
  refine (HA.out _ hb1).mono ?_
  rintro r w2 ⟨v, rfl, hre, hb2, hvB⟩
  have HI : Hid (NI w ao l v E s 0 0 [] nilS w2) := ⟨hb1.trans (hb2.mono hb1.size), hre, fun k e => Nat.le_trans hb1.size (hvB k e), rn_nil _, (fun k e => by cases e), HL.out.2.1, Nat.zero_le _, Nat.zero_le _⟩
  obtain ⟨pv, cv, hv, _⟩ := hre.shape
  subst hv
  clear hre hb1 hb2 hvB HA
  go_wp2_with fail
  go_loopw [7, 8, 9, 10, 11] (fun vo kv iv _ _ wr => ∃ (i k : Nat) (op : List Int), i ≤ E.length ∧ kv = .int .i64 k ∧ iv = .int .i64 i ∧ Hid (NI w ao l (.slice pv E.length cv) E s i k op vo wr)) (fun _ _ iv _ _ _ => E.length - (intOf iv).toNat)
  case atStart => exact ⟨0, 0, [], Nat.zero_le _, rfl, rfl, HI⟩
  case round =>
    obtain ⟨i, k, op, hi, rfl, rfl, HJ⟩ := hrel
    obtain ⟨po, co, hvo, ho1, ho2⟩ := HJ.out.rn.shape
    rw [List.length_reverse] at hvo ho1
    subst hvo
    by_cases hlt : i < E.length
    · have q1 : (i : Int) < E.length := by omega
      have q2 : (0 : Int) ≤ i := by omega
      obtain ⟨e, he⟩ : ∃ e, E[i]? = some e := ⟨_, List.getElem?_eq_getElem hlt⟩
      obtain ⟨b, cp, hbe, hbl, x0, x1, x2, x3, x4, x5, x6, x7⟩ := ev_cells HJ.out.re he
      cases hbe
      have hdr : E.drop i = e :: E.drop (i + 1) := by
        obtain ⟨a1, a2⟩ := List.getElem?_eq_some_iff.1 he
        rw [List.drop_eq_getElem_cons a1, a2]
      have hrun := HJ.out.run
      rw [hdr] at hrun
      simp only [nrun] at hrun
      cases hc : nchk l i e (op, k) with
      | none => rw [hc] at hrun; cases hrun
      | some s1 =>
        rw [hc] at hrun
        simp only at hrun
        by_cases hle : s1.1.length ≤ 1000
        · rw [if_pos hle] at hrun
          obtain ⟨ek, en, ed⟩ := e
          by_cases h1 : ek = 1
          · subst h1
            simp only [nchk, if_true] at hc
            split at hc
            · rename_i hh
              obtain ⟨rfl, hin⟩ := hh
              cases hc
              have q3 : ((i : Int) == 0) = (en == 1) := by
                rw [Bool.eq_iff_iff]; simp only [beq_iff_eq]
                have := decide_eq_decide.1 hin
                omega
              have HRN : Hid (∀ V, Below wr.heap.size wr V → Rn V (.slice po op.length co) op.reverse) := fun V hb => HJ.out.rn.below hb
              have HN : Hid (∀ W1 w3 vo', Below wr.heap.size wr W1 → Rn w3 vo' (op.reverse ++ [en]) → W1.grownBy w3 (Value.slice po op.length co).ownBlock → Nb W1 (Value.slice po op.length co) vo' → NI w ao l (.slice (some ⟨b, 0, none⟩) E.length cv) E s (i + 1) k (en :: op) vo' w3) := fun W1 w3 vo' hb h1 h2 h3 => by
                exact HJ.out.push hb h1 h2 h3 hrun hle
              have q7 : ¬ (((op.length + 1 : Nat) : Int) > 1000) := by simp at hle; omega
              have hol : op.length ≤ 1000 := HJ.out.le
              have hB2 : ∀ o1 o2, Below wr.heap.size wr ((wr.alloc o1).alloc o2) := fun o1 o2 => (below_new _ _).alloc (by rw [World.size_alloc]; exact Nat.le_succ _) _
              have HB2 : Hid (∀ o1 o2, Below wr.heap.size wr ((wr.alloc o1).alloc o2)) := hB2
              have hsn : (wr.alloc (.cells #[.int .u8 1, .int .u8 en, .int .u8 0, .string ⟨#[]⟩, .int .i64 0, .int .i64 0, .int .i64 0, .int .i64 0] 37)).heap.size = wr.heap.size + 1 := World.size_alloc _ _
              have HNW : Hid (∀ o, ((wr.alloc (.cells #[.int .u8 1, .int .u8 en, .int .u8 0, .string ⟨#[]⟩, .int .i64 0, .int .i64 0, .int .i64 0, .int .i64 0] 37)).alloc o).heap[wr.heap.size + 1]? = some o) := fun o => by rw [← hsn]; exact new_at _ _
              clear hin hrun hle HI hdr he hB2 hsn
              dsimp only [tv0] at *
              go_wp2_with (at_builtin; refine app_nd (by rfl) _ _ (by rfl) (.slice po op.length co) op.reverse en (by rfl) (HRN.out _ (HB2.out _ _)) (wr.heap.size + 1) 1 (by rfl) (HNW.out _) (by simp; omega) ?_; intro vo' w3 h1 h2 h3; have H3 : Hid (NI w ao l (.slice (some ⟨b, 0, none⟩) E.length cv) E s (i + 1) k (en :: op) vo' w3) := HN.out _ _ _ (HB2.out _ _) h1 h2 h3; obtain ⟨p3, c3, hv3, _⟩ := h1.shape; rw [List.length_append, List.length_reverse] at hv3; subst hv3; clear h1 h2 h3)
              exact ⟨⟨i + 1, k, en :: op, hlt, rfl, by go_num, H3⟩, by simp [intOf]; omega⟩
            · cases hc
          by_cases h3 : ek = 3
          · subst h3
            rw [nchk_close] at hc
            cases op with
            | nil => cases hc
            | cons n r =>
              simp only at hc
              split at hc
              · rename_i hh
                obtain ⟨rfl, rfl⟩ := hh
                cases hc
                have hrn := HJ.out.rn
                rw [List.reverse_cons] at hrn
                obtain ⟨b2, cp2, hv2, hcp, hcell, hb2, hrn2⟩ := hrn.last
                simp only [List.length_cons, List.length_reverse, Value.slice.injEq] at hv2 hcp hcell hrn2 HJ ⊢
                obtain ⟨rfl, _, rfl⟩ := hv2
                have hrl : r.length ≤ 1000 := hle
                have HN : Hid (∀ V, Below wr.heap.size wr V → NI w ao l (.slice (some ⟨b, 0, none⟩) E.length cv) E s (i + 1) k r (.slice (some ⟨b2, 0, none⟩) r.length co) V) := fun V hb => HJ.out.keep hb (hrn2.below hb) (fun k e => HJ.out.oB k e) hrun hle HJ.out.kl
                have q3 : (((r.length + 1 : Nat) : Int) == 0) = false := by rw [beq_eq_false_iff_ne]; omega
                have q4 : (((r.length + 1 : Nat) : Int) - 1) = (r.length : Int) := by omega
                have y0 : (0 : Int) ≤ r.length := by omega
                have y1 : (r.length : Int) < (r.length + 1 : Nat) := by omega
                have y3 : IntKind.i64.wrap (((r.length + 1 : Nat) : Int) - 1) = (r.length : Int) := by rw [IntKind.wrap_i64]; omega
                have y4 : r.length ≤ co := by omega
                have y5 : IntKind.i64.wrap (r.length : Int) = (r.length : Int) := by rw [IntKind.wrap_i64]; omega
                have y6 : ((r.length : Int) + 1 == 0) = false := by rw [beq_eq_false_iff_ne]; omega
                have y7 : (r.length : Int) < (r.length : Int) + 1 := by omega
                have q7 : ¬ ((r.length : Int) > 1000) := by omega
                clear hrun hle HI hdr he hrn hrn2
                dsimp only [tv0] at *
                go_wp2_with fail
                go_quiet (fail)
                go_wp2_with fail
                exact ⟨⟨i + 1, k, r, hlt, rfl, by go_num, HN.out _ (below_dn (below_new _ _) _)⟩, by simp [intOf]; omega⟩
              · cases hc
          obtain ⟨h24, hlk, rfl, hnk, hne, rfl⟩ := nchk_tok l i ek en ed op k s1 h1 h3 hc
          have hkl := (List.getElem?_eq_some_iff.1 hlk).1
          have hkp : k + 1 ≤ l.length := hkl
          obtain ⟨b3, off, rfl, c0, c1, c2, c3, c4, c5⟩ := (HL.out.1.below HJ.out.bel) k ed hlk
          have hb3 := World.block_lt_of_cell? _ _ c0
          have q3 : (k : Int) < l.length := by omega
          have q4 : (0 : Int) ≤ k := by omega
          have q5 : ¬ ((k : Int) ≥ l.length) := by omega
          have hol : op.length ≠ 0 := fun e => hne (List.eq_nil_of_length_eq_zero e)
          have q6 : ((op.length : Int) == 0) = false := by rw [beq_eq_false_iff_ne]; omega
          have q7 : ¬ ((op.length : Int) > 1000) := by have := HJ.out.le; omega
          have HN : Hid (∀ V, Below wr.heap.size wr V → NI w (some ⟨b3, off, none⟩) l (.slice (some ⟨b, 0, none⟩) E.length cv) E s (i + 1) (k + 1) op (.slice po op.length co) V) := fun V hb => HJ.out.keep hb (HJ.out.rn.below hb) (fun k e => HJ.out.oB k e) hrun hle hkp
          clear hrun hle HI hdr he hc hlk hne h1 h3
          obtain ⟨dk, dt, da, dl, dc, df⟩ := ed
          dsimp only at *
          rcases h24 with rfl | rfl
          · have z1 : (dk == 7) = false := by revert hnk; cases dk == 7 <;> cases dk == 8 <;> decide
            have z2 : (dk == 8) = false := by revert hnk; cases dk == 7 <;> cases dk == 8 <;> decide
            clear hnk
            go_wp2_with fail
            go_quiet (fail)
            go_wp2_with fail
            exact ⟨⟨i + 1, k + 1, op, hlt, by go_num, by go_num, HN.out _ (below_dn (below_new _ _) _)⟩, by simp [intOf]; omega⟩
          · by_cases z1 : dk = 7
            · subst z1
              clear hnk
              go_wp2_with fail
              go_quiet (fail)
              go_wp2_with fail
              exact ⟨⟨i + 1, k + 1, op, hlt, by go_num, by go_num, HN.out _ (below_dn (below_new _ _) _)⟩, by simp [intOf]; omega⟩
            · have z2 : dk = 8 := by
                have e1 : (dk == 7) = false := by rw [beq_eq_false_iff_ne]; exact z1
                rw [e1] at hnk
                simpa using hnk.symm
              subst z2
              clear hnk z1
              go_wp2_with fail
              go_quiet (fail)
              go_wp2_with fail
              exact ⟨⟨i + 1, k + 1, op, hlt, by go_num, by go_num, HN.out _ (below_dn (below_new _ _) _)⟩, by simp [intOf]; omega⟩
        · rw [if_neg hle] at hrun; cases hrun
    · obtain rfl : i = E.length := by omega
      have q1 : ¬ ((E.length : Int) < E.length) := by omega
      have hrun := HJ.out.run
      rw [List.drop_length] at hrun
      have hs : (op, k) = s := by simpa [nrun] using hrun
      obtain ⟨n1, n2⟩ := HL.out.2.2
      rw [← hs] at n1 n2
      have HB : Hid (Below w.heap.size w wr) := HJ.out.bel
      by_cases hcode : code = 0
      · obtain ⟨a1, a2⟩ := n2 hcode
        simp only at a1 a2
        subst a1 a2 hcode
        clear n1 n2 hrun hs HJ
        go_wp2_with fail
        go_ret
        exact ⟨rfl, HB.out⟩
      · obtain ⟨a1, a2, a3⟩ := n1 hcode
        simp only at a1
        subst a1
        have q5 : (code != 0) = true := by simpa using hcode
        clear n1 n2 hrun hs HJ hcode
        rcases a3 with rfl | rfl | rfl
        · obtain rfl := a2.1 rfl
          clear a2 q5
          go_wp2_with fail
          go_ret
          exact ⟨rfl, HB.out⟩
        · have q6 : ((k : Int) == (l.length : Int)) = false := by rw [beq_eq_false_iff_ne]; intro h; exact absurd (a2.2 (by omega)) (by decide)
          clear a2 q5
          go_wp2_with fail
          go_ret
          exact ⟨rfl, HB.out⟩
        · have q6 : ((k : Int) == (l.length : Int)) = false := by rw [beq_eq_false_iff_ne]; intro h; exact absurd (a2.2 (by omega)) (by decide)
          clear a2 q5
          go_wp2_with fail
          go_ret
          exact ⟨rfl, HB.out⟩

end Go.Proofs.Ytkglkhijngpgiaa
