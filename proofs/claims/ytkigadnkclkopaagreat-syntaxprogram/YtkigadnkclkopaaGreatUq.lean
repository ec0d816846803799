import Derived.Test.YtkigadnkclkopaaGreatU3
set_option linter.unusedVariables false
set_option linter.unusedSimpArgs false
namespace Go.Proofs.YtkigadnkclkopaaGreat
open Go.RowKit

/-! Between. -/
/-- Between two rounds: the row that is told. -/
structure yBI (W : World) (v : Value) (E : List Ev) (V : World) : Prop where
  bel : Below W.heap.size W V
  re : Re V v E
  vB : ∀ k, v.ownBlock = some k → W.heap.size ≤ k
theorem yBI.push {W V V1 w3 : World} {v v' : Value} {E : List Ev} {e : Ev} (h : yBI W v E V) (hb : Below V.heap.size V V1) (hr : Re w3 v' (E ++ [e])) (hg : V1.grownBy w3 v.ownBlock) (hq : Nb V1 v v') : yBI W v' (E ++ [e]) w3 := by
  have hk3 := Kp.of_grown hg
  refine ⟨kp_low (h.bel.trans (hb.mono h.bel.size)) hk3 (fun k e => h.vB k e.symm) (Nat.le_trans h.bel.size hb.size), hr, ?_⟩
  intro q e
  rcases hq with e1 | ⟨r, e1, hr1⟩
  · exact h.vB q (by rw [← e1]; exact e)
  · rw [e1] at e
    simp at e
    have := h.bel.size
    have := hb.size
    omega
theorem yBI.below {W V V' : World} {v : Value} {E : List Ev} (h : yBI W v E V) (hb : Below V.heap.size V V') : yBI W v E V' := ⟨h.bel.trans (hb.mono h.bel.size), h.re.below hb, h.vB⟩
theorem rev_step {a : List (Int × Nat)} {j : Nat} {x : Int × Nat} (h : a[j]? = some x) : (a.drop (j + 1)).reverse.map clE ++ [clE x] = (a.drop j).reverse.map clE := by
  obtain ⟨h1, h2⟩ := List.getElem?_eq_some_iff.1 h
  rw [List.drop_eq_getElem_cons h1, h2, List.reverse_cons, List.map_append]
  rfl
theorem fwd_step {b : List (Int × Nat)} {n j : Nat} {x : Int × Nat} (hn : n ≤ j) (h : b[j]? = some x) : ((b.take j).drop n).map opE ++ [opE x] = ((b.take (j + 1)).drop n).map opE := by
  have h1 := (List.getElem?_eq_some_iff.1 h).1
  rw [List.take_add_one, h, Option.toList, List.drop_append_of_le_length (by rw [List.length_take]; omega), List.map_append]
  rfl
set_option maxRecDepth 100000 in
set_option maxHeartbeats 2000000 in
theorem between_any (va vb : Value) (a b : List (Int × Nat)) (W : World) (ha : Rp W va a) (hb : Rp W vb b) (hal : a.length ≤ 100000) (hbl : b.length ≤ 100000) :
    Calls Tryz.prog 23 #[va, vb] W fun e w' => ∃ v, e = .returned v ∧ Re w' v (btw a b) ∧ Below W.heap.size W w' ∧ (∀ k, v.ownBlock = some k → W.heap.size ≤ k) := by
  have HA : Hid (Rp W va a) := ha
  have HB : Hid (Rp W vb b) := hb
  obtain ⟨pa, ca, rfl, _⟩ := ha.shape
  obtain ⟨pb, cb, rfl, _⟩ := hb.shape
  obtain ⟨cl1, cl2⟩ := cpl_le a b
  clear ha hb
  go_enter Tryz.func23, Tryz.ntmps23
  go_wp2_with fail
  go_loopw [5] (fun nv wr => ∃ j : Nat, j ≤ cpl a b ∧ nv = .int .i64 j ∧ Hid (Below W.heap.size W wr)) (fun nv _ => cpl a b - (intOf nv).toNat)
  case atStart => exact ⟨0, Nat.zero_le _, rfl, Below.refl _ _⟩
  case round =>
    obtain ⟨j, hj, rfl, HJ⟩ := hrel
    obtain ⟨s1, s2, s3⟩ := cpl_step hj
    by_cases hlt : j < cpl a b
    · obtain ⟨l1, l2⟩ := s2 hlt
      obtain ⟨x, hx⟩ : ∃ x, a[j]? = some x := ⟨_, List.getElem?_eq_getElem l1⟩
      obtain ⟨y, hy⟩ : ∃ y, b[j]? = some y := ⟨_, List.getElem?_eq_getElem l2⟩
      have e := (s1 x y hx hy).2 hlt
      subst e
      obtain ⟨b1, c1, e1, g1, x0, x1⟩ := st_cells (HA.out.below HJ.out) hx
      obtain ⟨b2, c2, e2, g2, y0, y1⟩ := st_cells (HB.out.below HJ.out) hy
      cases e1
      cases e2
      have q1 : (j : Int) < a.length := by omega
      have q2 : (j : Int) < b.length := by omega
      have q3 : (0 : Int) ≤ j := by omega
      clear s1 s2 s3 hx hy
      go_wp2_with fail
      go_quiet (fail)
      go_wp2_with fail
      exact ⟨⟨j + 1, hlt, by go_num, below_dn HJ.out _⟩, by simp [intOf]; omega⟩
    · obtain rfl : j = cpl a b := by omega
      -- EXIT
      by_cases f1 : cpl a b < a.length
      · have q1 : ((cpl a b : Nat) : Int) < a.length := by omega
        have q3 : (0 : Int) ≤ (cpl a b : Nat) := by omega
        by_cases f2 : cpl a b < b.length
        · have q2 : ((cpl a b : Nat) : Int) < b.length := by omega
          obtain ⟨x, hx⟩ : ∃ x, a[cpl a b]? = some x := ⟨_, List.getElem?_eq_getElem f1⟩
          obtain ⟨y, hy⟩ : ∃ y, b[cpl a b]? = some y := ⟨_, List.getElem?_eq_getElem f2⟩
          have hne := s3 rfl f1 f2 x y hx hy
          obtain ⟨b1, c1, e1, g1, x0, x1⟩ := st_cells (HA.out.below HJ.out) hx
          obtain ⟨b2, c2, e2, g2, y0, y1⟩ := st_cells (HB.out.below HJ.out) hy
          cases e1
          cases e2
          by_cases hk : x.1 = y.1
          · have hk2 : ((x.2 : Int) == (y.2 : Int)) = false := by
              rw [beq_eq_false_iff_ne]
              intro h
              exact hne (Prod.ext hk (by omega))
            have hk3 : ¬ ((x.2 : Int) = (y.2 : Int)) := by simpa using hk2
            rw [← hk] at y0
            clear s1 s2 s3 hx hy hne hk
            go_wp2_with fail
            go_quiet (fail)
            have H1 : Hid (Below W.heap.size W (wr.drewN nq)) := below_dn HJ.out _
            have H2 : Hid (yBI W nilS ((a.drop a.length).reverse.map clE) (wr.drewN nq)) := by rw [List.drop_length]; exact ⟨H1.out, re_nil _, (fun k e => by cases e)⟩
            obtain ⟨n, hn⟩ : ∃ n, cpl a b = n := ⟨_, rfl⟩
            have HNN : Hid (cpl a b = n) := hn
            rw [hn] at cl1 cl2 ⊢
            clear hn
            go_wp2_with fail
            go_loopw [6, 7] (fun vo iv wr => ∃ j : Nat, n ≤ j ∧ j ≤ a.length ∧ iv = .int .i64 ((j : Int) - 1) ∧ Hid (yBI W vo ((a.drop j).reverse.map clE) wr)) (fun _ iv _ => (intOf iv + 1).toNat)
            case atStart => exact ⟨a.length, cl1, Nat.le_refl _, by go_num, H2⟩
            case round =>
              obtain ⟨j, hj1, hj2, rfl, HK⟩ := hrel
              obtain ⟨po, co, hvo, ho1, ho2⟩ := HK.out.re.shape
              have hlen : ((a.drop j).reverse.map clE).length = a.length - j := by simp
              rw [hlen] at hvo ho1
              subst hvo
              by_cases hgt : n < j
              · obtain ⟨j', rfl⟩ : ∃ j', j = j' + 1 := ⟨j - 1, by omega⟩
                have e9 : ((j' + 1 : Nat) : Int) - 1 = (j' : Int) := by omega
                rw [e9]
                obtain ⟨x, hx⟩ : ∃ x, a[j']? = some x := ⟨_, List.getElem?_eq_getElem (by omega)⟩
                obtain ⟨b1, c1, e1, g1, x0, x1⟩ := st_cells (HA.out.below HK.out.bel) hx
                cases e1
                have q1 : (j' : Int) ≥ n := by omega
                have q2 : (0 : Int) ≤ j' := by omega
                have q3 : (j' : Int) < a.length := by omega
                have q4 : ¬ ((j' : Int) < n) := by omega
                have q5 : (j' : Int) ≤ 100000 := by omega
                have HRE : Hid (Re (wr.alloc (.cells #[.int .u8 3, .int .u8 x.1, .int .u8 0, .string ⟨#[]⟩, .int .i64 0, .int .i64 0, .int .i64 0, .int .i64 0] 48)) (.slice po (a.length - (j' + 1)) co) ((a.drop (j' + 1)).reverse.map clE)) := HK.out.re.below (below_new _ _)
                have HN : Hid (∀ w3 v', Re w3 v' ((a.drop (j' + 1)).reverse.map clE ++ [clE x]) → (wr.alloc (.cells #[.int .u8 3, .int .u8 x.1, .int .u8 0, .string ⟨#[]⟩, .int .i64 0, .int .i64 0, .int .i64 0, .int .i64 0] 48)).grownBy w3 (Value.slice po (a.length - (j' + 1)) co).ownBlock → Nb (wr.alloc (.cells #[.int .u8 3, .int .u8 x.1, .int .u8 0, .string ⟨#[]⟩, .int .i64 0, .int .i64 0, .int .i64 0, .int .i64 0] 48)) (.slice po (a.length - (j' + 1)) co) v' → yBI W v' ((a.drop j').reverse.map clE) w3) := fun w3 v' h1 h2 h3 => by
                  have := HK.out.push (below_new _ _) h1 h2 h3
                  rw [rev_step hx] at this
                  exact this
                have hll : ((a.drop (j' + 1)).reverse.map clE).length ≤ 1000000000 := by rw [hlen]; omega
                clear hx e9
                go_wp2_with (at_builtin; refine app_ev (by rfl) _ _ (by rfl) (.slice po (a.length - (j' + 1)) co) ((a.drop (j' + 1)).reverse.map clE) (clE x) (by rfl) HRE.out wr.heap.size 1 (by rfl) (new_at _ _) hll ?_; intro v' w3 h1 h2 h3; have H3 := show Hid _ from HN.out _ _ h1 h2 h3; clear h1 h2 h3)
                exact ⟨⟨j', by omega, by omega, by go_num, H3⟩, by simp [intOf] <;> omega⟩
              · obtain rfl : j = n := by omega
                have q1 : ¬ ((j : Int) - 1 ≥ j) := by omega
                have q2 : (j : Int) - 1 < j := by omega
                have H5 : Hid (yBI W (.slice po (a.length - j) co) ((a.drop j).reverse.map clE ++ ((b.take j).drop j).map opE) wr) := by
                  have : (b.take j).drop j = [] := List.drop_eq_nil_of_le (by rw [List.length_take]; omega)
                  rw [this, List.map_nil, List.append_nil]
                  exact HK.out
                go_wp2_with fail
                go_loopw [6, 8] (fun vo iv wr => ∃ i : Nat, j ≤ i ∧ i ≤ b.length ∧ iv = .int .i64 i ∧ Hid (yBI W vo ((a.drop j).reverse.map clE ++ ((b.take i).drop j).map opE) wr)) (fun _ iv _ => b.length - (intOf iv).toNat)
                case atStart => exact ⟨j, Nat.le_refl _, cl2, rfl, H5⟩
                case round =>
                  obtain ⟨i, hi1, hi2, rfl, HM⟩ := hrel
                  obtain ⟨po', co', hvo, ho1', ho2'⟩ := HM.out.re.shape
                  have hlen' : ((a.drop j).reverse.map clE ++ ((b.take i).drop j).map opE).length = a.length - j + (i - j) := by simp only [List.length_append, List.length_map, List.length_reverse, List.length_drop, List.length_take]; omega
                  rw [hlen'] at hvo ho1'
                  subst hvo
                  by_cases hlt : i < b.length
                  · obtain ⟨x, hx⟩ : ∃ x, b[i]? = some x := ⟨_, List.getElem?_eq_getElem hlt⟩
                    obtain ⟨b1, c1, e1, g1, x0, x1⟩ := st_cells (HB.out.below HM.out.bel) hx
                    cases e1
                    have q3 : (i : Int) < b.length := by omega
                    have q4 : (0 : Int) ≤ i := by omega
                    have HRE : Hid (Re (wr.alloc (.cells #[.int .u8 1, .int .u8 x.1, .int .u8 0, .string ⟨#[]⟩, .int .i64 0, .int .i64 0, .int .i64 0, .int .i64 0] 48)) (.slice po' (a.length - j + (i - j)) co') ((a.drop j).reverse.map clE ++ ((b.take i).drop j).map opE)) := HM.out.re.below (below_new _ _)
                    have HN : Hid (∀ w3 v', Re w3 v' (((a.drop j).reverse.map clE ++ ((b.take i).drop j).map opE) ++ [opE x]) → (wr.alloc (.cells #[.int .u8 1, .int .u8 x.1, .int .u8 0, .string ⟨#[]⟩, .int .i64 0, .int .i64 0, .int .i64 0, .int .i64 0] 48)).grownBy w3 (Value.slice po' (a.length - j + (i - j)) co').ownBlock → Nb (wr.alloc (.cells #[.int .u8 1, .int .u8 x.1, .int .u8 0, .string ⟨#[]⟩, .int .i64 0, .int .i64 0, .int .i64 0, .int .i64 0] 48)) (.slice po' (a.length - j + (i - j)) co') v' → yBI W v' ((a.drop j).reverse.map clE ++ ((b.take (i + 1)).drop j).map opE) w3) := fun w3 v' h1 h2 h3 => by
                      have := HM.out.push (below_new _ _) h1 h2 h3
                      rw [List.append_assoc, fwd_step hi1 hx] at this
                      exact this
                    have hll : ((a.drop j).reverse.map clE ++ ((b.take i).drop j).map opE).length ≤ 1000000000 := by rw [hlen']; omega
                    clear hx
                    go_wp2_with (at_builtin; refine app_ev (by rfl) _ _ (by rfl) (.slice po' (a.length - j + (i - j)) co') ((a.drop j).reverse.map clE ++ ((b.take i).drop j).map opE) (opE x) (by rfl) HRE.out wr.heap.size 1 (by rfl) (new_at _ _) hll ?_; intro v' w3 h1 h2 h3; have H3 := show Hid _ from HN.out _ _ h1 h2 h3; clear h1 h2 h3)
                    exact ⟨⟨i + 1, by omega, by omega, by go_num, H3⟩, by simp [intOf]; omega⟩
                  · obtain rfl : i = b.length := by omega
                    have q3 : ¬ ((b.length : Int) < b.length) := by omega
                    rw [List.take_length] at HM
                    go_wp2_with fail
                    go_ret
                    refine ⟨_, rfl, ?_, HM.out.bel, HM.out.vB⟩
                    unfold btw
                    rw [HNN.out]
                    exact HM.out.re
          have hk2 : (x.1 == y.1) = false := by rw [beq_eq_false_iff_ne]; exact hk
          clear s1 s2 s3 hx hy hne
          go_wp2_with fail
          go_quiet (fail)
          have H1 : Hid (Below W.heap.size W (wr.drewN nq)) := below_dn HJ.out _
          have H2 : Hid (yBI W nilS ((a.drop a.length).reverse.map clE) (wr.drewN nq)) := by rw [List.drop_length]; exact ⟨H1.out, re_nil _, (fun k e => by cases e)⟩
          obtain ⟨n, hn⟩ : ∃ n, cpl a b = n := ⟨_, rfl⟩
          have HNN : Hid (cpl a b = n) := hn
          rw [hn] at cl1 cl2 ⊢
          clear hn
          go_wp2_with fail
          go_loopw [6, 7] (fun vo iv wr => ∃ j : Nat, n ≤ j ∧ j ≤ a.length ∧ iv = .int .i64 ((j : Int) - 1) ∧ Hid (yBI W vo ((a.drop j).reverse.map clE) wr)) (fun _ iv _ => (intOf iv + 1).toNat)
          case atStart => exact ⟨a.length, cl1, Nat.le_refl _, by go_num, H2⟩
          case round =>
            obtain ⟨j, hj1, hj2, rfl, HK⟩ := hrel
            obtain ⟨po, co, hvo, ho1, ho2⟩ := HK.out.re.shape
            have hlen : ((a.drop j).reverse.map clE).length = a.length - j := by simp
            rw [hlen] at hvo ho1
            subst hvo
            by_cases hgt : n < j
            · obtain ⟨j', rfl⟩ : ∃ j', j = j' + 1 := ⟨j - 1, by omega⟩
              have e9 : ((j' + 1 : Nat) : Int) - 1 = (j' : Int) := by omega
              rw [e9]
              obtain ⟨x, hx⟩ : ∃ x, a[j']? = some x := ⟨_, List.getElem?_eq_getElem (by omega)⟩
              obtain ⟨b1, c1, e1, g1, x0, x1⟩ := st_cells (HA.out.below HK.out.bel) hx
              cases e1
              have q1 : (j' : Int) ≥ n := by omega
              have q2 : (0 : Int) ≤ j' := by omega
              have q3 : (j' : Int) < a.length := by omega
              have q4 : ¬ ((j' : Int) < n) := by omega
              have q5 : (j' : Int) ≤ 100000 := by omega
              have HRE : Hid (Re (wr.alloc (.cells #[.int .u8 3, .int .u8 x.1, .int .u8 0, .string ⟨#[]⟩, .int .i64 0, .int .i64 0, .int .i64 0, .int .i64 0] 48)) (.slice po (a.length - (j' + 1)) co) ((a.drop (j' + 1)).reverse.map clE)) := HK.out.re.below (below_new _ _)
              have HN : Hid (∀ w3 v', Re w3 v' ((a.drop (j' + 1)).reverse.map clE ++ [clE x]) → (wr.alloc (.cells #[.int .u8 3, .int .u8 x.1, .int .u8 0, .string ⟨#[]⟩, .int .i64 0, .int .i64 0, .int .i64 0, .int .i64 0] 48)).grownBy w3 (Value.slice po (a.length - (j' + 1)) co).ownBlock → Nb (wr.alloc (.cells #[.int .u8 3, .int .u8 x.1, .int .u8 0, .string ⟨#[]⟩, .int .i64 0, .int .i64 0, .int .i64 0, .int .i64 0] 48)) (.slice po (a.length - (j' + 1)) co) v' → yBI W v' ((a.drop j').reverse.map clE) w3) := fun w3 v' h1 h2 h3 => by
                have := HK.out.push (below_new _ _) h1 h2 h3
                rw [rev_step hx] at this
                exact this
              have hll : ((a.drop (j' + 1)).reverse.map clE).length ≤ 1000000000 := by rw [hlen]; omega
              clear hx e9
              go_wp2_with (at_builtin; refine app_ev (by rfl) _ _ (by rfl) (.slice po (a.length - (j' + 1)) co) ((a.drop (j' + 1)).reverse.map clE) (clE x) (by rfl) HRE.out wr.heap.size 1 (by rfl) (new_at _ _) hll ?_; intro v' w3 h1 h2 h3; have H3 := show Hid _ from HN.out _ _ h1 h2 h3; clear h1 h2 h3)
              exact ⟨⟨j', by omega, by omega, by go_num, H3⟩, by simp [intOf] <;> omega⟩
            · obtain rfl : j = n := by omega
              have q1 : ¬ ((j : Int) - 1 ≥ j) := by omega
              have q2 : (j : Int) - 1 < j := by omega
              have H5 : Hid (yBI W (.slice po (a.length - j) co) ((a.drop j).reverse.map clE ++ ((b.take j).drop j).map opE) wr) := by
                have : (b.take j).drop j = [] := List.drop_eq_nil_of_le (by rw [List.length_take]; omega)
                rw [this, List.map_nil, List.append_nil]
                exact HK.out
              go_wp2_with fail
              go_loopw [6, 8] (fun vo iv wr => ∃ i : Nat, j ≤ i ∧ i ≤ b.length ∧ iv = .int .i64 i ∧ Hid (yBI W vo ((a.drop j).reverse.map clE ++ ((b.take i).drop j).map opE) wr)) (fun _ iv _ => b.length - (intOf iv).toNat)
              case atStart => exact ⟨j, Nat.le_refl _, cl2, rfl, H5⟩
              case round =>
                obtain ⟨i, hi1, hi2, rfl, HM⟩ := hrel
                obtain ⟨po', co', hvo, ho1', ho2'⟩ := HM.out.re.shape
                have hlen' : ((a.drop j).reverse.map clE ++ ((b.take i).drop j).map opE).length = a.length - j + (i - j) := by simp only [List.length_append, List.length_map, List.length_reverse, List.length_drop, List.length_take]; omega
                rw [hlen'] at hvo ho1'
                subst hvo
                by_cases hlt : i < b.length
                · obtain ⟨x, hx⟩ : ∃ x, b[i]? = some x := ⟨_, List.getElem?_eq_getElem hlt⟩
                  obtain ⟨b1, c1, e1, g1, x0, x1⟩ := st_cells (HB.out.below HM.out.bel) hx
                  cases e1
                  have q3 : (i : Int) < b.length := by omega
                  have q4 : (0 : Int) ≤ i := by omega
                  have HRE : Hid (Re (wr.alloc (.cells #[.int .u8 1, .int .u8 x.1, .int .u8 0, .string ⟨#[]⟩, .int .i64 0, .int .i64 0, .int .i64 0, .int .i64 0] 48)) (.slice po' (a.length - j + (i - j)) co') ((a.drop j).reverse.map clE ++ ((b.take i).drop j).map opE)) := HM.out.re.below (below_new _ _)
                  have HN : Hid (∀ w3 v', Re w3 v' (((a.drop j).reverse.map clE ++ ((b.take i).drop j).map opE) ++ [opE x]) → (wr.alloc (.cells #[.int .u8 1, .int .u8 x.1, .int .u8 0, .string ⟨#[]⟩, .int .i64 0, .int .i64 0, .int .i64 0, .int .i64 0] 48)).grownBy w3 (Value.slice po' (a.length - j + (i - j)) co').ownBlock → Nb (wr.alloc (.cells #[.int .u8 1, .int .u8 x.1, .int .u8 0, .string ⟨#[]⟩, .int .i64 0, .int .i64 0, .int .i64 0, .int .i64 0] 48)) (.slice po' (a.length - j + (i - j)) co') v' → yBI W v' ((a.drop j).reverse.map clE ++ ((b.take (i + 1)).drop j).map opE) w3) := fun w3 v' h1 h2 h3 => by
                    have := HM.out.push (below_new _ _) h1 h2 h3
                    rw [List.append_assoc, fwd_step hi1 hx] at this
                    exact this
                  have hll : ((a.drop j).reverse.map clE ++ ((b.take i).drop j).map opE).length ≤ 1000000000 := by rw [hlen']; omega
                  clear hx
                  go_wp2_with (at_builtin; refine app_ev (by rfl) _ _ (by rfl) (.slice po' (a.length - j + (i - j)) co') ((a.drop j).reverse.map clE ++ ((b.take i).drop j).map opE) (opE x) (by rfl) HRE.out wr.heap.size 1 (by rfl) (new_at _ _) hll ?_; intro v' w3 h1 h2 h3; have H3 := show Hid _ from HN.out _ _ h1 h2 h3; clear h1 h2 h3)
                  exact ⟨⟨i + 1, by omega, by omega, by go_num, H3⟩, by simp [intOf]; omega⟩
                · obtain rfl : i = b.length := by omega
                  have q3 : ¬ ((b.length : Int) < b.length) := by omega
                  rw [List.take_length] at HM
                  go_wp2_with fail
                  go_ret
                  refine ⟨_, rfl, ?_, HM.out.bel, HM.out.vB⟩
                  unfold btw
                  rw [HNN.out]
                  exact HM.out.re
        · have q2 : ¬ (((cpl a b : Nat) : Int) < b.length) := by omega
          clear s1 s2 s3
          go_wp2_with fail
          go_quiet (fail)
          have H1 : Hid (Below W.heap.size W (wr.drewN nq)) := below_dn HJ.out _
          have H2 : Hid (yBI W nilS ((a.drop a.length).reverse.map clE) (wr.drewN nq)) := by rw [List.drop_length]; exact ⟨H1.out, re_nil _, (fun k e => by cases e)⟩
          obtain ⟨n, hn⟩ : ∃ n, cpl a b = n := ⟨_, rfl⟩
          have HNN : Hid (cpl a b = n) := hn
          rw [hn] at cl1 cl2 ⊢
          clear hn
          go_wp2_with fail
          go_loopw [6, 7] (fun vo iv wr => ∃ j : Nat, n ≤ j ∧ j ≤ a.length ∧ iv = .int .i64 ((j : Int) - 1) ∧ Hid (yBI W vo ((a.drop j).reverse.map clE) wr)) (fun _ iv _ => (intOf iv + 1).toNat)
          case atStart => exact ⟨a.length, cl1, Nat.le_refl _, by go_num, H2⟩
          case round =>
            obtain ⟨j, hj1, hj2, rfl, HK⟩ := hrel
            obtain ⟨po, co, hvo, ho1, ho2⟩ := HK.out.re.shape
            have hlen : ((a.drop j).reverse.map clE).length = a.length - j := by simp
            rw [hlen] at hvo ho1
            subst hvo
            by_cases hgt : n < j
            · obtain ⟨j', rfl⟩ : ∃ j', j = j' + 1 := ⟨j - 1, by omega⟩
              have e9 : ((j' + 1 : Nat) : Int) - 1 = (j' : Int) := by omega
              rw [e9]
              obtain ⟨x, hx⟩ : ∃ x, a[j']? = some x := ⟨_, List.getElem?_eq_getElem (by omega)⟩
              obtain ⟨b1, c1, e1, g1, x0, x1⟩ := st_cells (HA.out.below HK.out.bel) hx
              cases e1
              have q1 : (j' : Int) ≥ n := by omega
              have q2 : (0 : Int) ≤ j' := by omega
              have q3 : (j' : Int) < a.length := by omega
              have q4 : ¬ ((j' : Int) < n) := by omega
              have q5 : (j' : Int) ≤ 100000 := by omega
              have HRE : Hid (Re (wr.alloc (.cells #[.int .u8 3, .int .u8 x.1, .int .u8 0, .string ⟨#[]⟩, .int .i64 0, .int .i64 0, .int .i64 0, .int .i64 0] 48)) (.slice po (a.length - (j' + 1)) co) ((a.drop (j' + 1)).reverse.map clE)) := HK.out.re.below (below_new _ _)
              have HN : Hid (∀ w3 v', Re w3 v' ((a.drop (j' + 1)).reverse.map clE ++ [clE x]) → (wr.alloc (.cells #[.int .u8 3, .int .u8 x.1, .int .u8 0, .string ⟨#[]⟩, .int .i64 0, .int .i64 0, .int .i64 0, .int .i64 0] 48)).grownBy w3 (Value.slice po (a.length - (j' + 1)) co).ownBlock → Nb (wr.alloc (.cells #[.int .u8 3, .int .u8 x.1, .int .u8 0, .string ⟨#[]⟩, .int .i64 0, .int .i64 0, .int .i64 0, .int .i64 0] 48)) (.slice po (a.length - (j' + 1)) co) v' → yBI W v' ((a.drop j').reverse.map clE) w3) := fun w3 v' h1 h2 h3 => by
                have := HK.out.push (below_new _ _) h1 h2 h3
                rw [rev_step hx] at this
                exact this
              have hll : ((a.drop (j' + 1)).reverse.map clE).length ≤ 1000000000 := by rw [hlen]; omega
              clear hx e9
              go_wp2_with (at_builtin; refine app_ev (by rfl) _ _ (by rfl) (.slice po (a.length - (j' + 1)) co) ((a.drop (j' + 1)).reverse.map clE) (clE x) (by rfl) HRE.out wr.heap.size 1 (by rfl) (new_at _ _) hll ?_; intro v' w3 h1 h2 h3; have H3 := show Hid _ from HN.out _ _ h1 h2 h3; clear h1 h2 h3)
              exact ⟨⟨j', by omega, by omega, by go_num, H3⟩, by simp [intOf] <;> omega⟩
            · obtain rfl : j = n := by omega
              have q1 : ¬ ((j : Int) - 1 ≥ j) := by omega
              have q2 : (j : Int) - 1 < j := by omega
              have H5 : Hid (yBI W (.slice po (a.length - j) co) ((a.drop j).reverse.map clE ++ ((b.take j).drop j).map opE) wr) := by
                have : (b.take j).drop j = [] := List.drop_eq_nil_of_le (by rw [List.length_take]; omega)
                rw [this, List.map_nil, List.append_nil]
                exact HK.out
              go_wp2_with fail
              go_loopw [6, 8] (fun vo iv wr => ∃ i : Nat, j ≤ i ∧ i ≤ b.length ∧ iv = .int .i64 i ∧ Hid (yBI W vo ((a.drop j).reverse.map clE ++ ((b.take i).drop j).map opE) wr)) (fun _ iv _ => b.length - (intOf iv).toNat)
              case atStart => exact ⟨j, Nat.le_refl _, cl2, rfl, H5⟩
              case round =>
                obtain ⟨i, hi1, hi2, rfl, HM⟩ := hrel
                obtain ⟨po', co', hvo, ho1', ho2'⟩ := HM.out.re.shape
                have hlen' : ((a.drop j).reverse.map clE ++ ((b.take i).drop j).map opE).length = a.length - j + (i - j) := by simp only [List.length_append, List.length_map, List.length_reverse, List.length_drop, List.length_take]; omega
                rw [hlen'] at hvo ho1'
                subst hvo
                by_cases hlt : i < b.length
                · obtain ⟨x, hx⟩ : ∃ x, b[i]? = some x := ⟨_, List.getElem?_eq_getElem hlt⟩
                  obtain ⟨b1, c1, e1, g1, x0, x1⟩ := st_cells (HB.out.below HM.out.bel) hx
                  cases e1
                  have q3 : (i : Int) < b.length := by omega
                  have q4 : (0 : Int) ≤ i := by omega
                  have HRE : Hid (Re (wr.alloc (.cells #[.int .u8 1, .int .u8 x.1, .int .u8 0, .string ⟨#[]⟩, .int .i64 0, .int .i64 0, .int .i64 0, .int .i64 0] 48)) (.slice po' (a.length - j + (i - j)) co') ((a.drop j).reverse.map clE ++ ((b.take i).drop j).map opE)) := HM.out.re.below (below_new _ _)
                  have HN : Hid (∀ w3 v', Re w3 v' (((a.drop j).reverse.map clE ++ ((b.take i).drop j).map opE) ++ [opE x]) → (wr.alloc (.cells #[.int .u8 1, .int .u8 x.1, .int .u8 0, .string ⟨#[]⟩, .int .i64 0, .int .i64 0, .int .i64 0, .int .i64 0] 48)).grownBy w3 (Value.slice po' (a.length - j + (i - j)) co').ownBlock → Nb (wr.alloc (.cells #[.int .u8 1, .int .u8 x.1, .int .u8 0, .string ⟨#[]⟩, .int .i64 0, .int .i64 0, .int .i64 0, .int .i64 0] 48)) (.slice po' (a.length - j + (i - j)) co') v' → yBI W v' ((a.drop j).reverse.map clE ++ ((b.take (i + 1)).drop j).map opE) w3) := fun w3 v' h1 h2 h3 => by
                    have := HM.out.push (below_new _ _) h1 h2 h3
                    rw [List.append_assoc, fwd_step hi1 hx] at this
                    exact this
                  have hll : ((a.drop j).reverse.map clE ++ ((b.take i).drop j).map opE).length ≤ 1000000000 := by rw [hlen']; omega
                  clear hx
                  go_wp2_with (at_builtin; refine app_ev (by rfl) _ _ (by rfl) (.slice po' (a.length - j + (i - j)) co') ((a.drop j).reverse.map clE ++ ((b.take i).drop j).map opE) (opE x) (by rfl) HRE.out wr.heap.size 1 (by rfl) (new_at _ _) hll ?_; intro v' w3 h1 h2 h3; have H3 := show Hid _ from HN.out _ _ h1 h2 h3; clear h1 h2 h3)
                  exact ⟨⟨i + 1, by omega, by omega, by go_num, H3⟩, by simp [intOf]; omega⟩
                · obtain rfl : i = b.length := by omega
                  have q3 : ¬ ((b.length : Int) < b.length) := by omega
                  rw [List.take_length] at HM
                  go_wp2_with fail
                  go_ret
                  refine ⟨_, rfl, ?_, HM.out.bel, HM.out.vB⟩
                  unfold btw
                  rw [HNN.out]
                  exact HM.out.re
      · have q1 : ¬ (((cpl a b : Nat) : Int) < a.length) := by omega
        clear s1 s2 s3
        go_wp2_with fail
        go_quiet (fail)
        have H1 : Hid (Below W.heap.size W (wr.drewN nq)) := below_dn HJ.out _
        have H2 : Hid (yBI W nilS ((a.drop a.length).reverse.map clE) (wr.drewN nq)) := by rw [List.drop_length]; exact ⟨H1.out, re_nil _, (fun k e => by cases e)⟩
        obtain ⟨n, hn⟩ : ∃ n, cpl a b = n := ⟨_, rfl⟩
        have HNN : Hid (cpl a b = n) := hn
        rw [hn] at cl1 cl2 ⊢
        clear hn
        go_wp2_with fail
        go_loopw [6, 7] (fun vo iv wr => ∃ j : Nat, n ≤ j ∧ j ≤ a.length ∧ iv = .int .i64 ((j : Int) - 1) ∧ Hid (yBI W vo ((a.drop j).reverse.map clE) wr)) (fun _ iv _ => (intOf iv + 1).toNat)
        case atStart => exact ⟨a.length, cl1, Nat.le_refl _, by go_num, H2⟩
        case round =>
          obtain ⟨j, hj1, hj2, rfl, HK⟩ := hrel
          obtain ⟨po, co, hvo, ho1, ho2⟩ := HK.out.re.shape
          have hlen : ((a.drop j).reverse.map clE).length = a.length - j := by simp
          rw [hlen] at hvo ho1
          subst hvo
          by_cases hgt : n < j
          · obtain ⟨j', rfl⟩ : ∃ j', j = j' + 1 := ⟨j - 1, by omega⟩
            have e9 : ((j' + 1 : Nat) : Int) - 1 = (j' : Int) := by omega
            rw [e9]
            obtain ⟨x, hx⟩ : ∃ x, a[j']? = some x := ⟨_, List.getElem?_eq_getElem (by omega)⟩
            obtain ⟨b1, c1, e1, g1, x0, x1⟩ := st_cells (HA.out.below HK.out.bel) hx
            cases e1
            have q1 : (j' : Int) ≥ n := by omega
            have q2 : (0 : Int) ≤ j' := by omega
            have q3 : (j' : Int) < a.length := by omega
            have q4 : ¬ ((j' : Int) < n) := by omega
            have q5 : (j' : Int) ≤ 100000 := by omega
            have HRE : Hid (Re (wr.alloc (.cells #[.int .u8 3, .int .u8 x.1, .int .u8 0, .string ⟨#[]⟩, .int .i64 0, .int .i64 0, .int .i64 0, .int .i64 0] 48)) (.slice po (a.length - (j' + 1)) co) ((a.drop (j' + 1)).reverse.map clE)) := HK.out.re.below (below_new _ _)
            have HN : Hid (∀ w3 v', Re w3 v' ((a.drop (j' + 1)).reverse.map clE ++ [clE x]) → (wr.alloc (.cells #[.int .u8 3, .int .u8 x.1, .int .u8 0, .string ⟨#[]⟩, .int .i64 0, .int .i64 0, .int .i64 0, .int .i64 0] 48)).grownBy w3 (Value.slice po (a.length - (j' + 1)) co).ownBlock → Nb (wr.alloc (.cells #[.int .u8 3, .int .u8 x.1, .int .u8 0, .string ⟨#[]⟩, .int .i64 0, .int .i64 0, .int .i64 0, .int .i64 0] 48)) (.slice po (a.length - (j' + 1)) co) v' → yBI W v' ((a.drop j').reverse.map clE) w3) := fun w3 v' h1 h2 h3 => by
              have := HK.out.push (below_new _ _) h1 h2 h3
              rw [rev_step hx] at this
              exact this
            have hll : ((a.drop (j' + 1)).reverse.map clE).length ≤ 1000000000 := by rw [hlen]; omega
            clear hx e9
            go_wp2_with (at_builtin; refine app_ev (by rfl) _ _ (by rfl) (.slice po (a.length - (j' + 1)) co) ((a.drop (j' + 1)).reverse.map clE) (clE x) (by rfl) HRE.out wr.heap.size 1 (by rfl) (new_at _ _) hll ?_; intro v' w3 h1 h2 h3; have H3 := show Hid _ from HN.out _ _ h1 h2 h3; clear h1 h2 h3)
            exact ⟨⟨j', by omega, by omega, by go_num, H3⟩, by simp [intOf] <;> omega⟩
          · obtain rfl : j = n := by omega
            have q1 : ¬ ((j : Int) - 1 ≥ j) := by omega
            have q2 : (j : Int) - 1 < j := by omega
            have H5 : Hid (yBI W (.slice po (a.length - j) co) ((a.drop j).reverse.map clE ++ ((b.take j).drop j).map opE) wr) := by
              have : (b.take j).drop j = [] := List.drop_eq_nil_of_le (by rw [List.length_take]; omega)
              rw [this, List.map_nil, List.append_nil]
              exact HK.out
            go_wp2_with fail
            go_loopw [6, 8] (fun vo iv wr => ∃ i : Nat, j ≤ i ∧ i ≤ b.length ∧ iv = .int .i64 i ∧ Hid (yBI W vo ((a.drop j).reverse.map clE ++ ((b.take i).drop j).map opE) wr)) (fun _ iv _ => b.length - (intOf iv).toNat)
            case atStart => exact ⟨j, Nat.le_refl _, cl2, rfl, H5⟩
            case round =>
              obtain ⟨i, hi1, hi2, rfl, HM⟩ := hrel
              obtain ⟨po', co', hvo, ho1', ho2'⟩ := HM.out.re.shape
              have hlen' : ((a.drop j).reverse.map clE ++ ((b.take i).drop j).map opE).length = a.length - j + (i - j) := by simp only [List.length_append, List.length_map, List.length_reverse, List.length_drop, List.length_take]; omega
              rw [hlen'] at hvo ho1'
              subst hvo
              by_cases hlt : i < b.length
              · obtain ⟨x, hx⟩ : ∃ x, b[i]? = some x := ⟨_, List.getElem?_eq_getElem hlt⟩
                obtain ⟨b1, c1, e1, g1, x0, x1⟩ := st_cells (HB.out.below HM.out.bel) hx
                cases e1
                have q3 : (i : Int) < b.length := by omega
                have q4 : (0 : Int) ≤ i := by omega
                have HRE : Hid (Re (wr.alloc (.cells #[.int .u8 1, .int .u8 x.1, .int .u8 0, .string ⟨#[]⟩, .int .i64 0, .int .i64 0, .int .i64 0, .int .i64 0] 48)) (.slice po' (a.length - j + (i - j)) co') ((a.drop j).reverse.map clE ++ ((b.take i).drop j).map opE)) := HM.out.re.below (below_new _ _)
                have HN : Hid (∀ w3 v', Re w3 v' (((a.drop j).reverse.map clE ++ ((b.take i).drop j).map opE) ++ [opE x]) → (wr.alloc (.cells #[.int .u8 1, .int .u8 x.1, .int .u8 0, .string ⟨#[]⟩, .int .i64 0, .int .i64 0, .int .i64 0, .int .i64 0] 48)).grownBy w3 (Value.slice po' (a.length - j + (i - j)) co').ownBlock → Nb (wr.alloc (.cells #[.int .u8 1, .int .u8 x.1, .int .u8 0, .string ⟨#[]⟩, .int .i64 0, .int .i64 0, .int .i64 0, .int .i64 0] 48)) (.slice po' (a.length - j + (i - j)) co') v' → yBI W v' ((a.drop j).reverse.map clE ++ ((b.take (i + 1)).drop j).map opE) w3) := fun w3 v' h1 h2 h3 => by
                  have := HM.out.push (below_new _ _) h1 h2 h3
                  rw [List.append_assoc, fwd_step hi1 hx] at this
                  exact this
                have hll : ((a.drop j).reverse.map clE ++ ((b.take i).drop j).map opE).length ≤ 1000000000 := by rw [hlen']; omega
                clear hx
                go_wp2_with (at_builtin; refine app_ev (by rfl) _ _ (by rfl) (.slice po' (a.length - j + (i - j)) co') ((a.drop j).reverse.map clE ++ ((b.take i).drop j).map opE) (opE x) (by rfl) HRE.out wr.heap.size 1 (by rfl) (new_at _ _) hll ?_; intro v' w3 h1 h2 h3; have H3 := show Hid _ from HN.out _ _ h1 h2 h3; clear h1 h2 h3)
                exact ⟨⟨i + 1, by omega, by omega, by go_num, H3⟩, by simp [intOf]; omega⟩
              · obtain rfl : i = b.length := by omega
                have q3 : ¬ ((b.length : Int) < b.length) := by omega
                rw [List.take_length] at HM
                go_wp2_with fail
                go_ret
                refine ⟨_, rfl, ?_, HM.out.bel, HM.out.vB⟩
                unfold btw
                rw [HNN.out]
                exact HM.out.re

end Go.Proofs.YtkigadnkclkopaaGreat
