import Derived.Test.YtgjbkdnefbnclaaXe
set_option linter.unusedVariables false
set_option linter.unusedSimpArgs false
namespace Go.Proofs.Ytgjbkdnefbnclaa
open Go.RowKit

/-- A call of the script, in memory. -/
structure OpAt (w : World) (b p : Nat) (o : OpV) : Prop where
  c0 : w.cell? ⟨b, p, none⟩ = some (.int .i64 o.kind)
  c1 : w.cell? ⟨b, p + 1, none⟩ = some (.string o.s)
  c2 : w.cell? ⟨b, p + 2, none⟩ = some (.int .i64 o.pos)
  c3 : w.cell? ⟨b, p + 3, none⟩ = some (.slice o.ao o.n o.cap)
  row : Row w o.ao o.n o.zs
  hs : o.s.size ≤ maxLen
  hn : o.n ≤ maxLen

theorem OpAt.below {w w' : World} {b p : Nat} {o : OpV} (h : OpAt w b p o) (hb : Below w.heap.size w w') : OpAt w' b p o :=
  ⟨(hb.cell (p := ⟨b, p, none⟩) (World.block_lt_of_cell? w _ h.c0)).trans h.c0, (hb.cell (p := ⟨b, p + 1, none⟩) (World.block_lt_of_cell? w _ h.c1)).trans h.c1,
    (hb.cell (p := ⟨b, p + 2, none⟩) (World.block_lt_of_cell? w _ h.c2)).trans h.c2, (hb.cell (p := ⟨b, p + 3, none⟩) (World.block_lt_of_cell? w _ h.c3)).trans h.c3, h.row.below hb, h.hs, h.hn⟩

set_option maxRecDepth 100000 in
set_option maxHeartbeats 1000000 in
theorem exact_nil (ao : Option Addr) (cap : Nat) (w : World) : Calls Try.prog 3 #[.slice ao 0 cap] w fun e w' => e = .returned (.bool true) ∧ Below w.heap.size w w' := by
  have ha := add_any 0 0
  rw [show addI 0 0 = 0 by decide] at ha
  have HA : Hid _ := ha
  clear ha
  go_enter Try.func3, Try.ntmps3
  go_wp2_with fail
  refine (HA.out _ (by omega) (by omega)).mono ?_
  rintro e w1 ⟨rfl, rfl⟩
  go_wp2_with fail
  refine wp_loop_rounds 1 ?_
  rw [rounds_succ]
  go_wp2_with fail
  refine wp_loop_rounds 1 ?_
  rw [rounds_succ]
  go_wp2_with fail
  refine wp_loop_rounds 1 ?_
  rw [rounds_succ]
  go_wp2_with fail
  refine (owned_nil none 0 _).mono ?_
  rintro e w2 ⟨rfl, rfl⟩
  go_wp2_with fail
  refine (awake_any _).mono ?_
  rintro e w3 ⟨rfl, hb⟩
  go_wp2_with fail
  go_ret
  exact ⟨rfl, hb⟩

theorem inv_nil (B : Nat) (w : World) : Inv B w 0 (.slice none 0 0) (.slice none 0 0) [] [] [] where
  told := World.ownsRow_nil _ _ _ _
  want := World.ownsRow_nil _ _ _ _
  apart := fun g h => (by cases h)
  len := rfl
  dist := fun i j x y h => (by simp at h)
  row := fun i x l h => (by simp at h)
  ref := fun i u l h => (by simp at h)

theorem own_some {w : World} {base e n : Nat} {v : Value} {xs : List Value} (h : w.ownsRow base e 1 v n xs) : ∃ ao cap, v = .slice ao n cap := by
  rcases h.2 with ⟨rfl, rfl⟩ | ⟨g, cap, cur, rfl, _⟩
  · exact ⟨none, 0, rfl⟩
  · exact ⟨_, cap, rfl⟩

theorem keepT {w W w1 : World} {a b : Addr} {c d : Value} {B : Nat} (hB : B ≤ w.heap.size) (h : W.cell? a = some c ∧ W.cell? b = some d ∧ Below w.heap.size w W) (hb : Below W.heap.size W w1) : w1.cell? a = some c ∧ w1.cell? b = some d ∧ Below w.heap.size w w1 :=
  ⟨(hb.cell (World.block_lt_of_cell? W _ h.1)).trans h.1, (hb.cell (World.block_lt_of_cell? W _ h.2.1)).trans h.2.1, h.2.2.trans (hb.mono h.2.2.size)⟩

def most : Int := 2147483647

theorem addI_bd (n k : Int) (hn : 0 ≤ n) (hk : 0 ≤ k) : 0 ≤ addI n k ∧ addI n k ≤ 4294967294 ∧ (addI n k ≤ 2147483647 → n ≤ 2147483647 ∧ k ≤ 2147483647) := by
  unfold addI
  split <;> omega

set_option maxRecDepth 100000 in
set_option maxHeartbeats 2000000 in
theorem exact_some (b off N cap : Nat) (ops : List OpV) (w : World) (hN0 : 0 < N) (hN : N ≤ maxLen) (hlen : ops.length = N) (hops : ∀ (i : Nat) (o : OpV), ops[i]? = some o → OpAt w b (off + i * 4) o) :
    Calls Try.prog 3 #[.slice (some ⟨b, off, none⟩) N cap] w fun e w' => e = .returned (.bool true) ∧ Below w.heap.size w w' := by
  unfold maxLen at hN
  have HO : Hid (∀ (i : Nat) (o : OpV), ops[i]? = some o → OpAt w b (off + i * 4) o) := hops
  have HG : Hid (∀ i, i < N → ∃ o, ops[i]? = some o) := fun i hi => ⟨_, List.getElem?_eq_getElem (by omega)⟩
  clear hops hlen
  have hb0 := addI_bd N 0 (by omega) (by omega)
  have HA0 : Hid _ := add_any N 0
  generalize addI N 0 = n0 at *
  go_enter Try.func3, Try.ntmps3
  go_wp2_with fail
  refine (HA0.out _ (by omega) (by omega)).mono ?_
  rintro e w1 ⟨rfl, rfl⟩
  clear HA0
  go_wp2_with fail
  go_loopw [3, 4] (fun v i wr => ∃ (k : Nat) (n : Int), k ≤ N ∧ i = .int .i64 k ∧ v = .int .i64 n ∧ 0 ≤ n ∧ n ≤ 4294967294 ∧ (n ≤ 2147483647 → N ≤ 2147483647 ∧ ∀ (j : Nat) (o : OpV), j < k → ops[j]? = some o → o.s.size ≤ 2147483647 ∧ o.n ≤ 2147483647) ∧
      Below w1.heap.size w1 wr) (fun _ i _ => N - (intOf i).toNat)
  case atStart => exact ⟨0, n0, Nat.zero_le _, rfl, rfl, hb0.1, hb0.2.1, fun h => ⟨by have := hb0.2.2 h; omega, fun j o hj => by omega⟩, Below.refl _ _⟩
  case round =>
    clear hb0
    obtain ⟨k, n, hk, rfl, rfl, hn0, hn1, hbd, hbel⟩ := hrel
    have HBD : Hid (n ≤ 2147483647 → N ≤ 2147483647 ∧ ∀ (j : Nat) (o : OpV), j < k → ops[j]? = some o → o.s.size ≤ 2147483647 ∧ o.n ≤ 2147483647) := hbd
    clear hbd
    by_cases hlt : k < N
    · by_cases hnm : n ≤ 2147483647
      · obtain ⟨o, ho⟩ := HG.out k hlt
        have hoa := (HO.out k o ho).below hbel
        have c1 := hoa.c1
        have c3 := hoa.c3
        have z1 := hoa.hs
        have z2 := hoa.hn
        unfold maxLen at z1 z2
        have HK : Hid (ops[k]? = some o) := ho
        have b1 := addI_bd o.s.size o.n (by omega) (by omega)
        have b2 := addI_bd n (addI o.s.size o.n) (by omega) (by omega)
        have A1 : Hid _ := add_any o.s.size o.n
        have A2 : Hid _ := add_any n (addI o.s.size o.n)
        clear hoa ho
        generalize addI o.s.size o.n = t1 at *
        generalize addI n t1 = t2 at *
        have i1 : (0 : Int) ≤ (k : Int) := by omega
        have i2 : (k : Int) < (N : Int) := by omega
        go_wp2_with fail
        go_quiet ((first | (go_at_call_of 8 (o.s.size); exact Calls.quiet_of_same (A1.out _ (by omega) (by omega))) | (go_at_call 8; exact Calls.quiet_of_same (A2.out _ (by omega) (by omega)))))
        have RR : Hid (t2 ≤ 2147483647 → N ≤ 2147483647 ∧ ∀ (j : Nat) (o : OpV), j < k + 1 → ops[j]? = some o → o.s.size ≤ 2147483647 ∧ o.n ≤ 2147483647) := by
          intro ht
          have q := b2.2.2 ht
          have q2 := b1.2.2 q.2
          refine ⟨(HBD.out hnm).1, fun j o' hj ho' => ?_⟩
          by_cases e : j = k
          · subst e
            rw [HK.out] at ho'
            cases ho'
            omega
          · exact (HBD.out hnm).2 j o' (by omega) ho'
        clear A1 A2 c1 c3
        go_wp2_with fail
        exact ⟨⟨k + 1, t2, hlt, by go_num, rfl, b2.1, b2.2.1, RR.out, below_drewN hbel _⟩, by simp [intOf]; omega⟩
      · go_wp2_with fail
        go_ret
        exact ⟨rfl, hbel⟩
    · by_cases hnm : n ≤ 2147483647
      · have hke : k = N := by omega
        have HB2 : Hid (∀ (j : Nat) (o : OpV), ops[j]? = some o → j < N → o.s.size ≤ 2147483647 ∧ o.n ≤ 2147483647) := fun j o ho hj => (HBD.out hnm).2 j o (by omega) ho
        have hNm : N ≤ 2147483647 := (HBD.out hnm).1
        have HO2 : Hid (∀ (i : Nat) (o : OpV), ops[i]? = some o → OpAt wr b (off + i * 4) o) := fun i o ho => (HO.out i o ho).below hbel
        clear HBD HO hke hk
        obtain ⟨w2, e2⟩ : ∃ w2, w2 = wr := ⟨wr, rfl⟩
        subst e2
        go_wp2_with fail
        go_loopw [5, 6, 7] (fun vt vw i wr => ∃ (q m : Nat) (G : List (Nat × Nat)) (U : List Value) (Ls : List (List Nat)), q ≤ N ∧ i = .int .i64 q ∧ m ≤ q ∧ Inv w2.heap.size wr m vt vw G U Ls ∧ Below w2.heap.size w2 wr) (fun _ _ i _ => N - (intOf i).toNat)
        case atStart =>
          exact ⟨0, 0, [], [], [], Nat.zero_le _, rfl, Nat.le_refl _, inv_nil _ _, Below.refl _ _⟩
        case round =>
          obtain ⟨q, m, G, U, Ls, hq, rfl, hmq, hinv, hb3⟩ := hrel
          have hbz3 := hb3.size
          have HI : Hid (Inv w2.heap.size wr m _ _ G U Ls) := hinv
          clear hinv
          by_cases hlq : q < N
          · obtain ⟨o, ho⟩ := HG.out q hlq
            have hoa := (HO2.out q o ho).below hb3
            have hsz := HB2.out q o ho hlq
            have HR : Hid (Row wr o.ao o.n o.zs) := hoa.row
            have c0 := hoa.c0
            have c1 := hoa.c1
            have c2 := hoa.c2
            have c3 := hoa.c3
            clear hoa ho
            have i1 : (0 : Int) ≤ (q : Int) := by omega
            have i2 : (q : Int) < (N : Int) := by omega
            go_wp2_with fail
            refine (one_any o _ _ _ w2.heap.size m (G.map tv) U hsz.1 hsz.2 HR.out (by omega) hbz3 HI.out.told HI.out.want HI.out.apart).mono ?_
            rintro e w4 hop
            obtain ⟨vt', vw', m', G', U', Ls', rfl, hm', hinv', hb4⟩ := HI.out.step hop hbz3
            have HI4 : Hid (Inv w2.heap.size w4 m' vt' vw' G' U' Ls') := hinv'
            have hb5 : Below w2.heap.size w2 w4 := hb3.trans hb4
            clear hop hinv' hb4 hb3 HI HR c0 c1 c2 c3
            go_wp2_with fail
            exact ⟨⟨q + 1, m', G', U', Ls', hlq, by go_num, by omega, HI4.out, hb5⟩, by simp [intOf]; omega⟩
          · have hB3 : Below w1.heap.size w1 wr := hbel.trans (hb3.mono hbel.size)
            clear HO2 HB2 HG
            obtain ⟨w3, e3⟩ : ∃ w3, w3 = wr := ⟨wr, rfl⟩
            subst e3
            by_cases hm0 : m = 0
            · subst hm0
              obtain ⟨ao5, c5, rfl⟩ := own_some HI.out.told
              clear HI
              go_wp2_with fail
              refine wp_loop_rounds 1 ?_
              rw [rounds_succ]
              go_wp2_with fail
              refine (owned_nil ao5 c5 _).mono ?_
              rintro e w5 ⟨rfl, rfl⟩
              go_wp2_with fail
              refine (awake_any _).mono ?_
              rintro e w6 ⟨rfl, hb6⟩
              have hB6 := hB3.trans (hb6.mono hB3.size)
              go_wp2_with fail
              go_ret
              exact ⟨rfl, hB6⟩
            · obtain ⟨gt, ct, rfl⟩ := own_pos HI.out.told (by omega)
              obtain ⟨gw, cw, rfl⟩ := own_pos HI.out.want (by omega)
              have HI3 : Hid (Inv w2.heap.size w3 m (.slice (some ⟨gt, 0, none⟩) m ct) (.slice (some ⟨gw, 0, none⟩) m cw) G U Ls) := HI.out
              clear HI
              go_wp2_with fail
              go_loopw [11] (fun i wr => ∃ (p : Nat), p ≤ m ∧ i = .int .i64 p ∧ Below w3.heap.size w3 wr) (fun i _ => m - (intOf i).toNat)
              case atStart => exact ⟨0, Nat.zero_le _, rfl, Below.refl _ _⟩
              case round =>
                obtain ⟨p, hp, rfl, hb6⟩ := hrel
                have hI := HI3.out.below hb6
                obtain ⟨hG, hU⟩ := hI.lenG
                by_cases hlp : p < m
                · obtain ⟨x, hx⟩ : ∃ x, G[p]? = some x := ⟨_, List.getElem?_eq_getElem (by omega)⟩
                  obtain ⟨u, hu⟩ : ∃ u, U[p]? = some u := ⟨_, List.getElem?_eq_getElem (by omega)⟩
                  obtain ⟨l, hl⟩ : ∃ l, Ls[p]? = some l := ⟨_, List.getElem?_eq_getElem (by have := hI.len; omega)⟩
                  obtain ⟨r1, r2, r3, r4⟩ := hI.row p x l hx hl
                  have hou := hI.ref p u l hu hl
                  have k1 : wr.cell? ⟨gt, p, none⟩ = some (.slice (some ⟨x.1, 0, none⟩) l.length l.length) := by
                    rw [hI.told.cellAt p (by omega), List.getElem?_map, hx, ← r1]; rfl
                  rw [ivs_eq] at hou
                  obtain ⟨au, cu, rfl, hru⟩ := own_shape hou
                  have k2 : wr.cell? ⟨gw, p, none⟩ = some (.slice au l.length cu) := by
                    rw [hI.want.cellAt p (by omega)]; exact hu
                  have hrx : Row wr (some ⟨x.1, 0, none⟩) l.length (l.map (fun i : Nat => (i : Int))) := by
                    refine ⟨by simp, fun j hj => ⟨x.1, 0, rfl, ?_⟩⟩
                    rw [Nat.zero_add, blk_cell r4]
                    simp [ivs, List.getD, hj]
                  have HS : Hid (∀ W : World, (W.cell? ⟨gt, p, none⟩ = some (.slice (some ⟨x.1, 0, none⟩) l.length l.length) ∧ W.cell? ⟨gw, p, none⟩ = some (.slice au l.length cu) ∧ Below wr.heap.size wr W) → Calls Try.prog 10 #[.slice (some ⟨x.1, 0, none⟩) l.length l.length, .slice au l.length cu] W fun e w' => e = .returned (.bool true) ∧ Below W.heap.size W w') := by
                    intro W hW'
                    have hW := hW'.2.2
                    have h := same_any (some ⟨x.1, 0, none⟩) au l.length l.length l.length cu _ _ W r2 r2 (hrx.below hW) (hru.below hW)
                    rw [decide_eq_true (rfl : l.map (fun i : Nat => (i : Int)) = l.map (fun i : Nat => (i : Int)))] at h
                    exact h
                  have i1 : (0 : Int) ≤ (p : Int) := by omega
                  have i2 : (p : Int) < (m : Int) := by omega
                  clear hI hG hU hx hu hl r1 r2 r3 r4 hou hru hrx
                  obtain ⟨w7, e7⟩ : ∃ w7, w7 = wr := ⟨wr, rfl⟩
                  subst e7
                  go_wp2_with fail
                  go_region_held3 (fun w' => w'.cell? ⟨gt, p, none⟩ = some (.slice (some ⟨x.1, 0, none⟩) l.length l.length) ∧ w'.cell? ⟨gw, p, none⟩ = some (.slice au l.length cu) ∧ Below w7.heap.size w7 w') (first | (exact keepT (B := 0) (Nat.zero_le _) (by assumption) (by assumption)) | (exact ⟨k1, k2, (Below.refl _ _).drew⟩) | go_keep) (first | (go_at_call 10; refine (HS.out _ (by assumption)).mono ?_; rintro e w8 ⟨rfl, hb8⟩))
                  all_goals
                    have hS8 : w8.cell? ⟨gt, p, none⟩ = some (.slice (some ⟨x.1, 0, none⟩) l.length l.length) ∧ w8.cell? ⟨gw, p, none⟩ = some (.slice au l.length cu) ∧ Below w7.heap.size w7 w8 := by assumption
                    have hfin := hS8.2.2
                    clear hS8
                    have hb9 := hb6.trans (hfin.mono hb6.size)
                    go_wp2_with fail
                    exact ⟨⟨p + 1, hlp, by go_num, hb9⟩, by simp [intOf]; omega⟩
                · have hpe : p = m := by omega
                  have hbz2 := hb3.size
                  have hbz6 := hb6.size
                  have HOW : Hid (Calls Try.prog 11 #[.slice (some ⟨gt, 0, none⟩) m ct] wr fun e w' => e = .returned (.bool true) ∧ Below w2.heap.size wr w') := by
                    have hTB : TB G wr (fun i => ivs (Ls.getD i [])) := by
                      intro i x hx
                      have hi : i < G.length := (List.getElem?_eq_some_iff.1 hx).1
                      obtain ⟨l, hl⟩ : ∃ l, Ls[i]? = some l := ⟨_, List.getElem?_eq_getElem (by have := hI.len; omega)⟩
                      obtain ⟨r1, r2, r3, r4⟩ := hI.row i x l hx hl
                      have e : Ls.getD i [] = l := by simp [List.getD, hl]
                      dsimp only
                      rw [e]
                      exact ⟨r4, by rw [ivs_len, r1]⟩
                    have h := owned_some G gt ct w2.heap.size (fun i => ivs (Ls.getD i [])) wr (by omega) (by omega) (fun i x hx => by
                      have hi : i < G.length := (List.getElem?_eq_some_iff.1 hx).1
                      obtain ⟨l, hl⟩ : ∃ l, Ls[i]? = some l := ⟨_, List.getElem?_eq_getElem (by have := hI.len; omega)⟩
                      obtain ⟨r1, r2, r3, r4⟩ := hI.row i x l hx hl
                      exact ⟨by omega, r3⟩) hI.dist hTB (by rw [hG]; exact hI.told) (by omega)
                    rw [hG] at h
                    exact h
                  clear hI hG hU HI3
                  go_wp2_with fail
                  refine (HOW.out).mono ?_
                  rintro e w9 ⟨rfl, hb9⟩
                  have hz9 := hb9.size
                  have hzz := hbel.size
                  have hB9 : Below w1.heap.size w1 w9 := (hB3.trans (hb6.mono (by omega))).trans (hb9.mono (by omega))
                  clear HOW hb9
                  go_wp2_with fail
                  refine (awake_any _).mono ?_
                  rintro e w10 ⟨rfl, hb10⟩
                  have hB10 : Below w1.heap.size w1 w10 := hB9.trans (hb10.mono hB9.size)
                  go_wp2_with fail
                  go_ret
                  exact ⟨rfl, hB10⟩
      · go_wp2_with fail
        go_ret
        exact ⟨rfl, hbel⟩
end Go.Proofs.Ytgjbkdnefbnclaa
