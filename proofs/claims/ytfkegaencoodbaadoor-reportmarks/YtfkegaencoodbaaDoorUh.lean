import Derived.Test.YtfkegaencoodbaaDoorUg
set_option linter.unusedVariables false
set_option linter.unusedSimpArgs false
namespace Go.Proofs.YtfkegaencoodbaaDoor
open Go.RowKit

/-! ReportMarks, over what report.Show answers. -/
theorem row_cell {W : World} {B g n cap : Nat} {l : List Nat} (h : W.ownsRow B 3 1 (.slice (some ⟨g, 0, none⟩) n cap) n (ivs l)) {k : Nat} {x : Nat} (hk : l[k]? = some x) : W.cell? ⟨g, k, none⟩ = some (.int .i64 (x : Int)) := by
  have := h.cells (g := g) rfl k (.int .i64 (x : Int)) (by unfold ivs; rw [List.getElem?_map, hk]; rfl)
  rw [Addr.add_lit, Nat.zero_add] at this
  exact this
theorem rsh_sz {name s : ByteArray} {c y z : Int} (hc : i64 c) (hy : i64 y) (hz : i64 z) : (rshB name s c y z).size ≤ name.size + 200 + 12 * s.size := by
  have h1 := hdB_sz (name := name) hc hy hz
  have h2 := shB_sz (lineS s y) (P (lineS s y)).length
  have h3 := lineS_le s y
  have h4 := P_len (lineS s y)
  have h5 : (cfB (lineS s y) (z - 1)).toNat ≤ 8 * s.size := by
    unfold cfB
    split
    · rename_i h
      have h6 := tw_bd (shB (lineS s y) (z - 1).toNat)
      have h7 := shB_sz (lineS s y) (z - 1).toNat
      omega
    · exact Nat.zero_le _
  unfold rshB
  split
  · simp only [ByteArray.size_append, blk8_sz]
    have z1 : (⟨#[32, 32]⟩ : ByteArray).size = 2 := rfl
    have z2 : (⟨#[10, 32, 32]⟩ : ByteArray).size = 3 := rfl
    have z3 : (⟨#[94, 10]⟩ : ByteArray).size = 2 := rfl
    omega
  · omega
theorem plus_at (s : ByteArray) (k : Nat) (hk : k ≤ (P s).length) : (P s ++ [s.size])[k]? = some (st s k) := by
  rcases Nat.lt_or_ge k (P s).length with h | h
  · rw [List.getElem?_append_left h, P_at s k h]
  · have e : k = (P s).length := by omega
    subst e
    rw [List.getElem?_append_right (Nat.le_refl _), Nat.sub_self, st_end s _ (Nat.le_refl _)]
    rfl
set_option maxHeartbeats 2000000 in
set_option maxRecDepth 100000 in
theorem rmarks_walk {s : ByteArray} {at' : Int} {W : World} (hs : s.size ≤ maxLen) (ha : i64 at') (hR : RsP W) :
    Calls Tryd.prog 5 #[.string s, .int .i64 at'] W fun e w' => e = .returned (.bool true) ∧ Below W.heap.size W w' := by
  have HA : Hid (Calls Tryd.prog 6 #[] W fun e w' => e = .returned (.bool true) ∧ Below W.heap.size W w') := rawake_any hR
  unfold maxLen at hs
  by_cases hbig : 4194304 < s.size
  · have q : (s.size : Int) > 4194304 := by omega
    clear hbig hR
    go_enter Tryd.func5, Tryd.ntmps5
    go_wp2_with fail
    refine HA.out.mono ?_
    rintro e w1 ⟨rfl, hb1⟩
    have H1 : Hid (Below W.heap.size W w1) := hb1
    clear hb1 HA
    go_wp2_with fail
    go_ret
    exact ⟨rfl, H1.out⟩
  have q : ¬ ((s.size : Int) > 4194304) := by omega
  obtain ⟨n, hP⟩ : ∃ n, (P s).length = n := ⟨_, rfl⟩
  have hn : n ≤ 4194304 := by have := P_len s; omega
  have HPl : Hid (∀ U, Calls Tryd.prog 10 #[.string s] U fun e w' => e = .returned (.slice (some ⟨U.heap.size + 1, 0, none⟩) n n) ∧ w'.ownsRow (U.heap.size + 1) 3 1 (.slice (some ⟨U.heap.size + 1, 0, none⟩) n n) n (ivs (P s)) ∧ Below U.heap.size U w') := fun U => by rw [← hP]; exact places_any s U (by omega)
  -- which place
  obtain ⟨a, hca⟩ : ∃ a : Nat, (at' < 0 ∧ -(at' + 1) = (a : Int)) ∨ (¬ at' < 0 ∧ at' = (a : Int)) := by
    by_cases h : at' < 0
    · exact ⟨(-(at' + 1)).toNat, .inl ⟨h, by omega⟩⟩
    · exact ⟨at'.toNat, .inr ⟨h, by omega⟩⟩
  obtain ⟨k, hk⟩ : ∃ k, a % (n + 1) = k := ⟨_, rfl⟩
  have hkn : k ≤ n := by have := Nat.mod_lt a (show 0 < n + 1 by omega); omega
  have haz : a ≤ 9223372036854775807 := by unfold i64 at ha; omega
  obtain ⟨b, hb⟩ : ∃ b, st s k = b := ⟨_, rfl⟩
  have hbs : b ≤ s.size := by rw [← hb]; exact st_le s k
  obtain ⟨y, hy⟩ : ∃ y : Nat, pLn s k = y := ⟨_, rfl⟩
  obtain ⟨z, hz⟩ : ∃ z : Nat, pCl s k = z := ⟨_, rfl⟩
  have hyz : y ≤ 100000000 ∧ z ≤ 100000000 := by
    have h1 := cn_le s (st s k)
    have h2 := cnt_le s (lf s (st s k)) (st s k) (st_le s k)
    have h3 := st_le s k
    unfold pLn at hy
    unfold pCl at hz
    omega
  have HO : Hid (∀ U, Calls Tryd.prog 11 #[.string s, .int .i64 (b : Int)] U fun e w' => e = .returned (.tuple #[.agg #[.int .i64 (b : Int), .int .i64 (y : Int), .int .i64 (z : Int)], .int .i64 0]) ∧ Below U.heap.size U w') := fun U => by
    have h := of_in s b U (by omega) hbs
    obtain ⟨e1, e2, e3⟩ := place_at9 s k (by omega)
    rw [hb] at e1 e2 e3
    rw [e1, e2, e3, hy, hz] at h
    exact h
  have hm := mark_at s k (by omega)
  rw [hy, hz] at hm
  obtain ⟨T, hT⟩ : ∃ T, rshB ⟨#[]⟩ s 1 y z = T := ⟨_, rfl⟩
  obtain ⟨hG, hT2, hT94⟩ := mark_gt (c := 1) hm
  rw [hT] at hG hT2 hT94
  have hTz : T.size ≤ 2000000000 := by
    have h := rsh_sz (name := ⟨#[]⟩) (s := s) (c := 1) (y := y) (z := z) (by unfold i64; omega) (by unfold i64; omega) (by unfold i64; omega)
    rw [hT] at h
    have : (⟨#[]⟩ : ByteArray).size = 0 := rfl
    omega
  have HS : Hid (∀ U g, Below W.heap.size W U → U.heap[g]? = some (ftb 1 b y z) → Calls Tryd.prog 8 #[.string ⟨#[]⟩, .string s, ftp (some ⟨g, 0, none⟩)] U (AnS U T)) := fun U g h h1 => by rw [← hT]; exact hR.flt ⟨#[]⟩ s 1 b y z g U (by show 0 + s.size ≤ _; omega) (by unfold i64; omega) (by unfold i64; omega) (by unfold i64; omega) h h1
  have HV : Hid (∀ U, Calls Tryd.prog 12 #[.string T] U fun e w' => e = .returned (.bool true) ∧ Below U.heap.size U w') := fun U => by
    have h := valid_any T U (by omega)
    rw [hG.vl] at h
    exact h
  have HG : Hid (Gt T 3) := hG
  have hat := plus_at s k (by omega)
  rw [hb] at hat
  have HAT : Hid ((P s ++ [s.size])[k]? = some b ∧ (P s).length = n) := ⟨hat, hP⟩
  have r2 : Int.tmod (a : Int) ((n + 1 : Nat) : Int) = k := by rw [Int.tmod_eq_emod_of_nonneg (by omega), ← hk]; exact (Int.natCast_emod a (n + 1)).symm
  have r1 : Int.tmod (a : Int) ((n : Int) + 1) = k := r2
  clear hbig hR hm hT hG hy hz hat hP hk
  go_enter Tryd.func5, Tryd.ntmps5
  go_wp2_with fail
  refine HA.out.mono ?_
  rintro e w1 ⟨rfl, hb1⟩
  have H1 : Hid (Below W.heap.size W w1) := hb1
  clear hb1 HA
  rcases hca with ⟨h1, h2⟩ | ⟨h1, h2⟩
  case' inl =>
    have h3 : at' + 1 ≤ 0 := by omega
    unfold i64 at ha
    go_wp2_with fail
  case' inr =>
    unfold i64 at ha
    go_wp2_with fail
  all_goals (
    refine (HPl.out _).mono ?_
    rintro e w2 ⟨rfl, hr2, hb2⟩
    obtain ⟨g, hg⟩ : ∃ g, w1.heap.size + 1 = g := ⟨_, rfl⟩
    rw [hg] at hr2
    rw [hg]
    have hal : Below w2.heap.size w2 (w2.alloc (.cells #[.int .i64 s.size] 3)) := (Below.refl _ _).alloc (Nat.le_refl _) _
    have H2 : Hid (Below W.heap.size W (w2.alloc (.cells #[.int .i64 s.size] 3)) ∧ W.heap.size ≤ g) := ⟨by have h := H1.out.trans (hb2.mono H1.out.size); exact h.trans (hal.mono h.size), by have := H1.out.size; omega⟩
    have HR : Hid ((w2.alloc (.cells #[.int .i64 s.size] 3)).ownsRow g 3 1 (.slice (some ⟨g, 0, none⟩) n n) n (ivs (P s)) ∧ g ≤ (w2.alloc (.cells #[.int .i64 s.size] 3)).heap.size) := ⟨hr2.alloc _, by have := (hr2.lt g rfl).2; rw [World.size_alloc]; omega⟩
    have HQ : Hid (∀ v w3, w3.ownsRow g 3 1 v (n + 1) (ivs (P s) ++ [.int .i64 (s.size : Int)]) → (w2.alloc (.cells #[.int .i64 s.size] 3)).grownBy w3 (some g) → ∃ p c, v = .slice (some ⟨p, 0, none⟩) (n + 1) c ∧ w3.cell? ⟨p, k, none⟩ = some (.int .i64 (b : Int)) ∧ Below W.heap.size W w3) := fun v w3 h3 hg3 => by
      have h4 : w3.ownsRow g 3 1 v (n + 1) (ivs (P s ++ [s.size])) := by
        have e9 : ivs (P s ++ [s.size]) = ivs (P s) ++ [.int .i64 (s.size : Int)] := by simp [ivs]
        rw [e9]
        exact h3
      obtain ⟨p, c, rfl, -, -⟩ := h4.form (by omega)
      exact ⟨p, c, rfl, row_cell h4 HAT.out.1, H2.out.1.grown hg3 H2.out.1.size (fun j e => by cases e; exact H2.out.2)⟩
    obtain ⟨i0, hi0, hz0, hz1, hz2⟩ := info_parts Tryd.info3
    clear hr2 hb2 hal H1 HPl
    go_wp2_with (at_builtin; refine wpList_append_own_at (P := Tryd.prog) (w := w2.alloc (.cells #[.int .i64 s.size] 3)) rfl _ _ 38 rfl g 3 i0 (.int .i64 0) 1 8 Tryd.underlying38 hi0 hz0 hz1 hz2 rfl (by decide) (.slice (some ⟨g, 0, none⟩) n n) n (ivs (P s)) rfl HR.out.1 ⟨w2.heap.size, 0, none⟩ 1 1 [.int .i64 s.size] rfl rfl (fun j u hu => World.news_of_block (new_at w2 _) j u (by simpa using hu)) (by intro u hu; simp at hu; subst hu; rfl) (by unfold maxLen; omega) (by omega) HR.out.2 ?_; intro v' w3 h3 hg3 _ _; obtain ⟨p3, k3, rfl, hc3, hb3⟩ := HQ.out v' w3 h3 hg3; have H3 : Hid (Below W.heap.size W w3) := hb3; clear h3 hg3 hb3)
    refine (HO.out _).mono ?_
    rintro e w4 ⟨rfl, hb4⟩
    obtain ⟨V4, hV4⟩ : ∃ V4, w4.alloc (.cells #[.int .i64 (b : Int), .int .i64 (y : Int), .int .i64 (z : Int)] 24) = V4 := ⟨_, rfl⟩
    obtain ⟨g4, hg4⟩ : ∃ g4, w4.heap.size = g4 := ⟨_, rfl⟩
    have hx4 : Below w4.heap.size w4 V4 := by rw [← hV4]; exact (Below.refl _ _).alloc (Nat.le_refl _) _
    have k4 : V4.heap[g4]? = some (.cells #[.int .i64 (b : Int), .int .i64 (y : Int), .int .i64 (z : Int)] 24 (0, 0)) := by rw [← hV4, ← hg4]; exact new_at _ _
    have H4 : Hid (Below W.heap.size W V4) := by have h := H3.out.trans (hb4.mono H3.out.size); exact h.trans (hx4.mono h.size)
    have p0 : V4.cell? ⟨g4, 0, none⟩ = some (.int .i64 (b : Int)) := blk_cell k4 rfl
    have p1 : V4.cell? ⟨g4, 1, none⟩ = some (.int .i64 (y : Int)) := blk_cell k4 rfl
    have p2 : V4.cell? ⟨g4, 2, none⟩ = some (.int .i64 (z : Int)) := blk_cell k4 rfl
    have hal : Below V4.heap.size V4 (V4.alloc (ftb 1 b y z)) := (Below.refl _ _).alloc (Nat.le_refl _) _
    have HX : Hid (Calls Tryd.prog 8 #[.string ⟨#[]⟩, .string s, ftp (some ⟨V4.heap.size, 0, none⟩)] (V4.alloc (ftb 1 b y z)) (AnS (V4.alloc (ftb 1 b y z)) T) ∧ Below W.heap.size W (V4.alloc (ftb 1 b y z))) := by
      have h9 := H4.out.trans (hal.mono H4.out.size)
      exact ⟨HS.out _ _ h9 (new_at _ _), h9⟩
    clear hb4 hx4 k4 H3 HO hal hc3 HS
    go_wp2_with fail
    try rw [hV4]
    try rw [hg4]
    clear hV4 hg4
    go_wp2_with fail
    refine HX.out.1.mono ?_
    rintro e w5 ⟨rfl, hb5⟩
    have H5 : Hid (Below W.heap.size W w5) := HX.out.2.trans (hb5.mono HX.out.2.size)
    clear hb5 H4 HX p0 p1 p2
    go_wp2_with fail
    go_loopw [10, 11] (fun c i wr => ∃ j : Nat, j ≤ T.size ∧ i = .int .i64 j ∧ c = .int .i64 (lc T j) ∧ Hid (Below W.heap.size W wr)) (fun _ i _ => T.size - (intOf i).toNat)
    case atStart => exact ⟨0, Nat.zero_le _, rfl, rfl, H5.out⟩
    case round =>
      obtain ⟨j, hj, rfl, rfl, HJ⟩ := hrel
      clear H5
      by_cases hlt : j < T.size
      · have q1 : (j : Int) < T.size := by omega
        have hlow := HG.out.low j hlt
        have hlc : lc T (j + 1) = lc T j + (if by8 T j = 10 then 1 else 0) := rfl
        have hlb : lc T j ≤ j := by
          clear hlc hlow q1 hlt hj
          induction j with
          | zero => exact Nat.le_refl _
          | succ j ih =>
            show lc T j + _ ≤ _
            split <;> omega
        by_cases h10 : by8 T j = 10
        · have x1 : ((T[j]'hlt).toNat : Int) < 32 := by rw [by8_get T j hlt, h10]; decide
          have x2 : (((T[j]'hlt).toNat : Int) != 10) = false := by rw [by8_get T j hlt, h10]; rfl
          have x3 : (((T[j]'hlt).toNat : Int) == 10) = true := by rw [by8_get T j hlt, h10]; rfl
          rw [if_pos h10] at hlc
          have HL : Hid (lc T (j + 1) = lc T j + 1) := hlc
          clear hlow hlc h10
          go_wp2_with fail
          exact ⟨⟨j + 1, hlt, by go_num, by rw [HL.out]; go_num, HJ⟩, by simp [intOf]; omega⟩
        · have x1 : ¬ ((T[j]'hlt).toNat : Int) < 32 := by
            rw [by8_get T j hlt]
            intro h9
            exact h10 (hlow (by omega))
          have x3 : (((T[j]'hlt).toNat : Int) == 10) = false := by
            rw [by8_get T j hlt, beq_eq_false_iff_ne]
            intro h9
            exact h10 (by omega)
          rw [if_neg h10, Nat.add_zero] at hlc
          have HL : Hid (lc T (j + 1) = lc T j) := hlc
          clear hlow hlc h10
          go_wp2_with fail
          exact ⟨⟨j + 1, hlt, by go_num, by rw [HL.out], HJ⟩, by simp [intOf]; omega⟩
      · obtain rfl : j = T.size := by omega
        have q1 : ¬ ((T.size : Int) < T.size) := by omega
        rw [HG.out.lns]
        obtain ⟨m, hm⟩ : ∃ m, T.size - 2 = m := ⟨_, rfl⟩
        have h9 : m < T.size := by omega
        have x9 : (T.size : Int) - 2 = m := by omega
        rw [hm] at hT94
        have x8 : (((T[m]'h9).toNat : Int) == 94) = true := by rw [by8_get T m h9, hT94]; rfl
        clear hm hT94
        go_wp2_with fail
        refine (HV.out _).mono ?_
        rintro e w6 ⟨rfl, hb6⟩
        have H6 : Hid (Below W.heap.size W w6) := HJ.out.trans (hb6.mono HJ.out.size)
        clear hb6 HJ HV
        go_wp2_with fail
        go_ret
        exact ⟨rfl, H6.out⟩)

end Go.Proofs.YtfkegaencoodbaaDoor
