import Derived.Test.YtlohgdblcbkiiaaDoorKk
import Derived.Deep.RegionWith
import Derived.ArgAppend
import Derived.OneCell
import Derived.Laws.Cover1
set_option linter.unusedVariables false
set_option linter.unusedSimpArgs false
namespace Go.Proofs.YtlohgdblcbkiiaaDoor
open Go.RowKit Go.Deep

theorem words_rise (k : Nat) (h0 : 0 < k) (h : k < 24) : Op.bytesLess (wordL.getD (k - 1) ByteArray.empty).toList (wordL.getD k ByteArray.empty).toList = true := by
  rw [tl_data, tl_data]
  have : ∀ k, k < 24 → 0 < k → Op.bytesLess (wordL.getD (k - 1) ByteArray.empty).data.toList (wordL.getD k ByteArray.empty).data.toList = true := by decide +kernel
  exact this k h h0
theorem words_key (k : Nat) (h : k < 24) : ky (wordL.getD k ByteArray.empty) = true := ky_hit _ k h rfl
theorem words_len (k : Nat) (h : k < 24) : (wordL.getD k ByteArray.empty).size ≤ 2147483647 := by
  have : ∀ k, k < 24 → (wordL.getD k ByteArray.empty).size ≤ 2147483647 := by decide +kernel
  exact this k h

theorem SRow.set {w : World} {b n : Nat} {xs : List ByteArray} (h : SRow w b n xs) {a : Addr} (ha : a.block ≠ b) (u : Value) : SRow (w.setCell a u) b n xs := by
  refine ⟨h.1, fun j hj => ?_⟩
  rw [World.cell?_setCell_other w a ⟨b, j, none⟩ u (fun e => ha (by rw [e]))]; exact h.2 j hj

/-- What the law's first loop keeps: the rows of b and of want. -/
structure KR (w W : World) (gb gw : Nat) : Prop where
  rb : SRow W gb 24 wordL
  rw : SRow W gw 24 wordL
  bel : Below w.heap.size w W
theorem KR.below {w W W' : World} {gb gw : Nat} (h : KR w W gb gw) (hb : Below W.heap.size W W') : KR w W' gb gw := ⟨h.rb.below hb, h.rw.below hb, h.bel.trans (hb.mono h.bel.size)⟩

theorem words_cells {W : World} {g : Nat} (h : SRow W g 24 wordL) : ∀ j u, (sv wordL)[j]? = some u → W.cell? ((⟨g, 0, none⟩ : Addr).add j) = some u := by
  intro j u hu
  have hj : j < 24 := by
    have := (List.getElem?_eq_some_iff.1 hu).1
    rw [sv, List.length_map] at this
    exact this
  rw [Addr.add_lit, Nat.zero_add, h.2 j hj]
  unfold sv at hu
  rw [List.getElem?_map, List.getElem?_eq_getElem (show j < wordL.length from hj)] at hu
  rw [List.getD, List.getElem?_eq_getElem (show j < wordL.length from hj)]
  simpa using hu

theorem wtab_dn {w : World} (h : WTab w) (m : Nat) : WTab (w.drewN m) := h.below (below_dn (Below.refl _ _) m)

theorem isName_key (s : ByteArray) (w : World) (hT : WTab w) (hk : ky s = true) :
    Calls Tryd.prog 13 #[.string s] w fun e w' => e = .returned (.bool false) ∧ w' = w := by
  cases he : s.toList.isEmpty
  · go_enter Tryd.func13, Tryd.ntmps13
    go_wp2_with fail
    refine (isKey_any s w hT).mono ?_
    rintro e w1 ⟨rfl, rfl⟩
    rw [hk]
    go_wp2_with fail
    go_ret
    exact ⟨rfl, rfl⟩
  · go_enter Tryd.func13, Tryd.ntmps13
    go_wp2_with fail
    go_ret
    exact ⟨rfl, rfl⟩

theorem cell_b {w w' : World} {a : Addr} {v : Value} (h : w.cell? a = some v) (hb : Below w.heap.size w w') : w'.cell? a = some v :=
  (hb.cell (p := a) (World.block_lt_of_cell? w _ h)).trans h

/-- An owned row of 25 texts: where it lies, and what its last cell holds. -/
theorem last25 {w : World} {base : Nat} {v : Value} {x : ByteArray} (h : w.ownsRow base 9 1 v (24 + 1) (sv wordL ++ [.string x])) : ∃ g cap, v = .slice (some ⟨g, 0, none⟩) 25 cap ∧ w.cell? ⟨g, 24, none⟩ = some (.string x) := by
  rcases h.2 with ⟨_, h'⟩ | ⟨g, cap, cur, rfl, _⟩
  · cases h'
  · refine ⟨g, cap, rfl, ?_⟩
    have := h.cells (g := g) rfl 24 (.string x) (by
      rw [List.getElem?_append_right (by rw [sv, List.length_map]; exact Nat.le_refl _)]
      rw [sv, List.length_map]; rfl)
    rw [Addr.add_lit, Nat.zero_add] at this
    exact this

set_option maxRecDepth 100000 in
set_option maxHeartbeats 1000000 in
theorem classKeys_walk (w : World) (hT : Kab w) :
    Calls Tryd.prog 3 #[] w fun e w' => e = .returned (.bool true) ∧ Below w.heap.size w w' := by
  obtain ⟨i0, hi, hz0, hz1, hz2⟩ := info_parts Tryd.info9
  have HT : Hid (Kab w) := hT
  clear hT
  go_enter Tryd.func3, Tryd.ntmps3
  go_wp2_with fail
  refine (keys_any w HT.out.2.1).mono ?_
  rintro e w1 ⟨rfl, hA1, hb1⟩
  go_wp2_with fail
  refine (keys_any w1 (HT.out.2.1.below hb1)).mono ?_
  rintro e w2 ⟨rfl, hB2, hb2⟩
  have hA2 := own_below hA1 hb2
  have hb2' := hb1.trans (hb2.mono hb1.size)
  have hgb : w1.heap.size < w2.heap.size := (hB2.lt w1.heap.size rfl).2
  have hga : w.heap.size < w1.heap.size := (hA1.lt w.heap.size rfl).2
  go_wp2_with fail
  refine (rkeys_any w2).mono ?_
  rintro e w3 ⟨rfl, hW3, hb3⟩
  have hA3 := own_below hA2 hb3
  have hk3 : KR w w3 w1.heap.size w2.heap.size := ⟨(srow_own hB2).below hb3, hW3, hb2'.trans (hb3.mono hb2'.size)⟩
  clear hA1 hA2 hB2 hW3 hb1 hb2 hb3 hb2'
  generalize hea : w.heap.size = ga at *
  have HEA : Hid (w.heap.size = ga) := hea
  generalize w1.heap.size = gb at *
  generalize w2.heap.size = gw at *
  go_wp2_with fail
  refine (same24 ga gw 24 24 w3 (srow_own hA3) hk3.rw).mono ?_
  rintro e w4 ⟨rfl, hb4⟩
  have hA4 := own_below hA3 hb4
  have hk4 := hk3.below hb4
  clear hA3 hk3 hb4
  go_wp2_with fail
  refine (same24 gb gw 24 24 w4 hk4.rb hk4.rw).mono ?_
  rintro e w5 ⟨rfl, hb5⟩
  have hA5 := own_below hA4 hb5
  have hk5 := hk4.below hb5
  clear hA4 hk4 hb5
  go_wp2_with fail
  go_loopw [4] (fun i wr => ∃ (k : Nat) (xs : List Value), k ≤ 24 ∧ i = .int .i64 k ∧ wr.ownsRow ga 9 1 (.slice (some ⟨ga, 0, none⟩) 24 24) 24 xs ∧ KR w wr gb gw) (fun i _ => 24 - (intOf i).toNat)
  case atStart => exact ⟨0, _, by omega, rfl, hA5, hk5⟩
  case round =>
    clear hA5 hk5
    obtain ⟨k, xs, hk, rfl, hA, hK⟩ := hrel
    by_cases h24 : k < 24
    · have hlen : xs.length = 24 := by have := hA.1; simpa using this
      have q1 : wr.cell? ⟨ga, k, none⟩ = some (xs[k]'(by omega)) := by
        rw [hA.cellAt k (by omega), List.getElem?_eq_getElem]
      have q2 := hA.frozenAt k
      have i1 : (0 : Int) ≤ (k : Int) := by omega
      have i2 : (k : Int) < 24 := by omega
      generalize xs[k]'(by omega) = xk at *
      go_wp2_with fail
      refine ⟨⟨k + 1, xs.set k (.string ⟨#[111, 116, 104, 101, 114]⟩), by omega, by go_num, (hA.stored k _).1, hK.rb.set (by show ga ≠ gb; omega) _, hK.rw.set (by show ga ≠ gw; omega) _, hK.bel.setCell (by rw [HEA.out]; exact Nat.le_refl _) _⟩, by simp [intOf]; omega⟩
    · clear hA HEA
      obtain ⟨W, eW⟩ : ∃ W, W = wr := ⟨wr, rfl⟩
      subst eW
      go_wp2_with (first | (at_builtin; refine wpList_append_grows _ rfl _ _ 22 rfl 9 i0 (.string ByteArray.empty) 1 16 Tryd.underlying22 hi hz0 hz1 hz2 rfl (by decide) (some ⟨gb, 0, none⟩) 24 24 (sv wordL) rfl (fun h => by cases h) rfl ?c0 ⟨W.heap.size, 0, none⟩ 1 1 [.string ⟨#[109, 111, 114, 101]⟩] rfl rfl ?c1 ?c2 (by omega) ?c3 ?c4 ?_))
      case c0 => intro b hb; cases hb; exact words_cells (hK.rb.below ((Below.refl _ _).alloc (Nat.le_refl _) _))
      case c1 => exact one_new _ _ _ _ rfl
      case c2 => intro u hu; simp at hu; subst hu; rfl
      case c3 => unfold maxLen; omega
      case c4 => omega
      intro v6 w6 hown6 hgrow6
      have hb6 : Below W.heap.size W w6 := ((Below.refl _ _).alloc (Nat.le_refl _) _).grown hgrow6 (by simp) (fun _ h => by cases h)
      have hK6 := hK.below hb6
      obtain ⟨gc, cc, rfl, hc6⟩ := last25 hown6
      clear hown6 hgrow6 hb6 hK
      go_wp2_with fail
      refine (keys_any w6 (HT.out.2.1.below hK6.bel)).mono ?_
      rintro e w7 ⟨rfl, hD7, hb7⟩
      have hK7 := hK6.below hb7
      have hc7 := cell_b hc6 hb7
      have hd7 := srow_own hD7
      clear hb7 hK6 hc6 hD7
      generalize w6.heap.size = g6 at *
      go_wp2_with (first | (at_builtin; refine wpList_append_grows _ rfl _ _ 22 rfl 9 i0 (.string ByteArray.empty) 1 16 Tryd.underlying22 hi hz0 hz1 hz2 rfl (by decide) (some ⟨g6, 0, none⟩) 24 24 (sv wordL) rfl (fun h => by cases h) rfl ?c0 ⟨w7.heap.size, 0, none⟩ 1 1 [.string ⟨#[108, 101, 115, 115]⟩] rfl rfl ?c1 ?c2 (by omega) ?c3 ?c4 ?_))
      case c0 => intro b hb; cases hb; exact words_cells (hd7.below ((Below.refl _ _).alloc (Nat.le_refl _) _))
      case c1 => exact one_new _ _ _ _ rfl
      case c2 => intro u hu; simp at hu; subst hu; rfl
      case c3 => unfold maxLen; omega
      case c4 => omega
      intro v8 w8 hown8 hgrow8
      have hb8 : Below w7.heap.size w7 w8 := ((Below.refl _ _).alloc (Nat.le_refl _) _).grown hgrow8 (by simp) (fun _ h => by cases h)
      have hK8 := hK7.below hb8
      have hc8 := cell_b hc7 hb8
      obtain ⟨gd, cd, rfl, hd8⟩ := last25 hown8
      clear hown8 hgrow8 hb8 hK7 hc7 hd7
      go_wp2_with fail
      refine (same24 gb gw 24 24 w8 hK8.rb hK8.rw).mono ?_
      rintro e w9 ⟨rfl, hb9⟩
      have hK9 := hK8.below hb9
      have hc9 := cell_b hc8 hb9
      have hd9 := cell_b hd8 hb9
      clear hb9 hK8 hc8 hd8
      go_wp2_with fail
      refine (keys_any w9 (HT.out.2.1.below hK9.bel)).mono ?_
      rintro e wA ⟨rfl, hEA, hbA⟩
      have hKA := hK9.below hbA
      have hcA := cell_b hc9 hbA
      have hdA := cell_b hd9 hbA
      have heA := srow_own hEA
      clear hbA hK9 hc9 hd9 hEA
      generalize w9.heap.size = g9 at *
      go_wp2_with fail
      refine (same24 g9 gw 24 24 wA heA hKA.rw).mono ?_
      rintro e wB ⟨rfl, hbB⟩
      have hKB := hKA.below hbB
      have hcB := cell_b hcA hbB
      have hdB := cell_b hdA hbB
      clear hbB hKA hcA hdA heA
      go_wp2_with fail
      go_loopw [7] (fun i wr => ∃ k : Nat, k ≤ 24 ∧ i = .int .i64 k ∧ KR w wr gb gw) (fun i _ => 24 - (intOf i).toNat)
      case atStart => exact ⟨0, by omega, rfl, hKB⟩
      case round =>
        clear hKB hcB hdB
        obtain ⟨k, hk, rfl, hK⟩ := hrel
        by_cases h24 : k < 24
        · have c0 := hK.rw.2 k h24
          have i1 : (0 : Int) ≤ (k : Int) := by omega
          have i2 : (k : Int) < 24 := by omega
          have HTr : Hid (WTab wr) := HT.out.2.1.below hK.bel
          have K1 : Hid (∀ W, WTab W → Calls Tryd.prog 12 #[.string (wordL.getD k ByteArray.empty)] W fun e w' => e = .returned (.bool true) ∧ w' = W) := fun W hW => by
            have h := isKey_any (wordL.getD k ByteArray.empty) W hW
            rwa [words_key k h24] at h
          have K2 : Hid (∀ W, WTab W → Calls Tryd.prog 13 #[.string (wordL.getD k ByteArray.empty)] W fun e w' => e = .returned (.bool false) ∧ w' = W) := fun W hW =>
            isName_key (wordL.getD k ByteArray.empty) W hW (words_key k h24)
          by_cases hk0 : k = 0
          · have g1 : decide (0 < k) = false := by simp; omega
            have g2 : decide ((0 : Int) < (k : Int)) = false := by simp; omega
            have g3 : ¬ ((0 : Int) < (k : Int)) := by omega
            clear hk0
            generalize wordL.getD k ByteArray.empty = x at *
            go_wp2_with fail
            go_quiet ((first
              | (go_at_call 12; exact Calls.quiet_of_same (K1.out _ (wtab_dn HTr.out _)))
              | (go_at_call 13; exact Calls.quiet_of_same (K2.out _ (wtab_dn HTr.out _)))))
            go_wp2_with fail
            exact ⟨⟨k + 1, by omega, by go_num, hK.below (below_dn (Below.refl _ _) _)⟩, by simp [intOf]; omega⟩
          · have g1 : (0 : Int) < (k : Int) := by omega
            have c2 := hK.rw.2 (k - 1) (by omega)
            have HRI := words_rise k (by omega) h24
            obtain ⟨m, rfl⟩ : ∃ m, k = m + 1 := ⟨k - 1, by omega⟩
            rw [Nat.add_sub_cancel] at c2 HRI
            clear hk0
            generalize wordL.getD (m + 1) ByteArray.empty = x at *
            generalize wordL.getD m ByteArray.empty = y at *
            have i3 : (0 : Int) ≤ (m : Int) := by omega
            have i4 : (m : Int) < 24 := by omega
            go_wp2_with fail
            go_quiet ((first
              | (go_at_call 12; exact Calls.quiet_of_same (K1.out _ (wtab_dn HTr.out _)))
              | (go_at_call 13; exact Calls.quiet_of_same (K2.out _ (wtab_dn HTr.out _)))))
            go_wp2_with fail
            exact ⟨⟨m + 1 + 1, by omega, by go_num, hK.below (below_dn (Below.refl _ _) _)⟩, by simp [intOf]; omega⟩
        · have HTx : Hid (Kab wr) := HT.out.below hK.bel
          go_wp2_with fail
          refine (awake_any _ HTx.out).mono ?_
          rintro e wz ⟨rfl, hbz⟩
          have hB := (hK.below hbz).bel
          go_wp2_with fail
          go_ret
          exact ⟨rfl, hB⟩
end Go.Proofs.YtlohgdblcbkiiaaDoor
