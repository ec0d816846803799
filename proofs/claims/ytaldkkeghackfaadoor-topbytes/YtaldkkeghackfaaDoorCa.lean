import Derived.Test.YtaldkkeghackfaaDoorG7
import Derived.Test.YtaldkkeghackfaaDoorG8
set_option linter.unusedVariables false
set_option linter.unusedSimpArgs false
namespace Go.Proofs.YtaldkkeghackfaaDoor
open Go.RowKit

/-- What All answers, as a reader sees it. -/
def toks (s : ByteArray) : List Tv := (scn s).1.map (tv s)
def eP (s : ByteArray) : Int × Int × Int := (if (scn s).2.1 = 0 then 0 else ((scn s).2.2 : Int), if (scn s).2.1 = 0 then 0 else pL s (scn s).2.2, if (scn s).2.1 = 0 then 0 else pC s (scn s).2.2)
def AL (W : World) (s : ByteArray) (E : Nat) (P : Int × Int × Int) (L : List Tv) (e : Ending) (w' : World) : Prop :=
  (∃ p c, e = .returned (.tuple #[.slice p L.length c, .int .i64 E, .agg #[.int .i64 P.1, .int .i64 P.2.1, .int .i64 P.2.2]]) ∧ L.length ≤ c ∧ c ≤ 9223372036854775807 ∧ Lt w' p L ∧ (p = none ∨ ∃ g, p = some ⟨g, 0, none⟩ ∧ W.heap.size ≤ g ∧ g < w'.heap.size)) ∧ Below W.heap.size W w'
theorem all_lt (s : ByteArray) (w : World) (hT : Kab w) (hs : s.size ≤ 1000000000) :
    Calls Tryd.prog 9 #[.string s] w fun e w' => AL w s (scn s).2.1 (eP s) (toks s) e w' := by
  refine (all_any s w hT hs).mono ?_
  rintro e w' ⟨⟨v, rfl, hr⟩, hb⟩
  obtain ⟨p, c, rfl, hL, hg, h1, h2⟩ := Lt.row hr
  exact ⟨⟨p, c, rfl, h1, h2, hL, hg⟩, hb⟩
theorem toks_len (s : ByteArray) : (toks s).length ≤ s.size := by
  unfold toks scn
  rw [List.length_map]
  have key : ∀ (d a f : Nat), s.size - a ≤ d → (fnd s a f).1.length ≤ s.size - a := by
    intro d
    induction d with
    | zero => intro a f h; rw [fnd_end s a f (by omega)]; exact Nat.zero_le _
    | succ d ih =>
      intro a f h
      by_cases h0 : a < s.size
      · rw [fnd_step s a f h0]
        split
        · have := ih (a + 1) (f + 1) (by omega); omega
        · split
          · have := ih (a + 1) f (by omega); omega
          · split
            · exact Nat.zero_le _
            · rename_i h3
              split
              · exact Nat.zero_le _
              · rename_i h4
                have h5 := tkEnd_ok s a (tkBgn s a) (tkEnd s a (tkBgn s a)).1 h0 rfl h3 (Prod.ext rfl (by simpa using h4))
                have := ih (tkEnd s a (tkBgn s a)).1 0 (by omega)
                simp only [List.length_cons]
                omega
      · rw [fnd_end s a f (by omega)]; exact Nat.zero_le _
  exact key _ 0 0 (Nat.le_refl _)

theorem tv_head {s : ByteArray} {k : Nat} (hk : k ≤ s.size) {t : Tk} (h1 : t.a ≤ t.e) (h2 : t.e ≤ k) : tv (s.extract 0 k) t = tv s t := by
  unfold tv pL pC
  rw [ext_ext s 0 k _ _ hk (by omega) h1, ext_ext s 0 k 0 t.a hk (by omega) (Nat.zero_le _), Nat.zero_add, Nat.zero_add, Nat.zero_add]

/-- P10.3 of what All answers. -/
theorem begins_is (s : ByteArray) (k : Nat) (hk : k ≤ s.size) (h0 : (scn (s.extract 0 k)).2.1 = 0) :
    ((scn (s.extract 0 k)).1.map (tv (s.extract 0 k))).length - 1 ≤ ((scn s).1.map (tv s)).length ∧ ((scn (s.extract 0 k)).1.map (tv (s.extract 0 k))).take (((scn (s.extract 0 k)).1.map (tv (s.extract 0 k))).length - 1) = ((scn s).1.map (tv s)).take (((scn (s.extract 0 k)).1.map (tv (s.extract 0 k))).length - 1) := by
  have hz : (s.extract 0 k).size = k := by rw [size_ext s 0 k hk]; rfl
  have e : s = s.extract 0 k ++ s.extract k s.size := by
    refine by8_ext _ _ (by rw [size_app, hz, size_ext s k _ (Nat.le_refl _)]; omega) (fun j hj => ?_)
    rw [by8_app, hz]
    split
    · rw [by8_head s k j (by assumption)]
    · rw [by8_ext' s k s.size _ (by omega)]; congr 1; omega
  have ht := fnd_toks (s.extract 0 k) _ 0 0 (Nat.le_refl _)
  obtain ⟨r, hr⟩ := scn_begins (s.extract 0 k) (s.extract k s.size) h0
  rw [← e] at hr
  have hmap : (scn (s.extract 0 k)).1.map (tv (s.extract 0 k)) = (scn (s.extract 0 k)).1.map (tv s) := by
    refine List.map_congr_left (fun t h => ?_)
    obtain ⟨_, h2, h3⟩ := ht t h
    exact tv_head hk (Nat.le_of_lt h2) (by rw [hz] at h3; exact h3)
  rw [hmap, hr]
  generalize (scn (s.extract 0 k)).1 = L
  constructor
  · simp
  · rw [List.length_map, ← List.map_take, ← List.map_take, List.take_append_of_le_length (by simp), ← List.dropLast_eq_take, List.take_of_length_le (by simp)]

theorem begins_tk (s : ByteArray) (k : Nat) (hk : k ≤ s.size) (h0 : (scn (s.extract 0 k)).2.1 = 0) : (toks (s.extract 0 k)).length - 1 ≤ (toks s).length ∧ (toks (s.extract 0 k)).take ((toks (s.extract 0 k)).length - 1) = (toks s).take ((toks (s.extract 0 k)).length - 1) := begins_is s k hk h0
theorem Lt.take {w : World} {ao : Option Addr} {l : List Tv} (h : Lt w ao l) (n : Nat) : Lt w ao (l.take n) := by
  have e := List.take_append_drop n l
  rw [← e] at h
  exact h.pre

set_option maxRecDepth 100000 in
set_option maxHeartbeats 1500000 in
theorem begins_walk (s : ByteArray) (cut : Int) (w : World) (hT : Kab w) (hm : s.size ≤ maxLen) (hc : -9223372036854775808 ≤ cut ∧ cut ≤ 9223372036854775807) :
    Calls Tryd.prog 5 #[.string s, .int .i64 cut] w fun e w' => e = .returned (.bool true) ∧ Below w.heap.size w w' := by
  have HA : Hid (Calls Tryd.prog 8 #[] w fun e w' => e = .returned (.bool true) ∧ Below w.heap.size w w') := awake_any w hT
  unfold maxLen at hm
  by_cases hbig : 67108864 < s.size
  · have q0 : (67108864 : Int) < s.size := by omega
    clear hT
    go_enter Tryd.func5, Tryd.ntmps5
    go_wp2_with (first | (go_at_call 8; refine HA.out.mono ?_; rintro e w1 ⟨rfl, hb1⟩))
    go_ret
    exact ⟨rfl, hb1⟩
  · have q0 : ¬ (67108864 : Int) < s.size := by omega
    obtain ⟨c, hcc⟩ : ∃ c : Int, (if cut < 0 then -(cut + 1) else cut) = c := ⟨_, rfl⟩
    have hc0 : 0 ≤ c := by rw [← hcc]; split <;> omega
    obtain ⟨k, hk⟩ : ∃ k : Nat, Int.tmod c ((s.size : Int) + 1) = k := ⟨_, (Int.toNat_of_nonneg (Int.tmod_nonneg _ hc0)).symm⟩
    have hks : k ≤ s.size := by
      have h9 := Int.tmod_lt_of_pos c (show (0 : Int) < (s.size : Int) + 1 by omega)
      omega
    have hz : (s.extract 0 k).size ≤ 67108864 := by rw [size_ext s 0 k hks]; omega
    have hLz := toks_len (s.extract 0 k)
    have hMz := toks_len s
    have HB : Hid ((scn (s.extract 0 k)).2.1 = 0 → (toks (s.extract 0 k)).length - 1 ≤ (toks s).length ∧ (toks (s.extract 0 k)).take ((toks (s.extract 0 k)).length - 1) = (toks s).take ((toks (s.extract 0 k)).length - 1)) := begins_tk s k hks
    have H1 : Hid (∀ W, Below w.heap.size w W → Calls Tryd.prog 9 #[.string (s.extract 0 k)] W fun e w' => AL W (s.extract 0 k) (scn (s.extract 0 k)).2.1 (eP (s.extract 0 k)) (toks (s.extract 0 k)) e w') := fun W hW => all_lt _ W (hT.below hW) (by omega)
    have H2 : Hid (∀ W, Below w.heap.size w W → Calls Tryd.prog 9 #[.string s] W fun e w' => AL W s (scn s).2.1 (eP s) (toks s) e w') := fun W hW => all_lt _ W (hT.below hW) (by omega)
    have qk : (k : Int) ≤ s.size := by omega
    have w1 : IntKind.i64.wrap ((s.size : Int) + 1) = (s.size : Int) + 1 := by rw [IntKind.wrap_i64]; omega
    have nz : ¬ ((s.size : Int) + 1) = 0 := by omega
    unfold AL at H1 H2
    clear hT hbig
    generalize (scn (s.extract 0 k)).2.1 = E at *
    generalize eP (s.extract 0 k) = P1 at *
    generalize toks (s.extract 0 k) = L at *
    generalize (scn s).2.1 = F at *
    generalize eP s = P2 at *
    generalize toks s = M at *
    obtain ⟨a1, a2, a3⟩ := P1
    obtain ⟨b1, b2, b3⟩ := P2
    by_cases hneg : cut < 0
    · rw [if_pos hneg] at hcc
      have w2 : IntKind.i64.wrap (cut + 1) = cut + 1 := by rw [IntKind.wrap_i64]; omega
      have w3 : IntKind.i64.wrap (-(cut + 1)) = c := by rw [IntKind.wrap_i64, hcc]; omega
      clear hcc hc0
      by_cases hE : E = 0
      · subst hE
        by_cases hF : F = 0
        · subst hF
          by_cases hl0 : L.length = 0
          · have q5 : L.length = 0 := hl0
            have q6 : ((L.length : Int) == 0) = true := by rw [beq_iff_eq]; omega
            clear hl0 q5
            go_enter Tryd.func5, Tryd.ntmps5
            go_wp2_with (first | (go_at_call 9; have hg := hb2; clear hg; refine (H2.out _ (hbX.alloc hbX.size _)).mono ?_; rintro e w3 ⟨⟨p3, c3, rfl, d1, d2, hL3, _⟩, hb3⟩; have hbY := (hbX.alloc hbX.size _).trans (hb3.mono (hbX.alloc hbX.size _).size); have HL2 := (hL2.below ((Below.refl _ _).alloc (Nat.le_refl _) _)).below hb3) | (go_at_call 9; refine (H1.out _ hb1).mono ?_; rintro e w2 ⟨⟨p2, c2, rfl, e1, e2, hL2, _⟩, hb2⟩; have hbX := hb1.trans (hb2.mono hb1.size)) | (go_at_call 8; refine HA.out.mono ?_; rintro e w1 ⟨rfl, hb1⟩))
            go_ret
            exact ⟨rfl, hbY.alloc hbY.size _⟩
          · have q6 : ((L.length : Int) == 0) = false := by rw [beq_eq_false_iff_ne]; omega
            have HQ : Hid (L.length - 1 ≤ M.length ∧ L.take (L.length - 1) = M.take (L.length - 1)) := HB.out rfl
            obtain ⟨n, hn⟩ : ∃ n, L.length = n + 1 := ⟨L.length - 1, by omega⟩
            have hq1 := HQ.out.1
            rw [hn] at hq1 hLz
            rw [Nat.add_sub_cancel] at hq1
            have q7 : ¬ (M.length : Int) < n := by omega
            have hnx : IntKind.i64.wrap ((L.length : Int) - 1) = (n : Int) := by rw [IntKind.wrap_i64, hn]; omega
            have HLn : Hid (L.length = n + 1) := hn
            have q8 : (n : Int) ≤ M.length := by omega
            have q9 : (L.length : Int) = n + 1 := by omega
            have HS : Hid (∀ W pa pb ca cb, Lt W pa (L.take (L.length - 1)) → Lt W pb (L.take (L.length - 1)) → Calls Tryd.prog 11 #[.slice pa n ca, .slice pb n cb] W fun e w' => e = .returned (.bool true) ∧ Below W.heap.size W w') := fun W pa pb ca cb h1 h2 => by
              have h9 := same_eq pa pb (L.take (L.length - 1)) ca cb W h1 h2 (by rw [List.length_take]; omega)
              rw [List.length_take, hn, Nat.add_sub_cancel, Nat.min_eq_left (by omega)] at h9
              exact h9
            clear hl0 hn hq1
            go_enter Tryd.func5, Tryd.ntmps5
            go_wp2_with (first | (go_at_call 9; have hg := hb2; clear hg; refine (H2.out _ (hbX.alloc hbX.size _)).mono ?_; rintro e w3 ⟨⟨p3, c3, rfl, d1, d2, hL3, _⟩, hb3⟩; have hbY := (hbX.alloc hbX.size _).trans (hb3.mono (hbX.alloc hbX.size _).size); have HL2 := (hL2.below ((Below.refl _ _).alloc (Nat.le_refl _) _)).below hb3) | (go_at_call 9; refine (H1.out _ hb1).mono ?_; rintro e w2 ⟨⟨p2, c2, rfl, e1, e2, hL2, _⟩, hb2⟩; have hbX := hb1.trans (hb2.mono hb1.size)) | (go_at_call 8; refine HA.out.mono ?_; rintro e w1 ⟨rfl, hb1⟩))
            have qc2 : n ≤ c2 := by have h8 := HLn.out; omega
            have qc3 : n ≤ c3 := by omega
            have qc4 : (n : Int) ≤ c2 := by omega
            have qc5 : (n : Int) ≤ c3 := by omega
            go_region_law (go_simp; go_at_call 11; refine (HS.out _ _ _ _ _ (((HL2.below ((Below.refl _ _).alloc (Nat.le_refl _) _)).below (Below.refl _ _).drew).take _) (by rw [HQ.out.2]; exact ((hL3.below ((Below.refl _ _).alloc (Nat.le_refl _) _)).below (Below.refl _ _).drew).take _)).mono ?_; rintro e w4 ⟨rfl, hb4⟩)
            all_goals go_wp2_with fail
            go_ret
            exact ⟨rfl, (hbY.alloc hbY.size _).drew.trans (hb4.mono (hbY.alloc hbY.size _).size)⟩
        · have q5 : ((F : Int) != 0) = true := by rw [bne_iff_ne]; omega
          clear hF
          go_enter Tryd.func5, Tryd.ntmps5
          go_wp2_with (first | (go_at_call 9; have hg := hb2; clear hg; refine (H2.out _ (hbX.alloc hbX.size _)).mono ?_; rintro e w3 ⟨⟨p3, c3, rfl, d1, d2, hL3, _⟩, hb3⟩; have hbY := (hbX.alloc hbX.size _).trans (hb3.mono (hbX.alloc hbX.size _).size); have HL2 := (hL2.below ((Below.refl _ _).alloc (Nat.le_refl _) _)).below hb3) | (go_at_call 9; refine (H1.out _ hb1).mono ?_; rintro e w2 ⟨⟨p2, c2, rfl, e1, e2, hL2, _⟩, hb2⟩; have hbX := hb1.trans (hb2.mono hb1.size)) | (go_at_call 8; refine HA.out.mono ?_; rintro e w1 ⟨rfl, hb1⟩))
          go_ret
          exact ⟨rfl, hbY.alloc hbY.size _⟩
      · have q5 : ((E : Int) != 0) = true := by rw [bne_iff_ne]; omega
        clear hE
        go_enter Tryd.func5, Tryd.ntmps5
        go_wp2_with (first | (go_at_call 9; have hg := hb2; clear hg; refine (H2.out _ (hbX.alloc hbX.size _)).mono ?_; rintro e w3 ⟨⟨p3, c3, rfl, d1, d2, hL3, _⟩, hb3⟩; have hbY := (hbX.alloc hbX.size _).trans (hb3.mono (hbX.alloc hbX.size _).size); have HL2 := (hL2.below ((Below.refl _ _).alloc (Nat.le_refl _) _)).below hb3) | (go_at_call 9; refine (H1.out _ hb1).mono ?_; rintro e w2 ⟨⟨p2, c2, rfl, e1, e2, hL2, _⟩, hb2⟩; have hbX := hb1.trans (hb2.mono hb1.size)) | (go_at_call 8; refine HA.out.mono ?_; rintro e w1 ⟨rfl, hb1⟩))
        go_ret
        exact ⟨rfl, hbY.alloc hbY.size _⟩
    · rw [if_neg hneg] at hcc
      subst hcc
      by_cases hE : E = 0
      · subst hE
        by_cases hF : F = 0
        · subst hF
          by_cases hl0 : L.length = 0
          · have q5 : L.length = 0 := hl0
            have q6 : ((L.length : Int) == 0) = true := by rw [beq_iff_eq]; omega
            clear hl0 q5
            go_enter Tryd.func5, Tryd.ntmps5
            go_wp2_with (first | (go_at_call 9; have hg := hb2; clear hg; refine (H2.out _ (hbX.alloc hbX.size _)).mono ?_; rintro e w3 ⟨⟨p3, c3, rfl, d1, d2, hL3, _⟩, hb3⟩; have hbY := (hbX.alloc hbX.size _).trans (hb3.mono (hbX.alloc hbX.size _).size); have HL2 := (hL2.below ((Below.refl _ _).alloc (Nat.le_refl _) _)).below hb3) | (go_at_call 9; refine (H1.out _ hb1).mono ?_; rintro e w2 ⟨⟨p2, c2, rfl, e1, e2, hL2, _⟩, hb2⟩; have hbX := hb1.trans (hb2.mono hb1.size)) | (go_at_call 8; refine HA.out.mono ?_; rintro e w1 ⟨rfl, hb1⟩))
            go_ret
            exact ⟨rfl, hbY.alloc hbY.size _⟩
          · have q6 : ((L.length : Int) == 0) = false := by rw [beq_eq_false_iff_ne]; omega
            have HQ : Hid (L.length - 1 ≤ M.length ∧ L.take (L.length - 1) = M.take (L.length - 1)) := HB.out rfl
            obtain ⟨n, hn⟩ : ∃ n, L.length = n + 1 := ⟨L.length - 1, by omega⟩
            have hq1 := HQ.out.1
            rw [hn] at hq1 hLz
            rw [Nat.add_sub_cancel] at hq1
            have q7 : ¬ (M.length : Int) < n := by omega
            have hnx : IntKind.i64.wrap ((L.length : Int) - 1) = (n : Int) := by rw [IntKind.wrap_i64, hn]; omega
            have HLn : Hid (L.length = n + 1) := hn
            have q8 : (n : Int) ≤ M.length := by omega
            have q9 : (L.length : Int) = n + 1 := by omega
            have HS : Hid (∀ W pa pb ca cb, Lt W pa (L.take (L.length - 1)) → Lt W pb (L.take (L.length - 1)) → Calls Tryd.prog 11 #[.slice pa n ca, .slice pb n cb] W fun e w' => e = .returned (.bool true) ∧ Below W.heap.size W w') := fun W pa pb ca cb h1 h2 => by
              have h9 := same_eq pa pb (L.take (L.length - 1)) ca cb W h1 h2 (by rw [List.length_take]; omega)
              rw [List.length_take, hn, Nat.add_sub_cancel, Nat.min_eq_left (by omega)] at h9
              exact h9
            clear hl0 hn hq1
            go_enter Tryd.func5, Tryd.ntmps5
            go_wp2_with (first | (go_at_call 9; have hg := hb2; clear hg; refine (H2.out _ (hbX.alloc hbX.size _)).mono ?_; rintro e w3 ⟨⟨p3, c3, rfl, d1, d2, hL3, _⟩, hb3⟩; have hbY := (hbX.alloc hbX.size _).trans (hb3.mono (hbX.alloc hbX.size _).size); have HL2 := (hL2.below ((Below.refl _ _).alloc (Nat.le_refl _) _)).below hb3) | (go_at_call 9; refine (H1.out _ hb1).mono ?_; rintro e w2 ⟨⟨p2, c2, rfl, e1, e2, hL2, _⟩, hb2⟩; have hbX := hb1.trans (hb2.mono hb1.size)) | (go_at_call 8; refine HA.out.mono ?_; rintro e w1 ⟨rfl, hb1⟩))
            have qc2 : n ≤ c2 := by have h8 := HLn.out; omega
            have qc3 : n ≤ c3 := by omega
            have qc4 : (n : Int) ≤ c2 := by omega
            have qc5 : (n : Int) ≤ c3 := by omega
            go_region_law (go_simp; go_at_call 11; refine (HS.out _ _ _ _ _ (((HL2.below ((Below.refl _ _).alloc (Nat.le_refl _) _)).below (Below.refl _ _).drew).take _) (by rw [HQ.out.2]; exact ((hL3.below ((Below.refl _ _).alloc (Nat.le_refl _) _)).below (Below.refl _ _).drew).take _)).mono ?_; rintro e w4 ⟨rfl, hb4⟩)
            all_goals go_wp2_with fail
            go_ret
            exact ⟨rfl, (hbY.alloc hbY.size _).drew.trans (hb4.mono (hbY.alloc hbY.size _).size)⟩
        · have q5 : ((F : Int) != 0) = true := by rw [bne_iff_ne]; omega
          clear hF
          go_enter Tryd.func5, Tryd.ntmps5
          go_wp2_with (first | (go_at_call 9; have hg := hb2; clear hg; refine (H2.out _ (hbX.alloc hbX.size _)).mono ?_; rintro e w3 ⟨⟨p3, c3, rfl, d1, d2, hL3, _⟩, hb3⟩; have hbY := (hbX.alloc hbX.size _).trans (hb3.mono (hbX.alloc hbX.size _).size); have HL2 := (hL2.below ((Below.refl _ _).alloc (Nat.le_refl _) _)).below hb3) | (go_at_call 9; refine (H1.out _ hb1).mono ?_; rintro e w2 ⟨⟨p2, c2, rfl, e1, e2, hL2, _⟩, hb2⟩; have hbX := hb1.trans (hb2.mono hb1.size)) | (go_at_call 8; refine HA.out.mono ?_; rintro e w1 ⟨rfl, hb1⟩))
          go_ret
          exact ⟨rfl, hbY.alloc hbY.size _⟩
      · have q5 : ((E : Int) != 0) = true := by rw [bne_iff_ne]; omega
        clear hE
        go_enter Tryd.func5, Tryd.ntmps5
        go_wp2_with (first | (go_at_call 9; have hg := hb2; clear hg; refine (H2.out _ (hbX.alloc hbX.size _)).mono ?_; rintro e w3 ⟨⟨p3, c3, rfl, d1, d2, hL3, _⟩, hb3⟩; have hbY := (hbX.alloc hbX.size _).trans (hb3.mono (hbX.alloc hbX.size _).size); have HL2 := (hL2.below ((Below.refl _ _).alloc (Nat.le_refl _) _)).below hb3) | (go_at_call 9; refine (H1.out _ hb1).mono ?_; rintro e w2 ⟨⟨p2, c2, rfl, e1, e2, hL2, _⟩, hb2⟩; have hbX := hb1.trans (hb2.mono hb1.size)) | (go_at_call 8; refine HA.out.mono ?_; rintro e w1 ⟨rfl, hb1⟩))
        go_ret
        exact ⟨rfl, hbY.alloc hbY.size _⟩

end Go.Proofs.YtaldkkeghackfaaDoor
