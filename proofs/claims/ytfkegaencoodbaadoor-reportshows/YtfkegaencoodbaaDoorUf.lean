import Derived.Test.YtfkegaencoodbaaDoorUe
set_option linter.unusedVariables false
set_option linter.unusedSimpArgs false
namespace Go.Proofs.YtfkegaencoodbaaDoor
open Go.RowKit

/-! ReportShows, ReportWords, over what report.Show answers. -/
set_option maxHeartbeats 2000000 in
set_option maxRecDepth 100000 in
theorem rshows_walk {name s : ByteArray} {c x y z : Int} {W : World} (hn : name.size ≤ maxLen) (hs : s.size ≤ maxLen) (hR : RsP W) (hI : ItP W) (hc : i64 c) (hy : i64 y) (hz : i64 z) (hsum : name.size + s.size ≤ 9223372036854775807) :
    Calls Tryd.prog 3 #[.string name, .string s, ftv c x y z] W fun e w' => e = .returned (.bool true) ∧ Below W.heap.size W w' := by
  obtain ⟨V, hV⟩ : ∃ V, W.alloc (ftb c x y z) = V := ⟨_, rfl⟩
  obtain ⟨g, hg⟩ : ∃ g, W.heap.size = g := ⟨_, rfl⟩
  have hb : Below W.heap.size W V := by rw [← hV]; exact (Below.refl _ _).alloc (Nat.le_refl _) _
  have hk : V.heap[g]? = some (ftb c x y z) := by rw [← hV, ← hg]; exact new_at _ _
  have HB : Hid (Below W.heap.size W V ∧ V.heap[g]? = some (ftb c x y z)) := ⟨hb, hk⟩
  have HA : Hid (Calls Tryd.prog 6 #[] V fun e w' => e = .returned (.bool true) ∧ Below V.heap.size V w') := rawake_any (hR.below hb)
  by_cases hbig : 4194304 < name.size + s.size
  · have q : (name.size : Int) + s.size > 4194304 := by omega
    have q' : (4194304 : Int) < (name.size : Int) + s.size := by omega
    clear hbig hR hI hb hk
    go_enter Tryd.func3, Tryd.ntmps3
    go_wp2_with fail
    try rw [hV]
    try rw [hg]
    refine HA.out.mono ?_
    rintro e w1 ⟨rfl, hb1⟩
    have H1 : Hid (Below W.heap.size W w1) := HB.out.1.trans (hb1.mono HB.out.1.size)
    clear hb1 HB HA
    go_wp2_with fail
    go_ret
    exact ⟨rfl, H1.out⟩
  have q : ¬ ((name.size : Int) + s.size > 4194304) := by omega
  have q' : ¬ ((4194304 : Int) < (name.size : Int) + s.size) := by omega
  obtain ⟨R, hRR⟩ : ∃ R, rshB name s c y z = R := ⟨_, rfl⟩
  have HD : Hid (∀ U, Below W.heap.size W U → Calls Tryd.prog 7 #[.string name, .string s, ftv c x y z] U fun e w' => e = .returned (.string R) ∧ Below U.heap.size U w') := fun U h => by rw [← hRR]; exact rshow_any (by omega) (by omega) (hI.below h) hc hy hz
  have HF : Hid (∀ U k, Below W.heap.size W U → U.heap[k]? = some (ftb c x y z) → Calls Tryd.prog 8 #[.string name, .string s, ftp (some ⟨k, 0, none⟩)] U (AnS U R)) := fun U k h h1 => by rw [← hRR]; exact hR.flt name s c x y z k U (by omega) hc hy hz h h1
  have HG : Hid (∀ U k, Below W.heap.size W U → U.heap[k]? = some (ftb c x y z) → Calls Tryd.prog 8 #[.string name, .string s, wrd ⟨#[109, 111, 114, 101]⟩ (ftp (some ⟨k, 0, none⟩))] U (AnS U R)) := fun U k h h1 => by rw [← hRR]; exact hR.wft name s _ c x y z k U (by omega) hc hy hz h h1
  clear hbig hR hI hb hk hc hy hz hRR
  go_enter Tryd.func3, Tryd.ntmps3
  go_wp2_with fail
  try rw [hV]
  try rw [hg]
  clear hV hg
  refine HA.out.mono ?_
  rintro e w1 ⟨rfl, hb1⟩
  have H1 : Hid (Below W.heap.size W w1 ∧ w1.heap[g]? = some (ftb c x y z)) := ⟨HB.out.1.trans (hb1.mono HB.out.1.size), blk_below HB.out.2 hb1⟩
  have c0 : w1.cell? ⟨g, 0, none⟩ = some (.int .i64 c) := blk_cell H1.out.2 rfl
  have c1 : w1.cell? ⟨g, 1, none⟩ = some (.int .i64 x) := blk_cell H1.out.2 rfl
  have c2 : w1.cell? ⟨g, 2, none⟩ = some (.int .i64 y) := blk_cell H1.out.2 rfl
  have c3 : w1.cell? ⟨g, 3, none⟩ = some (.int .i64 z) := blk_cell H1.out.2 rfl
  clear hb1 HB HA
  go_wp2_with fail
  refine (HD.out _ H1.out.1).mono ?_
  rintro e w2 ⟨rfl, hb2⟩
  obtain ⟨V2, hV2⟩ : ∃ V2, w2.alloc (ftb c x y z) = V2 := ⟨_, rfl⟩
  obtain ⟨k, hk⟩ : ∃ k, w2.heap.size = k := ⟨_, rfl⟩
  have hx : Below w2.heap.size w2 V2 := by rw [← hV2]; exact (Below.refl _ _).alloc (Nat.le_refl _) _
  have k2 : V2.heap[k]? = some (ftb c x y z) := by rw [← hV2, ← hk]; exact new_at _ _
  have g2 := blk_below H1.out.2 hb2
  have H2 : Hid (Below W.heap.size W V2 ∧ V2.heap[g]? = some (ftb c x y z) ∧ V2.heap[k]? = some (ftb c x y z)) := ⟨by have h := H1.out.1.trans (hb2.mono H1.out.1.size); exact h.trans (hx.mono h.size), blk_below g2 hx, k2⟩
  have d0 : w2.cell? ⟨g, 0, none⟩ = some (.int .i64 c) := blk_cell g2 rfl
  have d1 : w2.cell? ⟨g, 1, none⟩ = some (.int .i64 x) := blk_cell g2 rfl
  have d2 : w2.cell? ⟨g, 2, none⟩ = some (.int .i64 y) := blk_cell g2 rfl
  have d3 : w2.cell? ⟨g, 3, none⟩ = some (.int .i64 z) := blk_cell g2 rfl
  clear hb2 hx k2 g2 H1 HD c0 c1 c2 c3
  go_wp2_with fail
  try rw [hV2]
  try rw [hk]
  clear hV2 hk
  refine (HF.out _ _ H2.out.1 H2.out.2.2).mono ?_
  rintro e w3 ⟨rfl, hb3⟩
  have H3 : Hid (Below W.heap.size W w3 ∧ w3.heap[g]? = some (ftb c x y z) ∧ w3.heap[k]? = some (ftb c x y z)) := ⟨H2.out.1.trans (hb3.mono H2.out.1.size), blk_below H2.out.2.1 hb3, blk_below H2.out.2.2 hb3⟩
  clear hb3 H2 HF d0 d1 d2 d3
  go_wp2_with fail
  refine (HG.out _ _ H3.out.1 H3.out.2.2).mono ?_
  rintro e w4 ⟨rfl, hb4⟩
  have g4 := blk_below H3.out.2.1 hb4
  have k4 := blk_below H3.out.2.2 hb4
  have H4 : Hid (Below W.heap.size W w4) := H3.out.1.trans (hb4.mono H3.out.1.size)
  have a0 : w4.cell? ⟨g, 0, none⟩ = some (.int .i64 c) := blk_cell g4 rfl
  have a1 : w4.cell? ⟨g, 1, none⟩ = some (.int .i64 x) := blk_cell g4 rfl
  have a2 : w4.cell? ⟨g, 2, none⟩ = some (.int .i64 y) := blk_cell g4 rfl
  have a3 : w4.cell? ⟨g, 3, none⟩ = some (.int .i64 z) := blk_cell g4 rfl
  have b0 : w4.cell? ⟨k, 0, none⟩ = some (.int .i64 c) := blk_cell k4 rfl
  have b1 : w4.cell? ⟨k, 1, none⟩ = some (.int .i64 x) := blk_cell k4 rfl
  have b2 : w4.cell? ⟨k, 2, none⟩ = some (.int .i64 y) := blk_cell k4 rfl
  have b3 : w4.cell? ⟨k, 3, none⟩ = some (.int .i64 z) := blk_cell k4 rfl
  clear hb4 g4 k4 H3 HG
  go_wp2_with fail
  go_ret
  exact ⟨rfl, H4.out⟩
set_option maxHeartbeats 2000000 in
set_option maxRecDepth 100000 in
theorem rwords_walk {name s t : ByteArray} {W : World} (hn : name.size + s.size + t.size ≤ 9223372036854775807) (hR : RsP W) :
    Calls Tryd.prog 4 #[.string name, .string s, .string t] W fun e w' => e = .returned (.bool true) ∧ Below W.heap.size W w' := by
  have HA : Hid (Calls Tryd.prog 6 #[] W fun e w' => e = .returned (.bool true) ∧ Below W.heap.size W w') := rawake_any hR
  by_cases hbig : 4194304 < name.size + s.size + t.size
  · have q' : (4194304 : Int) < (name.size : Int) + s.size + t.size := by omega
    clear hbig hR
    go_enter Tryd.func4, Tryd.ntmps4
    go_wp2_with fail
    refine HA.out.mono ?_
    rintro e w1 ⟨rfl, hb1⟩
    have H1 : Hid (Below W.heap.size W w1) := hb1
    clear hb1 HA
    go_wp2_with fail
    go_ret
    exact ⟨rfl, H1.out⟩
  have q' : ¬ ((4194304 : Int) < (name.size : Int) + s.size + t.size) := by omega
  have HN : Hid (∀ (u : ByteArray) U, Calls Tryd.prog 9 #[.string u] U fun e w' => e = .returned (esv U.heap.size) ∧ w' = U.alloc (esb u)) := enew_any
  have h1 : Hid (∀ U k, Below W.heap.size W U → U.heap[k]? = some (esb t) → Calls Tryd.prog 8 #[.string name, .string s, esv k] U (AnS U (wdB name t))) := fun U k h h1 => hR.new name s t k U (by omega) h h1
  have h2 : Hid (∀ U k, Below W.heap.size W U → U.heap[k]? = some (esb ⟨#[120]⟩) → Calls Tryd.prog 8 #[.string name, .string s, wrd t (esv k)] U (AnS U (wdB name t))) := fun U k h h1 => hR.wnw name s t _ k U (by omega) h h1
  have h3 : Hid (∀ U, Below W.heap.size W U → Calls Tryd.prog 8 #[.string name, .string s, ftp none] U (AnS U (wdB name ⟨#[]⟩))) := fun U h => hR.nlf name s U (by omega) h
  have h4 : Hid (∀ U, Below W.heap.size W U → Calls Tryd.prog 8 #[.string name, .string s, .nilIface] U (AnS U ⟨#[]⟩)) := fun U h => hR.nil name s U (by omega) h
  clear hbig hR
  go_enter Tryd.func4, Tryd.ntmps4
  go_wp2_with fail
  refine HA.out.mono ?_
  rintro e w1 ⟨rfl, hb1⟩
  have H1 : Hid (Below W.heap.size W w1) := hb1
  clear hb1 HA
  go_wp2_with fail
  refine (HN.out _ _).mono ?_
  rintro e w2 ⟨rfl, hw2⟩
  have H2 : Hid (Below W.heap.size W w2 ∧ w2.heap[w1.heap.size]? = some (esb t)) := ⟨by rw [hw2]; exact H1.out.alloc H1.out.size _, by rw [hw2]; exact new_at _ _⟩
  clear hw2 H1
  go_wp2_with fail
  refine (h1.out _ _ H2.out.1 H2.out.2).mono ?_
  rintro e w3 ⟨rfl, hb3⟩
  have H3 : Hid (Below W.heap.size W w3) := H2.out.1.trans (hb3.mono H2.out.1.size)
  clear hb3 H2 h1
  go_wp2_with fail
  refine (HN.out _ _).mono ?_
  rintro e w4 ⟨rfl, hw4⟩
  have H4 : Hid (Below W.heap.size W w4 ∧ w4.heap[w3.heap.size]? = some (esb ⟨#[120]⟩)) := ⟨by rw [hw4]; exact H3.out.alloc H3.out.size _, by rw [hw4]; exact new_at _ _⟩
  clear hw4 H3 HN
  go_wp2_with fail
  refine (h2.out _ _ H4.out.1 H4.out.2).mono ?_
  rintro e w5 ⟨rfl, hb5⟩
  have H5 : Hid (Below W.heap.size W w5) := H4.out.1.trans (hb5.mono H4.out.1.size)
  clear hb5 H4 h2
  go_wp2_with fail
  refine (h3.out _ H5.out).mono ?_
  rintro e w6 ⟨rfl, hb6⟩
  have H6 : Hid (Below W.heap.size W w6) := H5.out.trans (hb6.mono H5.out.size)
  clear hb6 H5 h3
  go_wp2_with fail
  refine (h4.out _ H6.out).mono ?_
  rintro e w7 ⟨rfl, hb7⟩
  have H7 : Hid (Below W.heap.size W w7) := H6.out.trans (hb7.mono H6.out.size)
  clear hb7 H6 h4
  have u1 : (name ++ ⟨#[58, 32]⟩).size = name.size + 2 := ByteArray.size_append
  have u2 : (name ++ ⟨#[58, 32]⟩ ++ t).size = name.size + 2 + t.size := by rw [ByteArray.size_append, u1]
  have e2 : wdB name t = name ++ ⟨#[58, 32]⟩ ++ t ++ ⟨#[10]⟩ := rfl
  rw [e2]
  have e3 : (wdB name ⟨#[]⟩) = name ++ ⟨#[58, 32, 10]⟩ := by
    unfold wdB
    rw [ByteArray.append_assoc, ByteArray.append_assoc]
    rfl
  rw [e3]
  clear e2 e3
  go_wp2_with fail
  go_ret
  exact ⟨rfl, H7.out⟩

end Go.Proofs.YtfkegaencoodbaaDoor
