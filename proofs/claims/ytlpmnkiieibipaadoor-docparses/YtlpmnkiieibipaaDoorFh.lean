import Derived.Test.YtlpmnkiieibipaaDoorFg
set_option linter.unusedVariables false
set_option linter.unusedSimpArgs false
namespace Go.Proofs.YtlpmnkiieibipaaDoor
open Go.RowKit

set_option maxHeartbeats 4000000 in
set_option maxRecDepth 100000 in
theorem piece_a (s : ByteArray) (hs : s.size ≤ 100000000) (h5 : ¬ 5 < s.size) (w : World) (R : Option Dc) (HF : Hid ((cands (ls s)).find? (fit (ls s)) = R)) : Calls Tryd.prog 24 #[.string s] w fun e w' => e = .returned (.tuple #[(R.getD z0).v, .bool R.isSome]) ∧ Below w.heap.size w w' := by
  have hL : (ls s).length = s.size := ls_len s
  have HS0 : Hid _ := PcW.start w
  have HSZ : Hid (∀ d ∈ cands (ls s), d.t.size ≤ 9223372036854775807) := fun d hd => Nat.le_trans (pc_size _ d hd) (by rw [ls_len]; omega)
  have hCN : cands (ls s) = L4 := by unfold cands; rw [if_neg (by omega), if_neg (by omega)]; rfl
  have q5 : ¬ (5 : Int) < s.size := by omega
  have q6 : ¬ (6 : Int) < s.size := by omega
  rw [hCN] at HF HSZ
  go_enter Tryd.func24, Tryd.ntmps24
  go_wp2_with fail
  obtain ⟨wA, hA⟩ : ∃ wA, wA = (w.alloc (.cells #[.int .u8 0, .string ⟨#[]⟩, .int .i64 0, .int .i64 0, .bool false] 36)).alloc (.cells #[.int .u8 2, .string ⟨#[]⟩, .int .i64 0, .int .i64 0, .bool false, .int .u8 4, .string ⟨#[]⟩, .int .i64 0, .int .i64 0, .bool false, .int .u8 5, .string ⟨#[]⟩, .int .i64 0, .int .i64 0, .bool false, .int .u8 7, .string ⟨#[]⟩, .int .i64 0, .int .i64 0, .bool false] 36) := ⟨_, rfl⟩
  have HG0 : Hid (PcW w wA (.slice (some ⟨w.heap.size + 1, 0, none⟩) 4 4) L4) := by show PcW _ _ _ _; rw [hA]; exact HS0.out
  rw [← hA]
  have HLl : Hid (L4.length ≤ 100) := by show _ ≤ _; simp [L4]
  obtain ⟨v0, hv0⟩ : ∃ v0, v0 = Value.slice (some ⟨w.heap.size + 1, 0, none⟩) 4 4 := ⟨_, rfl⟩
  rw [← hv0] at HG0 ⊢
  clear hv0 hA HS0
  generalize L4 = L at *
  obtain ⟨ao, cp, rfl, hnn, hLay, hao, hcp, hcm⟩ := Lay.row HG0.out.row HSZ.out
  have HLay : Hid (Lay wA ao L) := hLay
  have hLl : L.length ≤ 100 := HLl.out
  clear hLay hao
  go_wp2_with fail
  go_loopw [6] (fun i wr => ∃ k : Nat, k ≤ L.length ∧ i = .int .i64 k ∧ Hid ((L.drop k).find? (fit (ls s)) = R ∧ Below wA.heap.size wA wr)) (fun i _ => L.length - (intOf i).toNat)
  case atStart => exact ⟨0, by omega, rfl, by simpa using HF.out, Below.refl _ _⟩
  case round =>
    obtain ⟨k, hk, rfl, HI⟩ := hrel
    obtain ⟨hi, hw⟩ := HI.out
    by_cases hlt : k < L.length
    · have q1 : (k : Int) < L.length := by omega
      have q0 : (0 : Int) ≤ k := by omega
      obtain ⟨d, hd⟩ : ∃ d, L[k]? = some d := ⟨_, List.getElem?_eq_getElem hlt⟩
      obtain ⟨ht, b, off, rfl, c0, c1, c2, c3, c4⟩ := (HLay.out.below hw) k d hd
      rw [find_step _ hd] at hi
      have HG1 : Hid (PcW w wr (.slice (some ⟨b, off, none⟩) L.length cp) L) := HG0.out.below hw
      have HW : Hid (Below wA.heap.size wA wr) := hw
      have HR : Hid (∀ W, Calls Tryd.prog 27 #[d.v] W fun x w' => x = .returned (.bool (rt d)) ∧ Below W.heap.size W w') := fun W => rright_any d ht W
      have HLn : Hid (rt d = true → ∀ W, Calls Tryd.prog 21 #[d.v] W fun e w' => e = .returned (.string ⟨(lin d).toArray⟩) ∧ Below W.heap.size W w') := fun h W => rline_any d h W
      have hfit : fit (ls s) d = (rt d && decide (lin d = ls s)) := rfl
      rw [hfit] at hi
      clear HI hd hw hfit
      obtain ⟨r, hr⟩ : ∃ r, rt d = r := ⟨_, rfl⟩
      rw [hr] at HR hi HLn
      obtain ⟨x, hx⟩ : ∃ x : ByteArray, (⟨(lin d).toArray⟩ : ByteArray) = x := ⟨_, rfl⟩
      have hlx : lin d = ls x := by rw [← hx, ls_mk]
      rw [hx] at HLn
      rw [hlx] at hi
      clear hx hlx hr
      cases r
      · have HQ : Hid ((L.drop (k + 1)).find? (fit (ls s)) = R) := by show _ = _; rw [← hi]; simp
        clear hi HLn
        obtain ⟨dk, dt, db, di, de⟩ := d
        simp only [Dc.v] at HR
        simp only at c0 c1 c2 c3 c4
        go_wp2_with (go_at_call 27; refine (HR.out _).mono ?_; rintro e w1 ⟨rfl, hb1⟩; have HB1 : Hid (Below wA.heap.size wA w1) := HW.out.trans (hb1.mono HW.out.size); clear hb1)
        exact ⟨⟨k + 1, hlt, by go_num, HQ.out, HB1.out⟩, by simp [intOf]; omega⟩
      · have HLn' := (show Hid _ from HLn.out rfl)
        clear HLn
        by_cases hxs : x = s
        · subst hxs
          have HQ : Hid (R = some d) := by show _ = _; rw [← hi]; simp
          clear hi
          obtain ⟨dk, dt, db, di, de⟩ := d
          simp only [Dc.v] at HR HLn'
          simp only at c0 c1 c2 c3 c4
          go_wp2_with (first | (go_at_call 27; refine (HR.out _).mono ?_; rintro e w1 ⟨rfl, hb1⟩; have d0 := (hb1.cell (World.block_lt_of_cell? _ _ c0)).trans c0; have d1 := (hb1.cell (World.block_lt_of_cell? _ _ c1)).trans c1; have d2 := (hb1.cell (World.block_lt_of_cell? _ _ c2)).trans c2; have d3 := (hb1.cell (World.block_lt_of_cell? _ _ c3)).trans c3; have d4 := (hb1.cell (World.block_lt_of_cell? _ _ c4)).trans c4; have HG2 := (show Hid _ from HG1.out.below hb1); clear hb1) | (go_at_call 21; refine (HLn'.out _).mono ?_; rintro e w2 ⟨rfl, hb2⟩; have e0 := (hb2.cell (World.block_lt_of_cell? _ _ d0)).trans d0; have e1 := (hb2.cell (World.block_lt_of_cell? _ _ d1)).trans d1; have e2 := (hb2.cell (World.block_lt_of_cell? _ _ d2)).trans d2; have e3 := (hb2.cell (World.block_lt_of_cell? _ _ d3)).trans d3; have e4 := (hb2.cell (World.block_lt_of_cell? _ _ d4)).trans d4; have HG3 := (show Hid _ from HG2.out.below hb2); obtain ⟨⟨x0, x1, x2, x3, x4⟩, y0, y1, y2, y3, y4⟩ := HG3.out.pc.all; clear hb2))
          have hP := HG3.out.pc.setA (.int .u8 dk) (.string dt) (.int .i64 db) (.int .i64 di) (.bool de)
          obtain ⟨⟨m0, m1, m2, m3, m4⟩, _⟩ := hP.all
          clear x0 x1 x2 x3 x4 y0 y1 y2 y3 y4 c0 c1 c2 c3 c4 d0 d1 d2 d3 d4 e0 e1 e2 e3 e4
          refine bodyPost_ret (v := .tuple #[.agg #[.int .u8 dk, .string dt, .int .i64 db, .int .i64 di, .bool de], .bool true]) (by simp [results, Tryd.f24, go_sem, m0, m1, m2, m3, m4]) rfl ?_
          refine ⟨?_, fin5 HG3.out.bel _ _ _ _ _⟩
          rw [HQ.out]
          rfl
        · have HQ : Hid ((L.drop (k + 1)).find? (fit (ls s)) = R) := by
            show _ = _
            rw [← hi, if_neg]
            simp
            exact fun h => hxs (ls_inj h)
          have hcmp := tl_false hxs
          clear hi hxs
          obtain ⟨dk, dt, db, di, de⟩ := d
          simp only [Dc.v] at HR HLn'
          simp only at c0 c1 c2 c3 c4
          go_wp2_with (first | (go_at_call 27; refine (HR.out _).mono ?_; rintro e w1 ⟨rfl, hb1⟩; have d0 := (hb1.cell (World.block_lt_of_cell? _ _ c0)).trans c0; have d1 := (hb1.cell (World.block_lt_of_cell? _ _ c1)).trans c1; have d2 := (hb1.cell (World.block_lt_of_cell? _ _ c2)).trans c2; have d3 := (hb1.cell (World.block_lt_of_cell? _ _ c3)).trans c3; have d4 := (hb1.cell (World.block_lt_of_cell? _ _ c4)).trans c4; have HB1 : Hid (Below wA.heap.size wA w1) := HW.out.trans (hb1.mono HW.out.size); clear hb1) | (go_at_call 21; refine (HLn'.out _).mono ?_; rintro e w2 ⟨rfl, hb2⟩; have HB2 : Hid (Below wA.heap.size wA w2) := HB1.out.trans (hb2.mono HB1.out.size); clear hb2))
          exact ⟨⟨k + 1, hlt, by go_num, HQ.out, HB2.out⟩, by simp [intOf]; omega⟩
    · obtain rfl : k = L.length := by omega
      have q1 : ¬ ((L.length : Int) < L.length) := by omega
      rw [List.drop_length] at hi
      have HQ : Hid (R = none) := by show _ = _; rw [← hi]; rfl
      have HG1 : Hid (PcW w wr (.slice ao L.length cp) L) := HG0.out.below hw
      clear HI hi hw
      obtain ⟨⟨x0, x1, x2, x3, x4⟩, y0, y1, y2, y3, y4⟩ := HG1.out.pc.all
      go_wp2_with fail
      have hP := HG1.out.pc.setA (.int .u8 0) (.string ⟨#[]⟩) (.int .i64 0) (.int .i64 0) (.bool false)
      obtain ⟨⟨m0, m1, m2, m3, m4⟩, _⟩ := hP.all
      clear x0 x1 x2 x3 x4 y0 y1 y2 y3 y4
      refine bodyPost_ret (v := .tuple #[.agg #[.int .u8 0, .string ⟨#[]⟩, .int .i64 0, .int .i64 0, .bool false], .bool false]) (by simp [results, Tryd.f24, go_sem, m0, m1, m2, m3, m4]) rfl ?_
      refine ⟨?_, fin5 HG1.out.bel _ _ _ _ _⟩
      rw [HQ.out]
      rfl
end Go.Proofs.YtlpmnkiieibipaaDoor
