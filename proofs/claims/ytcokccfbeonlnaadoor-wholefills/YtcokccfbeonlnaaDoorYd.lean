import Derived.Test.YtcokccfbeonlnaaDoorYc
set_option linter.unusedVariables false
set_option linter.unusedSimpArgs false
namespace Go.Proofs.YtcokccfbeonlnaaDoor
open Go.RowKit

theorem flz_one (n : Int) (ind : Nat) (y : Wg) : flz n ind [y] = (y.1, y.1.length) := rfl

set_option maxHeartbeats 2000000 in
set_option maxRecDepth 100000 in
theorem filled_any (n : Int) (hn1 : -1 ≤ n) (hn2 : n ≤ 100000) (ind : Nat) (hi : ind ≤ 11) (v4 v5 : Value) (zs : List Wg) (B : Nat) (w : World) (hZ : ZR B w v4 v5 zs) (hzs : Wgs zs) (hzl : zs.length ≤ 300) :
    Calls Tryd.prog 19 #[.int .i64 n, .int .i64 ind, v4, v5] w fun e w' => e = .returned (.string ⟨(flz n ind zs).1.toArray⟩) ∧ Below w.heap.size w w' := by
  have KW : Hid (∀ W, Calls Tryd.prog 30 #[.int .i64 ind, .int .i64 0] W fun e w' => e = .returned (.string ⟨(wrd ind 0).toArray⟩) ∧ Below W.heap.size W w') := fun W => by
    have := word_any ind 0 (by omega) (by omega) W
    exact this
  obtain ⟨p4, c4, rfl, _, _⟩ := row_shp hZ.r4
  obtain ⟨p5, c5, rfl, _, _⟩ := row_shp hZ.r5
  have HZ : Hid (ZR B w (.slice p4 zs.length c4) (.slice p5 zs.length c5) zs ∧ Wgs zs) := ⟨hZ, hzs⟩
  clear hZ hzs
  go_enter Tryd.func19, Tryd.ntmps19
  go_wp2_with fail
  go_loopw [9, 10, 11] (fun s a i wr => ∃ (k : Nat) (str : ByteArray) (at' : Nat), k ≤ zs.length ∧ i = .int .i64 k ∧ s = .string str ∧ a = .int .i64 at' ∧ str.size ≤ 30 * k ∧ at' ≤ 30 * k ∧ Hid (flz n ind (zs.take k) = (lsb str, at') ∧ Below w.heap.size w wr)) (fun _ _ i _ => zs.length - (intOf i).toNat)
  case atStart => exact ⟨0, ⟨#[]⟩, 0, Nat.zero_le _, rfl, rfl, rfl, by decide, Nat.zero_le _, rfl, Below.refl _ _⟩
  case round =>
    obtain ⟨k, str, at', hk, rfl, rfl, rfl, hs1, ha1, HI⟩ := hrel
    obtain ⟨hfl, hbw⟩ := HI.out
    by_cases hlt : k < zs.length
    · have q1 : (k : Int) < zs.length := by omega
      have q0 : (0 : Int) ≤ k := by omega
      obtain ⟨y, hy⟩ : ∃ y, zs[k]? = some y := ⟨_, List.getElem?_eq_getElem hlt⟩
      obtain ⟨hw, hg⟩ := HZ.out.2 y (List.mem_of_getElem? hy)
      have htk : zs.take (k + 1) = zs.take k ++ [y] := by rw [List.take_add_one, hy]; rfl
      obtain ⟨b4, b5, d4, d5, e4, e5, c0, c1⟩ := zt_at HZ.out.1 hy
      simp only [Value.slice.injEq] at e4 e5
      obtain ⟨rfl, _, rfl⟩ := e4
      obtain ⟨rfl, _, rfl⟩ := e5
      have HC : Hid (∀ W, Below w.heap.size w W → W.cell? ⟨b4, k, none⟩ = some (.string ⟨y.1.toArray⟩) ∧ W.cell? ⟨b5, k, none⟩ = some (.int .i64 (y.2 : Int))) := fun W hW => ⟨(hW.cell (World.block_lt_of_cell? _ _ c0)).trans c0, (hW.cell (World.block_lt_of_cell? _ _ c1)).trans c1⟩
      obtain ⟨t, ht⟩ : ∃ t : ByteArray, ⟨y.1.toArray⟩ = t := ⟨_, rfl⟩
      have hlt' : lsb t = y.1 := by rw [← ht]; exact ls_mk _
      have hts : t.size = y.1.length := by rw [← ls_len, hlt']
      have htl := hw.2.1
      rw [ht] at HC
      obtain ⟨g, hge⟩ : ∃ g, y.2 = g := ⟨_, rfl⟩
      rw [hge] at HC hg
      have htb : t.size ≤ 14 := by omega
      by_cases hk0 : k = 0
      · subst hk0
        have q2 : ¬ ((0 : Int) < 0) := by omega
        have hstr : str = ⟨#[]⟩ := by
          have : lsb str = [] := by have := hfl; simp [flz] at this; exact this.1
          exact ls_inj this
        have hat : at' = 0 := by have := hfl; simp [flz] at this; exact this.2.symm
        subst hstr hat
        obtain ⟨cc0, cc1⟩ := HC.out wr hbw
        have HE : Hid (flz n ind (zs.take 1) = (lsb t, t.size) ∧ Below w.heap.size w wr) := by
          have : zs.take 1 = [y] := by have := htk; simpa using this
          rw [this, flz_one, hlt', hts]; exact ⟨rfl, hbw⟩
        have hcat : (⟨#[]⟩ : ByteArray) ++ t = t := by apply ls_inj; simp [lsb]
        have hlong : ¬ 9223372036854775807 < 0 + t.size := by omega
        clear HI hfl hbw htk hy ht hlt' hts c0 c1 HC hw hge htl
        go_wp2_with fail
        exact ⟨⟨1, t, t.size, hlt, rfl, rfl, rfl, by omega, by omega, HE.out⟩, by simp [intOf]; omega⟩
      · have q2 : (0 : Int) < k := by omega
        have hne : zs.take k ≠ [] := by
          intro h
          have h1 : (zs.take k).length = 0 := by rw [h]; rfl
          rw [List.length_take] at h1; omega
        have hfs := flz_snoc n ind (zs.take k) y hne
        rw [← htk, hfl] at hfs
        unfold fnext at hfs
        simp only at hfs
        rw [hge, ← hts, ← hlt'] at hfs
        obtain ⟨cc0, cc1⟩ := HC.out wr hbw
        have HBW : Hid (Below w.heap.size w wr) := hbw
        have q6 : (g : Int) ≤ 3 := by omega
        have q7 : (0 : Int) ≤ at' := by omega
        by_cases hcond : n < (at' : Int) + g + t.size
        · rw [if_pos hcond] at hfs
          have HF : Hid (flz n ind (zs.take (k + 1)) = (lsb str ++ ([10] ++ (rep ind ++ lsb t)), ind + t.size)) := hfs
          clear HI hfl hbw htk hy ht hlt' hts c0 c1 hw hge htl hfs hne
          go_wp2_with fail
          go_quiet (fail)
          have hlong0 : ¬ 9223372036854775807 < str.size + 1 := by omega
          go_wp2_with (go_at_call 30; refine (KW.out _).mono ?_; rintro e w3 ⟨rfl, hb3⟩)
          have HBQ3 : Hid (Below w.heap.size w w3) := (below_drewN HBW.out _).trans (hb3.mono (below_drewN HBW.out _).size)
          clear hb3
          obtain ⟨wq, eq⟩ : ∃ wq, wq = w3 := ⟨_, rfl⟩
          have HBQ : Hid (Below w.heap.size w wq) := by rw [eq]; exact HBQ3.out
          rw [← eq]
          obtain ⟨k0, k1⟩ := HC.out wq HBQ.out
          have HQ : Hid (wq = w3) := eq
          clear eq cc0 cc1
          go_loopw [9, 12] (fun s i wz => ∃ (j : Nat) (st2 : ByteArray), j ≤ ind ∧ i = .int .i64 j ∧ s = .string st2 ∧ st2.size = str.size + (1 + j) ∧ Hid (lsb st2 = lsb str ++ ([10] ++ rep j)) ∧ wz = wq) (fun _ i _ => ind - (intOf i).toNat)
          case atStart => exact ⟨0, str ++ ⟨#[10]⟩, Nat.zero_le _, rfl, rfl, by rw [← ls_len, ← ls_len]; simp [lsb], by show _ = _; simp [lsb, rep], rfl⟩
          case round =>
            obtain ⟨j, st2, hj, rfl, rfl, hsz, HJ, rfl⟩ := hrel
            by_cases hjl : j < ind
            · have r1 : (j : Int) < ind := by omega
              have hlong : ¬ 9223372036854775807 < st2.size + 1 := by omega
              have HE : Hid (lsb (st2 ++ ⟨#[32]⟩) = lsb str ++ ([10] ++ rep (j + 1))) := by
                show _ = _
                have e : lsb (st2 ++ ⟨#[32]⟩) = lsb st2 ++ [32] := by simp [lsb]
                rw [e, HJ.out]
                simp [rep, List.replicate_succ']
              have HSZ : Hid ((st2 ++ ⟨#[32]⟩ : ByteArray).size = st2.size + 1) := by show _ = _; rw [← ls_len, ← ls_len]; simp [lsb]
              clear HJ
              go_wp2_with fail
              exact ⟨⟨j + 1, _, hjl, by go_num, rfl, by rw [HSZ.out]; omega, HE.out, by trivial⟩, by simp [intOf]; omega⟩
            · obtain rfl : j = ind := by omega
              have r1 : ¬ ((j : Int) < j) := by omega
              have hlong : ¬ 9223372036854775807 < st2.size + t.size := by omega
              have HE : Hid (flz n j (zs.take (k + 1)) = (lsb (st2 ++ t), j + t.size)) := by
                show _ = _
                rw [HF.out]
                have e : lsb (st2 ++ t) = lsb st2 ++ lsb t := by simp [lsb]
                rw [e, HJ.out]; simp
              have HSZ : Hid ((st2 ++ t).size = st2.size + t.size) := by show _ = _; rw [← ls_len, ← ls_len, ← ls_len]; simp [lsb]
              clear HJ HF
              go_wp2_with fail
              exact ⟨⟨k + 1, st2 ++ t, j + t.size, hlt, by go_num, rfl, by go_num, by rw [HSZ.out]; omega, by omega, HE.out, HBQ.out⟩, by simp [intOf]; omega⟩
        · rw [if_neg hcond] at hfs
          have HF : Hid (flz n ind (zs.take (k + 1)) = (lsb str ++ (rep g ++ lsb t), at' + g + t.size)) := hfs
          clear HI hfl hbw htk hy ht hlt' hts c0 c1 hw hge htl hfs hne
          go_wp2_with fail
          go_quiet (fail)
          go_wp2_with fail
          obtain ⟨wq, eq⟩ : ∃ wq, wq = wr.drewN nq := ⟨_, rfl⟩
          have HBQ : Hid (Below w.heap.size w wq) := by rw [eq]; exact below_drewN HBW.out _
          rw [← eq]
          obtain ⟨k0, k1⟩ := HC.out wq HBQ.out
          have HQ : Hid (wq = wr.drewN nq) := eq
          clear eq cc0 cc1
          go_loopw [9, 13] (fun s i wz => ∃ (j : Nat) (st2 : ByteArray), j ≤ g ∧ i = .int .i64 j ∧ s = .string st2 ∧ st2.size = str.size + (j) ∧ Hid (lsb st2 = lsb str ++ (rep j)) ∧ wz = wq) (fun _ i _ => g - (intOf i).toNat)
          case atStart => exact ⟨0, str, Nat.zero_le _, rfl, rfl, rfl, by show _ = _; simp [lsb, rep], rfl⟩
          case round =>
            obtain ⟨j, st2, hj, rfl, rfl, hsz, HJ, rfl⟩ := hrel
            by_cases hjl : j < g
            · have r1 : (j : Int) < g := by omega
              have hlong : ¬ 9223372036854775807 < st2.size + 1 := by omega
              have HE : Hid (lsb (st2 ++ ⟨#[32]⟩) = lsb str ++ (rep (j + 1))) := by
                show _ = _
                have e : lsb (st2 ++ ⟨#[32]⟩) = lsb st2 ++ [32] := by simp [lsb]
                rw [e, HJ.out]
                simp [rep, List.replicate_succ']
              have HSZ : Hid ((st2 ++ ⟨#[32]⟩ : ByteArray).size = st2.size + 1) := by show _ = _; rw [← ls_len, ← ls_len]; simp [lsb]
              clear HJ
              go_wp2_with fail
              exact ⟨⟨j + 1, _, hjl, by go_num, rfl, by rw [HSZ.out]; omega, HE.out, by trivial⟩, by simp [intOf]; omega⟩
            · obtain rfl : j = g := by omega
              have r1 : ¬ ((j : Int) < j) := by omega
              have hlong : ¬ 9223372036854775807 < st2.size + t.size := by omega
              have HE : Hid (flz n ind (zs.take (k + 1)) = (lsb (st2 ++ t), at' + j + t.size)) := by
                show _ = _
                rw [HF.out]
                have e : lsb (st2 ++ t) = lsb st2 ++ lsb t := by simp [lsb]
                rw [e, HJ.out]; simp
              have HSZ : Hid ((st2 ++ t).size = st2.size + t.size) := by show _ = _; rw [← ls_len, ← ls_len, ← ls_len]; simp [lsb]
              clear HJ HF
              go_wp2_with fail
              exact ⟨⟨k + 1, st2 ++ t, at' + j + t.size, hlt, by go_num, rfl, by go_num, by rw [HSZ.out]; omega, by omega, HE.out, HBQ.out⟩, by simp [intOf]; omega⟩
    · obtain rfl : k = zs.length := by omega
      have q1 : ¬ ((zs.length : Int) < zs.length) := by omega
      rw [List.take_length] at hfl
      have HE : Hid ((⟨(flz n ind zs).1.toArray⟩ : ByteArray) = str ∧ Below w.heap.size w wr) := by
        rw [hfl]; exact ⟨ls_inj (ls_mk _), hbw⟩
      clear HI hfl hbw
      go_wp2_with fail
      go_ret
      exact ⟨by rw [HE.out.1]; rfl, HE.out.2⟩
end Go.Proofs.YtcokccfbeonlnaaDoor
