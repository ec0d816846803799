import Derived.Test.YtkmmcpkakpglkaaDoorSo
set_option linter.unusedVariables false
set_option linter.unusedSimpArgs false
namespace Go.Proofs.YtkmmcpkakpglkaaDoor
open Go.RowKit
open Go.Lib (strCells strCells_length lastIdx lastIdx_hit lastIdx_miss lastIdx_spec)

theorem rtext_none (g : Nat) (t : ByteArray) (w : World) (ht : t.size = 0) : Calls Tryd.prog 33 #[.pointer (some ⟨g, 0, none⟩), .string t] w fun e w' => e = .returned (.int .i64 0) ∧ w' = w := by
  obtain rfl : t = ⟨#[]⟩ := by
    have : t = ByteArray.empty := ByteArray.size_eq_zero_iff.1 ht
    exact this
  go_enter Tryd.func33, Tryd.ntmps33
  go_wp2_with fail
  go_ret
  exact ⟨rfl, rfl⟩

theorem lastIdx_bd (t : ByteArray) (k : Nat) : -1 ≤ lastIdx t 10 k ∧ lastIdx t 10 k < k := by
  rcases lastIdx_spec t 10 k with ⟨h, _⟩ | ⟨i, hi, h, _⟩
  · rw [h]; omega
  · rw [h]; omega

theorem byte_at (t : ByteArray) (k : Nat) (h : k < t.size) : t.data[k]! = t[k]'h := by
  show t.data[k]! = t.data[k]'h
  exact getElem!_pos t.data k h

/-- The column that the document's loop leaves. -/
def lcol (t : ByteArray) (c : Int) (k : Nat) : Int := if lastIdx t 10 k < 0 then c else 0

set_option maxRecDepth 100000 in
set_option maxHeartbeats 2000000 in
theorem rtext_some (own : Nat → Nat) (i g : Nat) (s : St6) (t : ByteArray) (w : World) (h : RSK own i w g s) (hn : Nf own w) (ht : t.size ≠ 0) (hb : s.out.length + s.col + s.wait + t.size ≤ 1073741824) :
    Calls Tryd.prog 33 #[.pointer (some ⟨g, 0, none⟩), .string t] w fun e w' => e = .returned (.int .i64 0) ∧ AfR own i w w' g (s.text t) := by
  obtain ⟨i0, hi, hz0, hz1, hz2⟩ := info_parts Tryd.info5
  have hlt := h.len
  obtain ⟨ov, ind, col, hB, hc⟩ := h.open
  obtain ⟨fr, cl, wait, out⟩ := s
  simp only at *
  have hte : t.toList.isEmpty = false := ne_list ht
  have htb := tw_bd (aft t)
  have hsa := aft_size t
  have hlf := lf_bd t
  have HFIN : Hid (∀ (W : World) (v : Value) (ind : Nat), RB own i w g W v false ind (lcol t (cl + wait : Nat) t.size + tw (aft t)) 0 (out ++ ((if fr then List.replicate cl 32 else []) ++ (List.replicate wait 32 ++ t.data.toList))) → AfR own i w W g (St6.text ⟨fr, cl, wait, out⟩ t)) := by
    intro W v ind h
    have hst : St6.text ⟨fr, cl, wait, out⟩ t = ⟨false, (ncol cl wait t).toNat, 0, out ++ ((if fr then List.replicate cl 32 else []) ++ (List.replicate wait 32 ++ t.data.toList))⟩ := by
      unfold St6.text; rw [if_neg ht]
    have hnb := ncol_bd cl wait t
    have hcol : lcol t (cl + wait : Nat) t.size + tw (aft t) = ((ncol cl wait t).toNat : Int) := by
      rw [Int.toNat_of_nonneg hnb.1]
      unfold lcol ncol
      show (if lf t < 0 then ((cl + wait : Nat) : Int) else 0) + tw (aft t) = _
      by_cases hl : lf t < 0
      · rw [if_pos hl, if_pos hl]
        have : aft t = t := by
          have h1 : lf t = -1 := by omega
          unfold aft; rw [h1]
          exact ByteArray.extract_zero_size
        rw [this]; omega
      · rw [if_neg hl, if_neg hl]; omega
    rw [hcol] at h
    exact RB.fin (wait := 0) h hn hlt (St6.text ⟨fr, cl, wait, out⟩ t) (by rw [hst]) (by rw [hst]; rfl) (by rw [hst]) (by rw [hst])
  have HLF : Hid (lastIdx t 10 t.size = lf t) := rfl
  have c1 := hB.c1
  have c2 := hB.c2
  have c3 := hB.c3
  have c4 := hB.c4
  have HB : Hid (RB own i w g w ov fr ind col wait out) := hB
  clear h hn hlt hB ht
  cases fr
  · simp only [if_false, Bool.false_eq_true] at hc
    subst hc
    go_enter Tryd.func33, Tryd.ntmps33
    go_wp2_with fail
    refine (rblanks_loop own i w g w ov false ind cl wait out wait HB.out (by omega)).mono ?_
    rintro e w1 ⟨rfl, ov1, h1⟩
    have HB1 : Hid (RB own i w g w1 ov1 false ind cl wait (out ++ List.replicate wait 32)) := h1
    have d3 := h1.c3
    have d4 := h1.c4
    have e3 := h1.fz 3
    have e4 := h1.fz 4
    have d0 := h1.c0
    clear h1 HB c1 c2 c3 c4
    go_wp2_with fail
    go_region
    have hz : (cl : Int) + (wait : Int) = ((cl + wait : Nat) : Int) := by omega
    rw [hz]
    have hol : (out ++ List.replicate wait 32).length ≤ 1073741824 := by simp only [List.length_append, List.length_replicate]; omega
    obtain ⟨o1, ho1⟩ : ∃ o, out ++ List.replicate wait 32 = o := ⟨_, rfl⟩
    rw [ho1] at HB1 hol
    have HO1 : Hid (o1 ++ t.data.toList = out ++ ((if false then List.replicate cl 32 else []) ++ (List.replicate wait 32 ++ t.data.toList))) := by
      show _ = _
      rw [← ho1]; simp only [if_true, Bool.false_eq_true, if_false, List.nil_append, List.append_assoc]
    have HB4 : Hid (RB own i w g ((w1.setCell ⟨g, 3, none⟩ (.int .i64 ((cl + wait : Nat) : Int))).setCell ⟨g, 4, none⟩ (.int .i64 0)).drew ov1 false ind ((cl + wait : Nat) : Int) 0 o1) := ((HB1.out.set3 _).set4 0).below (Below.drew (Below.refl _ _))
    obtain ⟨p, cap, rfl, _, _⟩ := row_shape HB4.out.row
    clear HB1 hz ho1
    go_wp2_with (first | (at_builtin; refine wpList_append_string_at (P := Tryd.prog) rfl _ _ 39 9 rfl 0 5 i0 Tryd.underlying39 Tryd.underlying9 hi hz0 hz1 hz2 _ _ _ rfl HB4.out.row t rfl ?c3 ?c4 (Nat.zero_le _) ?_))
    case c3 => unfold maxLen; omega
    case c4 => omega
    intro v2 w2 ho2 hg2 hat
    have HE : Hid (RB own i w g (w2.setCell ⟨g, 0, none⟩ v2) v2 false ind ((cl + wait : Nat) : Int) 0 (o1 ++ t.data.toList)) := HB4.out.put hg2 ho2 (by rcases hat with h | h; exact .inl h; right; rw [h]; simp)
    have hb2 := HB4.out.mid hg2
    have y0 : w2.cell? ⟨g, 0, none⟩ = some (.slice p o1.length cap) := blk_cell hb2 rfl
    have z0 : w2.frozen? ⟨g, 0, none⟩ = false := blk_frozen hb2
    obtain ⟨p2, cap2, rfl, _, _⟩ := row_shape ho2
    clear ho2 hg2 hat hb2 HB4 d0 d3 d4 e3 e4
    go_wp2_with fail
    go_loopw [5, 6] (fun f j wr => ∃ k : Nat, k ≤ t.size ∧ f = .int .i64 (lastIdx t 10 k + 1) ∧ j = .int .i64 k ∧ Hid (RB own i w g wr (.slice p2 (o1.length + t.size) cap2) false ind (lcol t ((cl + wait : Nat) : Int) k) 0 (o1 ++ t.data.toList))) (fun _ j _ => t.size - (intOf j).toNat)
    case atStart => exact ⟨0, by omega, rfl, rfl, HE.out⟩
    case round =>
      obtain ⟨k, hk, rfl, rfl, HI⟩ := hrel
      clear HE y0 z0
      by_cases hlt : k < t.size
      · have q1 : (k : Int) < t.size := by omega
        have hba := byte_at t k hlt
        have x3 := HI.out.c3
        have u3 := HI.out.fz 3
        have hli := lastIdx_bd t k
        by_cases h10 : ((t[k]'hlt).toNat : Int) = 10
        · have h5 : (((t[k]'hlt).toNat : Int) == 10) = true := by rw [h10]; rfl
          have HS : Hid (lastIdx t 10 (k + 1) = k) := lastIdx_hit t 10 k (by rw [hba]; exact h10)
          have HE2 : Hid (RB own i w g (wr.setCell ⟨g, 3, none⟩ (.int .i64 0)) (.slice p2 (o1.length + t.size) cap2) false ind (lcol t ((cl + wait : Nat) : Int) (k + 1)) 0 (o1 ++ t.data.toList)) := by
            have h0 := HI.out.set3 0
            have : lcol t ((cl + wait : Nat) : Int) (k + 1) = 0 := by unfold lcol; rw [HS.out]; exact if_neg (by omega)
            rw [this]; exact h0
          clear HI hba h10
          go_wp2_with fail
          exact ⟨⟨k + 1, hlt, by rw [HS.out], by go_num, HE2.out⟩, by simp [intOf]; omega⟩
        · have h5 : (((t[k]'hlt).toNat : Int) == 10) = false := by simp; omega
          have HS : Hid (lastIdx t 10 (k + 1) = lastIdx t 10 k) := lastIdx_miss t 10 k (by rw [hba]; exact h10)
          have HE2 : Hid (RB own i w g wr (.slice p2 (o1.length + t.size) cap2) false ind (lcol t ((cl + wait : Nat) : Int) (k + 1)) 0 (o1 ++ t.data.toList)) := by
            have : lcol t ((cl + wait : Nat) : Int) (k + 1) = lcol t ((cl + wait : Nat) : Int) k := by unfold lcol; rw [HS.out]
            show RB _ _ _ _ _ _ _ _ _ _ _
            rw [this]; exact HI.out
          clear HI hba h10
          go_wp2_with fail
          exact ⟨⟨k + 1, hlt, by rw [HS.out], by go_num, HE2.out⟩, by simp [intOf]; omega⟩
      · obtain rfl : k = t.size := by omega
        have q1 : ¬ ((t.size : Int) < t.size) := by omega
        rw [HLF.out]
        obtain ⟨V, hV⟩ : ∃ V, V = wr := ⟨_, rfl⟩
        subst hV
        obtain ⟨m, hm⟩ : ∃ m : Nat, lf t + 1 = m := ⟨(lf t + 1).toNat, by omega⟩
        have HA : Hid (aft t = t.extract m t.size) := by unfold aft; rw [hm]; rfl
        obtain ⟨y, hy⟩ : ∃ y, tw (aft t) = y := ⟨_, rfl⟩
        obtain ⟨lc, hlc⟩ : ∃ lc, lcol t ((cl + wait : Nat) : Int) t.size = lc := ⟨_, rfl⟩
        have hlcb : 0 ≤ lc ∧ lc ≤ 2147483648 := by rw [← hlc]; unfold lcol; split <;> omega
        have HFY : Hid (∀ (W : World) (v : Value) (ind : Nat), RB own i w g W v false ind (lc + y) 0 (o1 ++ t.data.toList) → AfR own i w W g (St6.text ⟨false, cl, wait, out⟩ t)) := by
          rw [← hlc, ← hy]; intro W v ind h; rw [HO1.out] at h; exact HFIN.out W v ind h
        rw [hlc] at HI
        have hyb : 0 ≤ y ∧ y ≤ 2147483648 := by rw [← hy]; omega
        clear htb
        have HC : Hid (Calls Tryd.prog 51 #[.string (t.extract m t.size)] V.drew fun e W => e = .returned (.int .i64 y) ∧ Hid (RB own i w g W (.slice p2 (o1.length + t.size) cap2) false ind lc 0 (o1 ++ t.data.toList)) ∧ W.cell? ⟨g, 3, none⟩ = some (.int .i64 lc) ∧ W.frozen? ⟨g, 3, none⟩ = false) := by
          rw [← HA.out, ← hy]
          refine (rtext_any (aft t) V.drew (by omega)).mono ?_
          rintro e W ⟨rfl, hW⟩
          have := HI.out.below (w' := W) ⟨hW.os, hW.tape, hW.output, hW.size, hW.block⟩
          exact ⟨rfl, this, this.c3, this.fz 3⟩
        have x3 := HI.out.c3
        have u3 := HI.out.fz 3
        have j1 : (m : Int) ≤ t.size := by omega
        have j2 : m ≤ t.size := by omega
        have hm' : lf t + 1 = (m : Int) := hm
        rw [hm]
        clear HI HFIN hlf hm hm' HA hy hlc HO1 hsa HLF
        go_wp2_with fail
        go_region_with (go_at_call 51; refine HC.out.mono ?_; rintro e w5 ⟨rfl, HR5, k1, k2⟩)
        all_goals
          have hz2 : IntKind.i64.wrap (lc + y) = lc + y := by rw [IntKind.wrap_i64]; omega
          rw [hz2]
          have HQ : Hid (AfR own i w (w5.setCell ⟨g, 3, none⟩ (.int .i64 (lc + y))) g (St6.text ⟨false, cl, wait, out⟩ t)) := HFY.out _ _ _ (HR5.out.set3 (lc + y))
          clear HR5 HFY HC hz2
          go_wp2_with fail
          go_ret
          exact ⟨rfl, HQ.out⟩
  · simp only [if_true] at hc
    subst hc
    go_enter Tryd.func33, Tryd.ntmps33
    go_wp2_with fail
    refine (rblanks_loop own i w g w ov true cl col wait out cl HB.out (by omega)).mono ?_
    rintro e w9 ⟨rfl, ov9, h9⟩
    have HB9 : Hid (RB own i w g ((w9.setCell ⟨g, 3, none⟩ (.int .i64 cl)).setCell ⟨g, 1, none⟩ (.bool false)) ov9 false cl cl wait (out ++ List.replicate cl 32)) := (h9.set3 _).set1 _
    have d1 := h9.c1
    have d2 := h9.c2
    have d3 := h9.c3
    have d4 := h9.c4
    have e1 := h9.fz 1
    have e3 := h9.fz 3
    clear h9 HB c1 c2 c3 c4
    go_wp2_with fail
    refine (rblanks_loop own i w g _ ov9 false cl cl wait (out ++ List.replicate cl 32) wait HB9.out (by simp only [List.length_append, List.length_replicate]; omega)).mono ?_
    rintro e w1 ⟨rfl, ov1, h1⟩
    have HB1 : Hid (RB own i w g w1 ov1 false cl cl wait ((out ++ List.replicate cl 32) ++ List.replicate wait 32)) := h1
    clear d1 d2 d3 d4 e1 e3 HB9
    have d3 := h1.c3
    have d4 := h1.c4
    have e3 := h1.fz 3
    have e4 := h1.fz 4
    have d0 := h1.c0
    clear h1
    go_wp2_with fail
    go_region
    have hz : (cl : Int) + (wait : Int) = ((cl + wait : Nat) : Int) := by omega
    rw [hz]
    have hol : ((out ++ List.replicate cl 32) ++ List.replicate wait 32).length ≤ 1073741824 := by simp only [List.length_append, List.length_replicate]; omega
    obtain ⟨o1, ho1⟩ : ∃ o, (out ++ List.replicate cl 32) ++ List.replicate wait 32 = o := ⟨_, rfl⟩
    rw [ho1] at HB1 hol
    have HO1 : Hid (o1 ++ t.data.toList = out ++ ((if true then List.replicate cl 32 else []) ++ (List.replicate wait 32 ++ t.data.toList))) := by
      show _ = _
      rw [← ho1]; simp only [if_true, Bool.false_eq_true, if_false, List.nil_append, List.append_assoc]
    have HB4 : Hid (RB own i w g ((w1.setCell ⟨g, 3, none⟩ (.int .i64 ((cl + wait : Nat) : Int))).setCell ⟨g, 4, none⟩ (.int .i64 0)).drew ov1 false cl ((cl + wait : Nat) : Int) 0 o1) := ((HB1.out.set3 _).set4 0).below (Below.drew (Below.refl _ _))
    obtain ⟨p, cap, rfl, _, _⟩ := row_shape HB4.out.row
    clear HB1 hz ho1
    go_wp2_with (first | (at_builtin; refine wpList_append_string_at (P := Tryd.prog) rfl _ _ 39 9 rfl 0 5 i0 Tryd.underlying39 Tryd.underlying9 hi hz0 hz1 hz2 _ _ _ rfl HB4.out.row t rfl ?c3 ?c4 (Nat.zero_le _) ?_))
    case c3 => unfold maxLen; omega
    case c4 => omega
    intro v2 w2 ho2 hg2 hat
    have HE : Hid (RB own i w g (w2.setCell ⟨g, 0, none⟩ v2) v2 false cl ((cl + wait : Nat) : Int) 0 (o1 ++ t.data.toList)) := HB4.out.put hg2 ho2 (by rcases hat with h | h; exact .inl h; right; rw [h]; simp)
    have hb2 := HB4.out.mid hg2
    have y0 : w2.cell? ⟨g, 0, none⟩ = some (.slice p o1.length cap) := blk_cell hb2 rfl
    have z0 : w2.frozen? ⟨g, 0, none⟩ = false := blk_frozen hb2
    obtain ⟨p2, cap2, rfl, _, _⟩ := row_shape ho2
    clear ho2 hg2 hat hb2 HB4 d0 d3 d4 e3 e4
    go_wp2_with fail
    go_loopw [5, 6] (fun f j wr => ∃ k : Nat, k ≤ t.size ∧ f = .int .i64 (lastIdx t 10 k + 1) ∧ j = .int .i64 k ∧ Hid (RB own i w g wr (.slice p2 (o1.length + t.size) cap2) false cl (lcol t ((cl + wait : Nat) : Int) k) 0 (o1 ++ t.data.toList))) (fun _ j _ => t.size - (intOf j).toNat)
    case atStart => exact ⟨0, by omega, rfl, rfl, HE.out⟩
    case round =>
      obtain ⟨k, hk, rfl, rfl, HI⟩ := hrel
      clear HE y0 z0
      by_cases hlt : k < t.size
      · have q1 : (k : Int) < t.size := by omega
        have hba := byte_at t k hlt
        have x3 := HI.out.c3
        have u3 := HI.out.fz 3
        have hli := lastIdx_bd t k
        by_cases h10 : ((t[k]'hlt).toNat : Int) = 10
        · have h5 : (((t[k]'hlt).toNat : Int) == 10) = true := by rw [h10]; rfl
          have HS : Hid (lastIdx t 10 (k + 1) = k) := lastIdx_hit t 10 k (by rw [hba]; exact h10)
          have HE2 : Hid (RB own i w g (wr.setCell ⟨g, 3, none⟩ (.int .i64 0)) (.slice p2 (o1.length + t.size) cap2) false cl (lcol t ((cl + wait : Nat) : Int) (k + 1)) 0 (o1 ++ t.data.toList)) := by
            have h0 := HI.out.set3 0
            have : lcol t ((cl + wait : Nat) : Int) (k + 1) = 0 := by unfold lcol; rw [HS.out]; exact if_neg (by omega)
            rw [this]; exact h0
          clear HI hba h10
          go_wp2_with fail
          exact ⟨⟨k + 1, hlt, by rw [HS.out], by go_num, HE2.out⟩, by simp [intOf]; omega⟩
        · have h5 : (((t[k]'hlt).toNat : Int) == 10) = false := by simp; omega
          have HS : Hid (lastIdx t 10 (k + 1) = lastIdx t 10 k) := lastIdx_miss t 10 k (by rw [hba]; exact h10)
          have HE2 : Hid (RB own i w g wr (.slice p2 (o1.length + t.size) cap2) false cl (lcol t ((cl + wait : Nat) : Int) (k + 1)) 0 (o1 ++ t.data.toList)) := by
            have : lcol t ((cl + wait : Nat) : Int) (k + 1) = lcol t ((cl + wait : Nat) : Int) k := by unfold lcol; rw [HS.out]
            show RB _ _ _ _ _ _ _ _ _ _ _
            rw [this]; exact HI.out
          clear HI hba h10
          go_wp2_with fail
          exact ⟨⟨k + 1, hlt, by rw [HS.out], by go_num, HE2.out⟩, by simp [intOf]; omega⟩
      · obtain rfl : k = t.size := by omega
        have q1 : ¬ ((t.size : Int) < t.size) := by omega
        rw [HLF.out]
        obtain ⟨V, hV⟩ : ∃ V, V = wr := ⟨_, rfl⟩
        subst hV
        obtain ⟨m, hm⟩ : ∃ m : Nat, lf t + 1 = m := ⟨(lf t + 1).toNat, by omega⟩
        have HA : Hid (aft t = t.extract m t.size) := by unfold aft; rw [hm]; rfl
        obtain ⟨y, hy⟩ : ∃ y, tw (aft t) = y := ⟨_, rfl⟩
        obtain ⟨lc, hlc⟩ : ∃ lc, lcol t ((cl + wait : Nat) : Int) t.size = lc := ⟨_, rfl⟩
        have hlcb : 0 ≤ lc ∧ lc ≤ 2147483648 := by rw [← hlc]; unfold lcol; split <;> omega
        have HFY : Hid (∀ (W : World) (v : Value) (ind : Nat), RB own i w g W v false ind (lc + y) 0 (o1 ++ t.data.toList) → AfR own i w W g (St6.text ⟨true, cl, wait, out⟩ t)) := by
          rw [← hlc, ← hy]; intro W v ind h; rw [HO1.out] at h; exact HFIN.out W v ind h
        rw [hlc] at HI
        have hyb : 0 ≤ y ∧ y ≤ 2147483648 := by rw [← hy]; omega
        clear htb
        have HC : Hid (Calls Tryd.prog 51 #[.string (t.extract m t.size)] V.drew fun e W => e = .returned (.int .i64 y) ∧ Hid (RB own i w g W (.slice p2 (o1.length + t.size) cap2) false cl lc 0 (o1 ++ t.data.toList)) ∧ W.cell? ⟨g, 3, none⟩ = some (.int .i64 lc) ∧ W.frozen? ⟨g, 3, none⟩ = false) := by
          rw [← HA.out, ← hy]
          refine (rtext_any (aft t) V.drew (by omega)).mono ?_
          rintro e W ⟨rfl, hW⟩
          have := HI.out.below (w' := W) ⟨hW.os, hW.tape, hW.output, hW.size, hW.block⟩
          exact ⟨rfl, this, this.c3, this.fz 3⟩
        have x3 := HI.out.c3
        have u3 := HI.out.fz 3
        have j1 : (m : Int) ≤ t.size := by omega
        have j2 : m ≤ t.size := by omega
        have hm' : lf t + 1 = (m : Int) := hm
        rw [hm]
        clear HI HFIN hlf hm hm' HA hy hlc HO1 hsa HLF
        go_wp2_with fail
        go_region_with (go_at_call 51; refine HC.out.mono ?_; rintro e w5 ⟨rfl, HR5, k1, k2⟩)
        all_goals
          have hz2 : IntKind.i64.wrap (lc + y) = lc + y := by rw [IntKind.wrap_i64]; omega
          rw [hz2]
          have HQ : Hid (AfR own i w (w5.setCell ⟨g, 3, none⟩ (.int .i64 (lc + y))) g (St6.text ⟨true, cl, wait, out⟩ t)) := HFY.out _ _ _ (HR5.out.set3 (lc + y))
          clear HR5 HFY HC hz2
          go_wp2_with fail
          go_ret
          exact ⟨rfl, HQ.out⟩

theorem rtxt_any (own : Nat → Nat) (i g : Nat) (s : St6) (t : ByteArray) (w : World) (h : RSK own i w g s) (hn : Nf own w) (hb : s.out.length + s.col + s.wait + t.size ≤ 1073741824) :
    Calls Tryd.prog 33 #[.pointer (some ⟨g, 0, none⟩), .string t] w fun e w' => e = .returned (.int .i64 0) ∧ AfR own i w w' g (s.text t) := by
  by_cases ht : t.size = 0
  · refine (rtext_none g t w ht).mono ?_
    rintro e w' ⟨rfl, rfl⟩
    have : s.text t = s := if_pos ht
    rw [this]
    exact ⟨rfl, AfR.here h hn (Below.refl _ _)⟩
  · exact rtext_some own i g s t w h hn ht hb
end Go.Proofs.YtkmmcpkakpglkaaDoor
