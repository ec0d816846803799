import Derived.Test.YtjibpdncginkdaaNy
set_option linter.unusedVariables false
set_option linter.unusedSimpArgs false
namespace Go.Proofs.Ytjibpdncginkdaa
open Go.RowKit

def okRoom (k : Int) : Prop := 1 ≤ k ∧ k ≤ 2097152
theorem newI_bad (k : Int) (w : World) (h : ¬ okRoom k) : Calls Try.prog 16 #[.int .i64 k] w fun e w' => e = .returned (.tuple #[.pointer none, .int .i64 1]) ∧ w' = w := by
  unfold okRoom at h
  by_cases h1 : k < 1
  · exact newI_low k w h1
  · exact newI_high k w (by omega)
theorem newT_bad (k : Int) (w : World) (h : ¬ okRoom k) : Calls Try.prog 17 #[.int .i64 k] w fun e w' => e = .returned (.tuple #[.pointer none, .int .i64 1]) ∧ w' = w := by
  unfold okRoom at h
  by_cases h1 : k < 1
  · exact newT_low k w h1
  · exact newT_high k w (by omega)
theorem newR_bad (k : Int) (w : World) (h : ¬ okRoom k) : Calls Try.prog 15 #[.int .i64 k] w fun e w' => e = .returned (.tuple #[.pointer none, .int .i64 1]) ∧ w' = w := by
  unfold okRoom at h
  by_cases h1 : k < 1
  · exact newR_low k w h1
  · exact newR_high k w (by omega)

/-- The two triples, made since w. -/
def Iv6 (w : World) (pr pt pq ps pu pp : Value) (W : World) (s1 s2 : St) : Prop := ∃ own, Nf own W ∧ FrS (fun j => j ≠ 0) (fun _ => 0) own w W ∧ Tri 1 own W pr pt pq s1 ∧ Tri 4 own W ps pu pp s2
section
variable {w W : World} {pr pt pq ps pu pp : Value} {s1 s2 : St}
theorem Iv6.bel (h : Iv6 w pr pt pq ps pu pp W s1 s2) : Below w.heap.size w W := by
  obtain ⟨own, _, f, _⟩ := h
  exact ⟨f.os, f.tape, f.output, f.size, fun k hk => f.block k hk (by simp)⟩
theorem Iv6.below {W' : World} (h : Iv6 w pr pt pq ps pu pp W s1 s2) (hb : Below W.heap.size W W') : Iv6 w pr pt pq ps pu pp W' s1 s2 := by
  obtain ⟨own, n, f, a, b⟩ := h
  exact ⟨own, n.below hb.size, f.trans (FrS.of_below hb), a.below hb, b.below hb⟩
theorem Iv6.one (h : Iv6 w pr pt pq ps pu pp W s1 s2) (k : Int) (o : Bool) (I X : Int) : Calls Try.prog 18 #[pr, pt, pq, .agg #[.int .i64 k, .bool o, .int .i64 I, .int .i64 X]] W fun e W' => e = .returned (.bool true) ∧ Iv6 w pr pt pq ps pu pp W' (stp k I X s1) s2 := by
  obtain ⟨own, n, f, a, b⟩ := h
  refine (one_any 1 own W pr pt pq s1 k o I X n (by omega) a).mono ?_
  rintro e W' ⟨rfl, own', n', f', a'⟩
  exact ⟨rfl, own', n', f.trans (f'.mono (fun j hj => by unfold In3 at hj; show j ≠ 0; omega)), a', b.keptS f' (by unfold In3; omega) (by unfold In3; omega) (by unfold In3; omega)⟩
theorem Iv6.two (h : Iv6 w pr pt pq ps pu pp W s1 s2) (k : Int) (o : Bool) (I X : Int) : Calls Try.prog 18 #[ps, pu, pp, .agg #[.int .i64 k, .bool o, .int .i64 I, .int .i64 X]] W fun e W' => e = .returned (.bool true) ∧ Iv6 w pr pt pq ps pu pp W' s1 (stp k I X s2) := by
  obtain ⟨own, n, f, a, b⟩ := h
  refine (one_any 4 own W ps pu pp s2 k o I X n (by omega) b).mono ?_
  rintro e W' ⟨rfl, own', n', f', b'⟩
  exact ⟨rfl, own', n', f.trans (f'.mono (fun j hj => by unfold In3 at hj; show j ≠ 0; omega)), a.keptS f' (by unfold In3; omega) (by unfold In3; omega) (by unfold In3; omega), b'⟩
theorem Iv6.len (h : Iv6 w pr pt pq ps pu pp W s1 s2) : Calls Try.prog 19 #[pq] W fun e W' => e = .returned (.int .i64 (lenV s1)) ∧ W' = W := by
  obtain ⟨own, n, f, a, b⟩ := h
  exact lenR_st a.2.2
theorem Iv6.lenB (h : Iv6 w pr pt pq ps pu pp W s1 s2) : 0 ≤ lenV s1 ∧ lenV s1 ≤ 2097152 := by
  obtain ⟨own, n, f, a, b⟩ := h
  have := a.2.2
  rcases s1 with _ | ⟨r, l⟩
  · simp [lenV]
  · obtain ⟨g, sv, e, hr⟩ := this
    have := hr.len
    have := hr.r2
    simp only [lenV]; omega
end

/-- One triple made at label a. -/
theorem tri_good (a : Nat) (own : Nat → Nat) (k : Nat) (w w1 w2 w3 : World) (pr pt pq : Value) {o1 o2 o3 : Nat → Nat} (f1 : Fr (a + 2) own o1 w w1) (f2 : Fr a o1 o2 w1 w2) (f3 : Fr (a + 1) o2 o3 w2 w3) (r : SR o1 (a + 2) w1 pq (some (k, []))) (i : SI o2 a w2 pr (some (k, []))) (t : ST o3 (a + 1) w3 pt (some (k, []))) :
    FrS (In3 a) own o3 w w3 ∧ Tri a o3 w3 pr pt pq (some (k, [])) :=
  ⟨((FrS.of f1 (.inr (.inr rfl))).trans (FrS.of f2 (.inl rfl))).trans (FrS.of f3 (.inr (.inl rfl))), i.kept f3 (by omega), t, (r.kept f2 (by omega)).kept f3 (by omega)⟩

/-- The acts that a script holds. -/
def Script (w : World) (ao : Option Addr) (n : Nat) : Prop := ∀ j, j < n → ∃ (b off : Nat) (k : Int) (o : Bool) (I X : Int), ao = some ⟨b, off, none⟩ ∧
  w.cell? ⟨b, off + j * 4, none⟩ = some (.int .i64 k) ∧ w.cell? ⟨b, off + j * 4 + 1, none⟩ = some (.bool o) ∧ w.cell? ⟨b, off + j * 4 + 2, none⟩ = some (.int .i64 I) ∧ w.cell? ⟨b, off + j * 4 + 3, none⟩ = some (.int .i64 X)

set_option maxRecDepth 100000 in
set_option maxHeartbeats 2000000 in
theorem ringPlays_any (room other : Int) (ao : Option Addr) (n cap : Nat) (w : World) (hs : Script w ao n) :
    Calls Try.prog 4 #[.int .i64 room, .int .i64 other, .slice ao n cap] w fun e w' => e = .returned (.bool true) ∧ Below w.heap.size w w' := by
  by_cases hlen : 16777216 < n
  · have q1 : (16777216 : Int) < (n : Int) := by omega
    go_enter Try.func4, Try.ntmps4
    go_wp2_with fail
    go_ret
    exact ⟨rfl, Below.refl _ _⟩
  have q1 : ¬ ((16777216 : Int) < (n : Int)) := by omega
  have HSC : Hid (Script w ao n) := hs
  clear hs
  have HL : Hid (n ≤ 16777216) := by show n ≤ 16777216; omega
  clear hlen
  go_enter Try.func4, Try.ntmps4
  go_wp2_with fail
  by_cases hr : okRoom room
  · obtain ⟨R, rfl⟩ : ∃ R : Nat, room = R := ⟨room.toNat, by unfold okRoom at hr; omega⟩
    unfold okRoom at hr
    refine (newR_st (fun _ => 0) 3 R w (by omega) (by omega) (fun _ _ => rfl)).mono ?_
    rintro e w1 ⟨rfl, o1, n1, f1, r1⟩
    generalize (Value.pointer (some ⟨w.heap.size, 0, none⟩)) = pq at *
    go_wp2_with fail
    refine (newI_st o1 1 R w1 (by omega) (by omega) n1).mono ?_
    rintro e w2 ⟨rfl, o2, n2, f2, i2⟩
    go_wp2_with fail
    refine (newT_st o2 2 R w2 (by omega) (by omega) n2).mono ?_
    rintro e w3 ⟨rfl, o3, n3, f3, t3⟩
    obtain ⟨F3, T3⟩ := tri_good 1 (fun _ => 0) R w w1 w2 w3 _ _ _ f1 f2 f3 r1 i2 t3
    clear f1 f2 f3 r1 i2 t3 n1 n2
    go_wp2_with fail
    generalize (Value.pointer (some ⟨w1.heap.size, 0, none⟩)) = pr at *
    generalize (Value.pointer (some ⟨w2.heap.size, 0, none⟩)) = pt at *
    generalize (some (R, []) : St) = s1 at *
    by_cases hr2 : okRoom other
    · obtain ⟨R2, rfl⟩ : ∃ R2 : Nat, other = R2 := ⟨other.toNat, by unfold okRoom at hr2; omega⟩
      unfold okRoom at hr2
      refine (newR_st o3 6 R2 w3 (by omega) (by omega) n3).mono ?_
      rintro e w4 ⟨rfl, o4, n4, f4, r4⟩
      generalize (Value.pointer (some ⟨w3.heap.size, 0, none⟩)) = pp at *
      go_wp2_with fail
      refine (newI_st o4 4 R2 w4 (by omega) (by omega) n4).mono ?_
      rintro e w5 ⟨rfl, o5, n5, f5, i5⟩
      go_wp2_with fail
      refine (newT_st o5 5 R2 w5 (by omega) (by omega) n5).mono ?_
      rintro e w6 ⟨rfl, o6, n6, f6, t6⟩
      obtain ⟨G6, T2⟩ := tri_good 4 o3 R2 w3 w4 w5 w6 _ _ _ f4 f5 f6 r4 i5 t6
      have T1 := T3.keptS G6 (by unfold In3; omega) (by unfold In3; omega) (by unfold In3; omega)
      have F6 : FrS (fun j => j ≠ 0) (fun _ => 0) o6 w w6 := (F3.mono (fun j hj => by unfold In3 at hj; show j ≠ 0; omega)).trans (G6.mono (fun j hj => by unfold In3 at hj; show j ≠ 0; omega))
      clear f4 f5 f6 r4 i5 t6 n4 n5 G6 F3 T3 n3
      go_wp2_with fail
      generalize (Value.pointer (some ⟨w4.heap.size, 0, none⟩)) = ps at *
      generalize (Value.pointer (some ⟨w5.heap.size, 0, none⟩)) = pu at *
      generalize (some (R2, []) : St) = s2 at *
      have hv : Iv6 w pr pt pq ps pu pp w6 s1 s2 := ⟨o6, n6, F6, T1, T2⟩
      clear n6 F6 T1 T2
      go_wp2_with fail
      go_loopw [16] (fun i W => ∃ (j : Nat) (t1 t2 : St), j ≤ n ∧ i = .int .i64 j ∧ Iv6 w pr pt pq ps pu pp W t1 t2) (fun i _ => n - (intOf i).toNat)
      case atStart => exact ⟨0, s1, s2, by omega, rfl, hv⟩
      case round =>
        clear hv
        obtain ⟨j, t1, t2, hj, rfl, hv⟩ := hrel
        have hn := HL.out
        by_cases hc : j < n
        · have c1 : (j : Int) < (n : Int) := by omega
          have c0 : (0 : Int) ≤ (j : Int) := by omega
          obtain ⟨b, off, k, o, I, X, rfl, a0, a1, a2, a3⟩ := HSC.out j hc
          have hB := hv.bel
          have d0 := cell_up a0 hB
          have d1 := cell_up a1 hB
          have d2 := cell_up a2 hB
          have d3 := cell_up a3 hB
          have hva := hv.below ((Below.refl _ wr).alloc (Nat.le_refl _) (Obj.cells #[.int .i64 k, .bool o, .int .i64 I, .int .i64 X] 45))
          clear a0 a1 a2 a3 hB hv
          cases o
          · go_wp2_with fail
            refine (hva.one k false I X).mono ?_
            rintro e w7 ⟨rfl, hv7⟩
            clear hva
            go_wp2_with fail
            exact ⟨⟨j + 1, _, _, by omega, by go_num, hv7⟩, by simp [intOf]; omega⟩
          · go_wp2_with fail
            refine (hva.two k true I X).mono ?_
            rintro e w7 ⟨rfl, hv7⟩
            clear hva
            go_wp2_with fail
            exact ⟨⟨j + 1, _, _, by omega, by go_num, hv7⟩, by simp [intOf]; omega⟩
        · obtain rfl : j = n := by omega
          clear hc hj hn
          obtain ⟨V, eV⟩ : ∃ V, V = wr := ⟨wr, rfl⟩
          subst eV
          obtain ⟨hl1, hl2⟩ := hv.lenB
          go_wp2_with fail
          go_loopw [19] (fun i W => ∃ q : Int, -1 ≤ q ∧ q ≤ lenV t1 + 1 ∧ i = .int .i64 q ∧ Iv6 w pr pt pq ps pu pp W t1 t2) (fun i _ => (lenV t1 + 1 - intOf i).toNat)
          case atStart => exact ⟨-1, by omega, by omega, rfl, hv⟩
          case round =>
            clear hv
            obtain ⟨q, hq1, hq2, rfl, hv⟩ := hrel
            go_wp2_with fail
            refine hv.len.mono ?_
            rintro e w7 ⟨rfl, rfl⟩
            generalize hLL : lenV t1 = L at *
            have HLL : Hid (lenV t1 = L) := hLL
            clear hLL
            by_cases hc : q ≤ L
            · have c1 : decide (q ≤ L) = true := by simp; exact hc
              go_wp2_with fail
              refine (hv.one 4 false q 0).mono ?_
              rintro e w8 ⟨rfl, hv8⟩
              rw [show stp 4 q 0 t1 = t1 from rfl] at hv8
              clear hv
              go_wp2_with fail
              exact ⟨⟨q + 1, by omega, by have := HLL.out; omega, by go_num, hv8⟩, by have := HLL.out; simp [intOf]; omega⟩
            · have c1 : decide (q ≤ L) = false := by simp; omega
              go_wp2_with fail
              refine (hv.one 6 false 0 0).mono ?_
              rintro e w8 ⟨rfl, hv8⟩
              clear hv
              go_wp2_with fail
              refine (hv8.two 6 false 0 0).mono ?_
              rintro e w9 ⟨rfl, hv9⟩
              have hB := hv9.bel
              clear hv8 hv9
              go_wp2_with fail
              refine (awake_any _).mono ?_
              rintro e wA ⟨rfl, hbA⟩
              replace hB := hB.trans (hbA.mono hB.size)
              go_wp2_with fail
              go_ret
              exact ⟨rfl, hB⟩
    · refine (newR_bad other w3 hr2).mono ?_
      rintro e w4 ⟨rfl, hw4⟩
      replace hw4 := hw4.symm
      subst hw4
      go_wp2_with fail
      refine (newI_bad other w3 hr2).mono ?_
      rintro e w5 ⟨rfl, hw5⟩
      replace hw5 := hw5.symm
      subst hw5
      go_wp2_with fail
      refine (newT_bad other w3 hr2).mono ?_
      rintro e w6 ⟨rfl, hw6⟩
      replace hw6 := hw6.symm
      subst hw6
      have T1 := T3
      have T2 : Tri 4 o3 w3 (.pointer none) (.pointer none) (.pointer none) none := ⟨rfl, rfl, rfl⟩
      have F6 : FrS (fun j => j ≠ 0) (fun _ => 0) o3 w w3 := F3.mono (fun j hj => by unfold In3 at hj; show j ≠ 0; omega)
      have n6 := n3
      clear F3 T3 n3
      go_wp2_with fail
      have hv : Iv6 w pr pt pq (.pointer none) (.pointer none) (.pointer none) w3 s1 none := ⟨o3, n6, F6, T1, T2⟩
      clear n6 F6 T1 T2
      go_wp2_with fail
      go_loopw [16] (fun i W => ∃ (j : Nat) (t1 t2 : St), j ≤ n ∧ i = .int .i64 j ∧ Iv6 w pr pt pq (.pointer none) (.pointer none) (.pointer none) W t1 t2) (fun i _ => n - (intOf i).toNat)
      case atStart => exact ⟨0, s1, none, by omega, rfl, hv⟩
      case round =>
        clear hv
        obtain ⟨j, t1, t2, hj, rfl, hv⟩ := hrel
        have hn := HL.out
        by_cases hc : j < n
        · have c1 : (j : Int) < (n : Int) := by omega
          have c0 : (0 : Int) ≤ (j : Int) := by omega
          obtain ⟨b, off, k, o, I, X, rfl, a0, a1, a2, a3⟩ := HSC.out j hc
          have hB := hv.bel
          have d0 := cell_up a0 hB
          have d1 := cell_up a1 hB
          have d2 := cell_up a2 hB
          have d3 := cell_up a3 hB
          have hva := hv.below ((Below.refl _ wr).alloc (Nat.le_refl _) (Obj.cells #[.int .i64 k, .bool o, .int .i64 I, .int .i64 X] 45))
          clear a0 a1 a2 a3 hB hv
          cases o
          · go_wp2_with fail
            refine (hva.one k false I X).mono ?_
            rintro e w7 ⟨rfl, hv7⟩
            clear hva
            go_wp2_with fail
            exact ⟨⟨j + 1, _, _, by omega, by go_num, hv7⟩, by simp [intOf]; omega⟩
          · go_wp2_with fail
            refine (hva.two k true I X).mono ?_
            rintro e w7 ⟨rfl, hv7⟩
            clear hva
            go_wp2_with fail
            exact ⟨⟨j + 1, _, _, by omega, by go_num, hv7⟩, by simp [intOf]; omega⟩
        · obtain rfl : j = n := by omega
          clear hc hj hn
          obtain ⟨V, eV⟩ : ∃ V, V = wr := ⟨wr, rfl⟩
          subst eV
          obtain ⟨hl1, hl2⟩ := hv.lenB
          go_wp2_with fail
          go_loopw [19] (fun i W => ∃ q : Int, -1 ≤ q ∧ q ≤ lenV t1 + 1 ∧ i = .int .i64 q ∧ Iv6 w pr pt pq (.pointer none) (.pointer none) (.pointer none) W t1 t2) (fun i _ => (lenV t1 + 1 - intOf i).toNat)
          case atStart => exact ⟨-1, by omega, by omega, rfl, hv⟩
          case round =>
            clear hv
            obtain ⟨q, hq1, hq2, rfl, hv⟩ := hrel
            go_wp2_with fail
            refine hv.len.mono ?_
            rintro e w7 ⟨rfl, rfl⟩
            generalize hLL : lenV t1 = L at *
            have HLL : Hid (lenV t1 = L) := hLL
            clear hLL
            by_cases hc : q ≤ L
            · have c1 : decide (q ≤ L) = true := by simp; exact hc
              go_wp2_with fail
              refine (hv.one 4 false q 0).mono ?_
              rintro e w8 ⟨rfl, hv8⟩
              rw [show stp 4 q 0 t1 = t1 from rfl] at hv8
              clear hv
              go_wp2_with fail
              exact ⟨⟨q + 1, by omega, by have := HLL.out; omega, by go_num, hv8⟩, by have := HLL.out; simp [intOf]; omega⟩
            · have c1 : decide (q ≤ L) = false := by simp; omega
              go_wp2_with fail
              refine (hv.one 6 false 0 0).mono ?_
              rintro e w8 ⟨rfl, hv8⟩
              clear hv
              go_wp2_with fail
              refine (hv8.two 6 false 0 0).mono ?_
              rintro e w9 ⟨rfl, hv9⟩
              have hB := hv9.bel
              clear hv8 hv9
              go_wp2_with fail
              refine (awake_any _).mono ?_
              rintro e wA ⟨rfl, hbA⟩
              replace hB := hB.trans (hbA.mono hB.size)
              go_wp2_with fail
              go_ret
              exact ⟨rfl, hB⟩
  · refine (newR_bad room w hr).mono ?_
    rintro e w1 ⟨rfl, hw1⟩
    replace hw1 := hw1.symm
    subst hw1
    go_wp2_with fail
    refine (newI_bad room w hr).mono ?_
    rintro e w2 ⟨rfl, hw2⟩
    replace hw2 := hw2.symm
    subst hw2
    go_wp2_with fail
    refine (newT_bad room w hr).mono ?_
    rintro e w3 ⟨rfl, hw3⟩
    replace hw3 := hw3.symm
    subst hw3
    obtain ⟨o3, n3, F3, T3⟩ : ∃ o3, Nf o3 w ∧ FrS (In3 1) (fun _ => 0) o3 w w ∧ Tri 1 o3 w (.pointer none) (.pointer none) (.pointer none) none := ⟨fun _ => 0, fun _ _ => rfl, FrS.refl _ _ _, rfl, rfl, rfl⟩
    go_wp2_with fail
    by_cases hr2 : okRoom other
    · obtain ⟨R2, rfl⟩ : ∃ R2 : Nat, other = R2 := ⟨other.toNat, by unfold okRoom at hr2; omega⟩
      unfold okRoom at hr2
      refine (newR_st o3 6 R2 w (by omega) (by omega) n3).mono ?_
      rintro e w4 ⟨rfl, o4, n4, f4, r4⟩
      generalize (Value.pointer (some ⟨w.heap.size, 0, none⟩)) = pp at *
      go_wp2_with fail
      refine (newI_st o4 4 R2 w4 (by omega) (by omega) n4).mono ?_
      rintro e w5 ⟨rfl, o5, n5, f5, i5⟩
      go_wp2_with fail
      refine (newT_st o5 5 R2 w5 (by omega) (by omega) n5).mono ?_
      rintro e w6 ⟨rfl, o6, n6, f6, t6⟩
      obtain ⟨G6, T2⟩ := tri_good 4 o3 R2 w w4 w5 w6 _ _ _ f4 f5 f6 r4 i5 t6
      have T1 := T3.keptS G6 (by unfold In3; omega) (by unfold In3; omega) (by unfold In3; omega)
      have F6 : FrS (fun j => j ≠ 0) (fun _ => 0) o6 w w6 := (F3.mono (fun j hj => by unfold In3 at hj; show j ≠ 0; omega)).trans (G6.mono (fun j hj => by unfold In3 at hj; show j ≠ 0; omega))
      clear f4 f5 f6 r4 i5 t6 n4 n5 G6 F3 T3 n3
      go_wp2_with fail
      generalize (Value.pointer (some ⟨w4.heap.size, 0, none⟩)) = ps at *
      generalize (Value.pointer (some ⟨w5.heap.size, 0, none⟩)) = pu at *
      generalize (some (R2, []) : St) = s2 at *
      have hv : Iv6 w (.pointer none) (.pointer none) (.pointer none) ps pu pp w6 none s2 := ⟨o6, n6, F6, T1, T2⟩
      clear n6 F6 T1 T2
      go_wp2_with fail
      go_loopw [16] (fun i W => ∃ (j : Nat) (t1 t2 : St), j ≤ n ∧ i = .int .i64 j ∧ Iv6 w (.pointer none) (.pointer none) (.pointer none) ps pu pp W t1 t2) (fun i _ => n - (intOf i).toNat)
      case atStart => exact ⟨0, none, s2, by omega, rfl, hv⟩
      case round =>
        clear hv
        obtain ⟨j, t1, t2, hj, rfl, hv⟩ := hrel
        have hn := HL.out
        by_cases hc : j < n
        · have c1 : (j : Int) < (n : Int) := by omega
          have c0 : (0 : Int) ≤ (j : Int) := by omega
          obtain ⟨b, off, k, o, I, X, rfl, a0, a1, a2, a3⟩ := HSC.out j hc
          have hB := hv.bel
          have d0 := cell_up a0 hB
          have d1 := cell_up a1 hB
          have d2 := cell_up a2 hB
          have d3 := cell_up a3 hB
          have hva := hv.below ((Below.refl _ wr).alloc (Nat.le_refl _) (Obj.cells #[.int .i64 k, .bool o, .int .i64 I, .int .i64 X] 45))
          clear a0 a1 a2 a3 hB hv
          cases o
          · go_wp2_with fail
            refine (hva.one k false I X).mono ?_
            rintro e w7 ⟨rfl, hv7⟩
            clear hva
            go_wp2_with fail
            exact ⟨⟨j + 1, _, _, by omega, by go_num, hv7⟩, by simp [intOf]; omega⟩
          · go_wp2_with fail
            refine (hva.two k true I X).mono ?_
            rintro e w7 ⟨rfl, hv7⟩
            clear hva
            go_wp2_with fail
            exact ⟨⟨j + 1, _, _, by omega, by go_num, hv7⟩, by simp [intOf]; omega⟩
        · obtain rfl : j = n := by omega
          clear hc hj hn
          obtain ⟨V, eV⟩ : ∃ V, V = wr := ⟨wr, rfl⟩
          subst eV
          obtain ⟨hl1, hl2⟩ := hv.lenB
          go_wp2_with fail
          go_loopw [19] (fun i W => ∃ q : Int, -1 ≤ q ∧ q ≤ lenV t1 + 1 ∧ i = .int .i64 q ∧ Iv6 w (.pointer none) (.pointer none) (.pointer none) ps pu pp W t1 t2) (fun i _ => (lenV t1 + 1 - intOf i).toNat)
          case atStart => exact ⟨-1, by omega, by omega, rfl, hv⟩
          case round =>
            clear hv
            obtain ⟨q, hq1, hq2, rfl, hv⟩ := hrel
            go_wp2_with fail
            refine hv.len.mono ?_
            rintro e w7 ⟨rfl, rfl⟩
            generalize hLL : lenV t1 = L at *
            have HLL : Hid (lenV t1 = L) := hLL
            clear hLL
            by_cases hc : q ≤ L
            · have c1 : decide (q ≤ L) = true := by simp; exact hc
              go_wp2_with fail
              refine (hv.one 4 false q 0).mono ?_
              rintro e w8 ⟨rfl, hv8⟩
              rw [show stp 4 q 0 t1 = t1 from rfl] at hv8
              clear hv
              go_wp2_with fail
              exact ⟨⟨q + 1, by omega, by have := HLL.out; omega, by go_num, hv8⟩, by have := HLL.out; simp [intOf]; omega⟩
            · have c1 : decide (q ≤ L) = false := by simp; omega
              go_wp2_with fail
              refine (hv.one 6 false 0 0).mono ?_
              rintro e w8 ⟨rfl, hv8⟩
              clear hv
              go_wp2_with fail
              refine (hv8.two 6 false 0 0).mono ?_
              rintro e w9 ⟨rfl, hv9⟩
              have hB := hv9.bel
              clear hv8 hv9
              go_wp2_with fail
              refine (awake_any _).mono ?_
              rintro e wA ⟨rfl, hbA⟩
              replace hB := hB.trans (hbA.mono hB.size)
              go_wp2_with fail
              go_ret
              exact ⟨rfl, hB⟩
    · refine (newR_bad other w hr2).mono ?_
      rintro e w4 ⟨rfl, hw4⟩
      replace hw4 := hw4.symm
      subst hw4
      go_wp2_with fail
      refine (newI_bad other w hr2).mono ?_
      rintro e w5 ⟨rfl, hw5⟩
      replace hw5 := hw5.symm
      subst hw5
      go_wp2_with fail
      refine (newT_bad other w hr2).mono ?_
      rintro e w6 ⟨rfl, hw6⟩
      replace hw6 := hw6.symm
      subst hw6
      have T1 := T3
      have T2 : Tri 4 o3 w (.pointer none) (.pointer none) (.pointer none) none := ⟨rfl, rfl, rfl⟩
      have F6 : FrS (fun j => j ≠ 0) (fun _ => 0) o3 w w := F3.mono (fun j hj => by unfold In3 at hj; show j ≠ 0; omega)
      have n6 := n3
      clear F3 T3 n3
      go_wp2_with fail
      have hv : Iv6 w (.pointer none) (.pointer none) (.pointer none) (.pointer none) (.pointer none) (.pointer none) w none none := ⟨o3, n6, F6, T1, T2⟩
      clear n6 F6 T1 T2
      go_wp2_with fail
      go_loopw [16] (fun i W => ∃ (j : Nat) (t1 t2 : St), j ≤ n ∧ i = .int .i64 j ∧ Iv6 w (.pointer none) (.pointer none) (.pointer none) (.pointer none) (.pointer none) (.pointer none) W t1 t2) (fun i _ => n - (intOf i).toNat)
      case atStart => exact ⟨0, none, none, by omega, rfl, hv⟩
      case round =>
        clear hv
        obtain ⟨j, t1, t2, hj, rfl, hv⟩ := hrel
        have hn := HL.out
        by_cases hc : j < n
        · have c1 : (j : Int) < (n : Int) := by omega
          have c0 : (0 : Int) ≤ (j : Int) := by omega
          obtain ⟨b, off, k, o, I, X, rfl, a0, a1, a2, a3⟩ := HSC.out j hc
          have hB := hv.bel
          have d0 := cell_up a0 hB
          have d1 := cell_up a1 hB
          have d2 := cell_up a2 hB
          have d3 := cell_up a3 hB
          have hva := hv.below ((Below.refl _ wr).alloc (Nat.le_refl _) (Obj.cells #[.int .i64 k, .bool o, .int .i64 I, .int .i64 X] 45))
          clear a0 a1 a2 a3 hB hv
          cases o
          · go_wp2_with fail
            refine (hva.one k false I X).mono ?_
            rintro e w7 ⟨rfl, hv7⟩
            clear hva
            go_wp2_with fail
            exact ⟨⟨j + 1, _, _, by omega, by go_num, hv7⟩, by simp [intOf]; omega⟩
          · go_wp2_with fail
            refine (hva.two k true I X).mono ?_
            rintro e w7 ⟨rfl, hv7⟩
            clear hva
            go_wp2_with fail
            exact ⟨⟨j + 1, _, _, by omega, by go_num, hv7⟩, by simp [intOf]; omega⟩
        · obtain rfl : j = n := by omega
          clear hc hj hn
          obtain ⟨V, eV⟩ : ∃ V, V = wr := ⟨wr, rfl⟩
          subst eV
          obtain ⟨hl1, hl2⟩ := hv.lenB
          go_wp2_with fail
          go_loopw [19] (fun i W => ∃ q : Int, -1 ≤ q ∧ q ≤ lenV t1 + 1 ∧ i = .int .i64 q ∧ Iv6 w (.pointer none) (.pointer none) (.pointer none) (.pointer none) (.pointer none) (.pointer none) W t1 t2) (fun i _ => (lenV t1 + 1 - intOf i).toNat)
          case atStart => exact ⟨-1, by omega, by omega, rfl, hv⟩
          case round =>
            clear hv
            obtain ⟨q, hq1, hq2, rfl, hv⟩ := hrel
            go_wp2_with fail
            refine hv.len.mono ?_
            rintro e w7 ⟨rfl, rfl⟩
            generalize hLL : lenV t1 = L at *
            have HLL : Hid (lenV t1 = L) := hLL
            clear hLL
            by_cases hc : q ≤ L
            · have c1 : decide (q ≤ L) = true := by simp; exact hc
              go_wp2_with fail
              refine (hv.one 4 false q 0).mono ?_
              rintro e w8 ⟨rfl, hv8⟩
              rw [show stp 4 q 0 t1 = t1 from rfl] at hv8
              clear hv
              go_wp2_with fail
              exact ⟨⟨q + 1, by omega, by have := HLL.out; omega, by go_num, hv8⟩, by have := HLL.out; simp [intOf]; omega⟩
            · have c1 : decide (q ≤ L) = false := by simp; omega
              go_wp2_with fail
              refine (hv.one 6 false 0 0).mono ?_
              rintro e w8 ⟨rfl, hv8⟩
              clear hv
              go_wp2_with fail
              refine (hv8.two 6 false 0 0).mono ?_
              rintro e w9 ⟨rfl, hv9⟩
              have hB := hv9.bel
              clear hv8 hv9
              go_wp2_with fail
              refine (awake_any _).mono ?_
              rintro e wA ⟨rfl, hbA⟩
              replace hB := hB.trans (hbA.mono hB.size)
              go_wp2_with fail
              go_ret
              exact ⟨rfl, hB⟩
end Go.Proofs.Ytjibpdncginkdaa
