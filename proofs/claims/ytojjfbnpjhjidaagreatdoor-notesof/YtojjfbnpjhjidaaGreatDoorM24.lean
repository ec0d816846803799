import Derived.Test.YtojjfbnpjhjidaaGreatDoorM23
set_option linter.unusedVariables false
set_option linter.unusedSimpArgs false
namespace Go.Proofs.YtojjfbnpjhjidaaGreatDoor.Lx
open Go.RowKit
def fltL (s : ByteArray) (c a b : Nat) : Int × Int × Int := if c = 0 then (0, 0, 0) else if c = 102 then (a, pL s a, pC s a) else (b, pL s b, pC s b)
set_option maxHeartbeats 1000000 in
theorem fault_any {w0 W : World} {g : Nat} {s : ByteArray} {a b f : Nat} {l : List Tv} (h : Rs w0 W g s a b f l) (c : Nat) (hs : s.size ≤ 2147483647) (hba : b ≤ a) (ha : bd s a) (hb : bd s b) :
    Calls Tryz.prog 42 #[.pointer (some ⟨g, 0, none⟩), .int .i64 c] W fun e w' => e = .returned (.agg #[.int .i64 (fltL s c a b).1, .int .i64 (fltL s c a b).2.1, .int .i64 (fltL s c a b).2.2]) ∧ Below W.heap.size W w' := by
  obtain ⟨h1, h2, v, h3, h4⟩ := h
  obtain ⟨W1, hW1⟩ : ∃ W1, W.alloc (.cells #[.int .i64 0, .int .i64 0, .int .i64 0] 26) = W1 := ⟨_, rfl⟩
  have hB0 : Below W.heap.size W W1 := by rw [← hW1]; exact (Below.refl _ _).alloc (Nat.le_refl _) _
  have k0 : Box3 W1 W.heap.size 0 0 0 := by rw [← hW1]; exact Box3.new W 0 0 0
  have k3 : RB W1 g s a (rpt s a) (rsz s a) b f v := blk_below h3 hB0
  obtain ⟨_, _, _, _, c4, c5, c6, _, _⟩ := Rq.cells k3
  have g0 := k0.cell0
  have g1 := k0.cell1
  have g2 := k0.cell2
  have f0 := k0.frozen 0
  have f1 := k0.frozen 1
  have f2 := k0.frozen 2
  by_cases e0 : c = 0
  · subst e0
    have e1 : fltL s 0 a b = (0, 0, 0) := rfl
    rw [e1]
    clear e1 h1 h3 h4 k3 c4 c5 c6
    go_enter Tryz.func42, Tryz.ntmps42
    go_wp2_with fail
    have hb5 := ((k0.set0 0).set1 0).set2 0
    have m0 := hb5.cell0
    have m1 := hb5.cell1
    have m2 := hb5.cell2
    refine bodyPost_ret (v := .agg #[.int .i64 0, .int .i64 0, .int .i64 0]) (by simp [results, Tryz.f42, go_sem, m0, m1, m2]) rfl ?_
    exact ⟨rfl, ((hB0.setCell (p := ⟨W.heap.size, 0, none⟩) (Nat.le_refl _) _).setCell (p := ⟨W.heap.size, 1, none⟩) (Nat.le_refl _) _).setCell (p := ⟨W.heap.size, 2, none⟩) (Nat.le_refl _) _⟩
  · have q0 : ((c : Int) == 0) = false := by simp; omega
    by_cases e2 : c = 102
    · subst e2
      have e1 : fltL s 102 a b = ((a : Int), pL s a, pC s a) := rfl
      rw [e1]
      have HH : Hid (Calls Tryz.prog 66 #[.pointer (some ⟨g, 0, none⟩)] W1 fun e w' => e = .returned (.agg #[.int .i64 a, .int .i64 (pL s a), .int .i64 (pC s a)]) ∧ Below W1.heap.size W1 w') := here_any k3 hs hba hb ha
      clear e1 h1 h3 h4 k3 c4 c5 c6 q0 e0 g0 g1 g2 f0 f1 f2
      generalize pL s a = L2 at *
      generalize pC s a = C2 at *
      go_enter Tryz.func42, Tryz.ntmps42
      go_wp2_with (first | (go_at_call 66; (try rw [hW1]); refine HH.out.mono ?_; rintro e w1 ⟨rfl, hb1⟩; have k1 := k0.below hb1; have g0 := k1.cell0; have g1 := k1.cell1; have g2 := k1.cell2; have f0 := k1.frozen 0; have f1 := k1.frozen 1; have f2 := k1.frozen 2))
      have hb5 := ((k1.set0 a).set1 L2).set2 C2
      have m0 := hb5.cell0
      have m1 := hb5.cell1
      have m2 := hb5.cell2
      refine bodyPost_ret (v := .agg #[.int .i64 a, .int .i64 L2, .int .i64 C2]) (by simp [results, Tryz.f42, go_sem, m0, m1, m2]) rfl ?_
      have hbX := hB0.trans (hb1.mono hB0.size)
      exact ⟨rfl, ((hbX.setCell (p := ⟨W.heap.size, 0, none⟩) (Nat.le_refl _) _).setCell (p := ⟨W.heap.size, 1, none⟩) (Nat.le_refl _) _).setCell (p := ⟨W.heap.size, 2, none⟩) (Nat.le_refl _) _⟩
    · have q2 : ((c : Int) == 102) = false := by simp; omega
      have e1 : fltL s c a b = ((b : Int), pL s b, pC s b) := by unfold fltL; rw [if_neg e0, if_neg e2]
      rw [e1]
      clear e1 h1 h3 h4 k3 e0 e2
      generalize pL s b = L2 at *
      generalize pC s b = C2 at *
      go_enter Tryz.func42, Tryz.ntmps42
      go_wp2_with fail
      have hb5 := ((k0.set0 b).set1 L2).set2 C2
      have m0 := hb5.cell0
      have m1 := hb5.cell1
      have m2 := hb5.cell2
      refine bodyPost_ret (v := .agg #[.int .i64 b, .int .i64 L2, .int .i64 C2]) (by simp [results, Tryz.f42, go_sem, m0, m1, m2]) rfl ?_
      exact ⟨rfl, ((hB0.setCell (p := ⟨W.heap.size, 0, none⟩) (Nat.le_refl _) _).setCell (p := ⟨W.heap.size, 1, none⟩) (Nat.le_refl _) _).setCell (p := ⟨W.heap.size, 2, none⟩) (Nat.le_refl _) _⟩
end Go.Proofs.YtojjfbnpjhjidaaGreatDoor.Lx
namespace Go.Proofs.YtojjfbnpjhjidaaGreatDoor
open Go.Proofs.YtojjfbnpjhjidaaGreatDoor.Lx
open Go.RowKit
theorem Rt.base {B B' : Nat} {w : World} {v : Value} {l : List Tv} (h : Rt B w v l) (hb : B' ≤ B) : Rt B' w v l := by
  refine ⟨h.1, ?_⟩
  rcases h.2 with h1 | ⟨g, cap, cur, rfl, h2, h3⟩
  · exact .inl h1
  · exact .inr ⟨g, cap, cur, rfl, Nat.le_trans hb h2, h3⟩
end Go.Proofs.YtojjfbnpjhjidaaGreatDoor
namespace Go.Proofs.YtojjfbnpjhjidaaGreatDoor.Lx
open Go.RowKit
set_option maxHeartbeats 2000000 in
theorem all_any (s : ByteArray) (w : World) (hT : Kab w) (hs : s.size ≤ 2147483647) :
    Calls Tryz.prog 24 #[.string s] w fun e w' => AV w s e w' := by
  obtain ⟨W0, hW0⟩ : ∃ W0, w.alloc (.cells #[.int .i64 0, .int .i64 0, .int .i64 0] 26) = W0 := ⟨_, rfl⟩
  have hB0 : Below w.heap.size w W0 := by rw [← hW0]; exact (Below.refl _ _).alloc (Nat.le_refl _) _
  have k0 : Box3 W0 w.heap.size 0 0 0 := by rw [← hW0]; exact Box3.new w 0 0 0
  have hT0 := hT.below hB0
  have HS : Hid (∀ V, Calls Tryz.prog 39 #[] V fun e w' => e = .returned (.agg #[.int .i64 0, .int .i64 1, .int .i64 1]) ∧ Below V.heap.size V w') := start_any
  have HL : Hid (∀ V g, Rq W0 V g s 0 0 0 0 0 [] → Calls Tryz.prog 40 #[.pointer (some ⟨g, 0, none⟩)] V fun e w' => e = .returned (.tuple #[]) ∧ Rs W0 w' g s 0 0 0 []) := fun V g hV => look_any hV (by omega) (Nat.zero_le _)
  have HD : Hid (∀ V g, Rs W0 V g s 0 0 0 [] → Calls Tryz.prog 41 #[.pointer (some ⟨g, 0, none⟩)] V fun e w' => e = .returned (.int .i64 ((scn s).2.1 : Nat)) ∧ RP W0 w' g s) := fun V g hV => read_any hT0 hV hs
  obtain ⟨p1, p2⟩ := p_zero s
  have HN : Hid (∀ V, Below W0.heap.size W0 V → Rq W0 (V.alloc (.cells #[.string s, .int .i64 0, .int .i32 0, .int .i64 0, .int .i64 0, .int .i64 1, .int .i64 1, .int .i64 0, .slice none 0 0] 97)) V.heap.size s 0 0 0 0 0 []) := fun V hV => by
    refine ⟨hV.alloc hV.size _, hV.size, .slice none 0 0, ?_, rt_nil _ _⟩
    have h9 := new_at V (.cells #[.string s, .int .i64 0, .int .i32 0, .int .i64 0, .int .i64 0, .int .i64 1, .int .i64 1, .int .i64 0, .slice none 0 0] 97)
    unfold RB
    rw [p1, p2]
    exact h9
  clear p1 p2 hT hT0
  go_enter Tryz.func24, Tryz.ntmps24
  go_wp2_with (first | (go_at_call 39; (try rw [hW0]); refine (HS.out _).mono ?_; rintro e w1 ⟨rfl, hb1⟩) | (go_at_call 40; refine (HL.out _ _ (HN.out _ hb1)).mono ?_; rintro e w2 ⟨rfl, hr2⟩) | (go_at_call 41; refine (HD.out _ _ hr2).mono ?_; rintro e w3 ⟨rfl, hr3⟩))
  obtain ⟨a', b', f', hr, t1, t2, t3, t4, t5⟩ := hr3
  obtain ⟨c, hc⟩ : ∃ c, (scn s).2.1 = c := ⟨_, rfl⟩
  obtain ⟨z, hz⟩ : ∃ z, (scn s).2.2 = z := ⟨_, rfl⟩
  rw [hc] at t4 t5
  rw [hz] at t4 t5
  have HV : Hid (AV w s = fun e w' => (∃ v, e = .returned (.tuple #[v, .int .i64 c, .agg #[.int .i64 (fltL s c a' b').1, .int .i64 (fltL s c a' b').2.1, .int .i64 (fltL s c a' b').2.2]]) ∧ Rt w.heap.size w' v ((scn s).1.map (tv s))) ∧ Below w.heap.size w w') := by
    show _ = _
    funext e w'
    unfold AV
    rw [hc, hz]
    have e1 : ((if c = 0 then 0 else (z : Int)) = (fltL s c a' b').1 ∧ (if c = 0 then 0 else pL s z) = (fltL s c a' b').2.1 ∧ (if c = 0 then 0 else pC s z) = (fltL s c a' b').2.2) := by
      unfold fltL
      by_cases c0 : c = 0
      · simp only [if_pos c0]; exact ⟨trivial, trivial, trivial⟩
      · by_cases c2 : c = 102
        · have := t4 c2
          subst this
          simp only [if_neg c0, if_pos c2]; exact ⟨trivial, trivial, trivial⟩
        · have := t5 c0 c2
          subst this
          simp only [if_neg c0, if_neg c2]; exact ⟨trivial, trivial, trivial⟩
    rw [e1.1, e1.2.1, e1.2.2]
  have HF : Hid (∀ V, Below w3.heap.size w3 V → Calls Tryz.prog 42 #[.pointer (some ⟨w1.heap.size, 0, none⟩), .int .i64 c] V fun e w' => e = .returned (.agg #[.int .i64 (fltL s c a' b').1, .int .i64 (fltL s c a' b').2.1, .int .i64 (fltL s c a' b').2.2]) ∧ Below V.heap.size V w') := fun V hV => fault_any (Rq.below hr hV) c (by omega) t3 t1 t2
  obtain ⟨r1, r2, v, r3, r4⟩ := hr
  have hne : w1.heap.size ≠ w.heap.size := by have h8 := k0.lt; have h9 := hb1.size; omega
  have HK : Hid (∀ V, Below w3.heap.size w3 V → V.cell? ⟨w1.heap.size, 8, none⟩ = some v ∧ Below w.heap.size w V) := fun V hV => ⟨blk_cell (blk_below r3 hV) rfl, hB0.trans ((r1.trans (hV.mono r1.size)).mono hB0.size)⟩
  have HKs : Hid (∀ V x y z, Below w3.heap.size w3 V → (((V.setCell ⟨w.heap.size, 0, none⟩ x).setCell ⟨w.heap.size, 1, none⟩ y).setCell ⟨w.heap.size, 2, none⟩ z).cell? ⟨w1.heap.size, 8, none⟩ = some v ∧ Below w.heap.size w (((V.setCell ⟨w.heap.size, 0, none⟩ x).setCell ⟨w.heap.size, 1, none⟩ y).setCell ⟨w.heap.size, 2, none⟩ z) ∧ Rt w.heap.size (((V.setCell ⟨w.heap.size, 0, none⟩ x).setCell ⟨w.heap.size, 1, none⟩ y).setCell ⟨w.heap.size, 2, none⟩ z) v ((scn s).1.map (tv s))) := fun V x y z hV => by
    have h8 := r4.below hV
    have hbX := (HK.out V hV).2
    have h9 : ∀ k, v.ownBlock = some k → k ≠ w.heap.size := fun k hk => by have h7 := r4.own k hk; have h6 := k0.lt; omega
    refine ⟨blk_cell (blk_other (blk_other (blk_other (blk_below r3 hV) hne _) hne _) hne _) rfl, ((hbX.setCell (p := ⟨w.heap.size, 0, none⟩) (Nat.le_refl _) _).setCell (p := ⟨w.heap.size, 1, none⟩) (Nat.le_refl _) _).setCell (p := ⟨w.heap.size, 2, none⟩) (Nat.le_refl _) _, ?_⟩
    exact (((h8.base hB0.size).kp (Kp.set _ w.heap.size 0 _) h9).kp (Kp.set _ w.heap.size 1 _) h9).kp (Kp.set _ w.heap.size 2 _) h9
  have HW : Hid (∀ V, Below w3.heap.size w3 V → Box3 V w.heap.size 0 0 0) := fun V hV => k0.below (r1.trans (hV.mono r1.size))
  rw [hc]
  obtain ⟨⟨A, L, C⟩, hR⟩ : ∃ R, fltL s c a' b' = R := ⟨_, rfl⟩
  rw [hR] at HV HF
  clear hr2 hb1 t1 t2 t3 t4 t5 r1 r2 r3 r4 hc hz hW0 k0 hR
  go_region_held3 (fun w' => w'.cell? ⟨w1.heap.size, 8, none⟩ = some v ∧ Below w.heap.size w w') (first | (exact HK.out _ (by assumption)) | (exact HK.out _ (Below.refl _ _).drew) | (exact ⟨(HKs.out _ _ _ _ hbX).1, (HKs.out _ _ _ _ hbX).2.1⟩) | go_keep) (first | (go_at_call 42; refine (HF.out _ (Below.refl _ _).drew).mono ?_; rintro e w4 ⟨rfl, hb4⟩; have hbX : Below w3.heap.size w3 w4 := (Below.refl w3.heap.size w3).drew.trans (hb4.mono (Nat.le_refl _)); have k2 := HW.out _ hbX; have g0 := k2.cell0; have g1 := k2.cell1; have g2 := k2.cell2; have f0 := k2.frozen 0; have f1 := k2.frozen 1; have f2 := k2.frozen 2))
  all_goals (
    go_wp2_with fail
    have hb5 := ((k2.set0 A).set1 L).set2 C
    have m0 := hb5.cell0
    have m1 := hb5.cell1
    have m2 := hb5.cell2
    refine bodyPost_ret (v := .tuple #[v, .int .i64 c, .agg #[.int .i64 A, .int .i64 L, .int .i64 C]]) (by simp [results, Tryz.f24, go_sem, m0, m1, m2]) rfl ?_
    rw [HV.out]
    exact ⟨⟨v, rfl, (HKs.out _ _ _ _ hbX).2.2⟩, (HKs.out _ _ _ _ hbX).2.1⟩)
end Go.Proofs.YtojjfbnpjhjidaaGreatDoor.Lx
