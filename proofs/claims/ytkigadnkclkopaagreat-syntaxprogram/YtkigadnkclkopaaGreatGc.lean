import Derived.Test.YtkigadnkclkopaaGreatGb
set_option linter.unusedVariables false
set_option linter.unusedSimpArgs false
namespace Go.Proofs.YtkigadnkclkopaaGreat
open Go.RowKit

/-! Comments; a token is taken. -/
/-- Further along. -/
theorem SV.step {X : Sx} {i n : Nat} {E : List Ev} {W : World} (h : SV X i n E W) (j : Nat) : W.cell? ⟨X.g, 1, none⟩ = some (.int .i64 (i : Int)) ∧ W.frozen? ⟨X.g, 1, none⟩ = false ∧ X.g < W.heap.size ∧ SV X j n E (W.setCell ⟨X.g, 1, none⟩ (.int .i64 (j : Int))) := by
  obtain ⟨ve, a, b, c⟩ := h.ex
  refine ⟨a.cells.2.1, a.frozen 1, a.lt, kp_low h.bel (Kp.set _ _ _ _) (fun k e => by rw [e]; exact h.g0) h.bel.size, h.lt, h.g0, h.hl, ve, blk_set a 1 _, b.kp (Kp.set _ _ _ _) (b.ne a (by decide)), c⟩
theorem SV.deep {X : Sx} {i n : Nat} {E : List Ev} {W : World} (h : SV X i n E W) (m : Nat) : W.cell? ⟨X.g, 2, none⟩ = some (.int .i64 (n : Int)) ∧ W.frozen? ⟨X.g, 2, none⟩ = false ∧ X.g < W.heap.size ∧ SV X i m E (W.setCell ⟨X.g, 2, none⟩ (.int .i64 (m : Int))) := by
  obtain ⟨ve, a, b, c⟩ := h.ex
  refine ⟨a.cells.2.2.1, a.frozen 2, a.lt, kp_low h.bel (Kp.set _ _ _ _) (fun k e => by rw [e]; exact h.g0) h.bel.size, h.lt, h.g0, h.hl, ve, blk_set a 2 _, b.kp (Kp.set _ _ _ _) (b.ne a (by decide)), c⟩
/-- Between two comments. -/
structure CoI (X : Sx) (i n : Nat) (E : List Ev) (k b : Nat) (W : World) : Prop where
  sv : SV X (i + k) n (E ++ ((lead (X.l.drop i)).take k).map ntE) W
  tk : W.heap[b]? = some (TokB (nx X (i + k)))
  le : k ≤ (lead (X.l.drop i)).length
theorem lead_le (r : List Tv) : (lead r).length ≤ r.length := by
  have := congrArg List.length (app_bhd r)
  rw [List.length_append] at this
  omega
theorem CoI.on {X : Sx} {i n : Nat} {E : List Ev} {k b : Nat} {W : World} (h : CoI X i n E k b W) : (k < (lead (X.l.drop i)).length → ∃ c, (lead (X.l.drop i))[k]? = some c ∧ nx X (i + k) = c ∧ cmm c = true) ∧ (k = (lead (X.l.drop i)).length → cmm (nx X (i + k)) = false) := by
  obtain ⟨a1, a2⟩ := lead_at (X.l.drop i) k
  constructor
  · intro hk
    obtain ⟨c, hc⟩ : ∃ c, (lead (X.l.drop i))[k]? = some c := ⟨_, List.getElem?_eq_getElem hk⟩
    obtain ⟨b1, b2⟩ := a1 c hc
    rw [List.getElem?_drop] at b1
    exact ⟨c, hc, by simp [nx, b1], b2⟩
  · intro hk
    unfold nx
    cases hc : X.l[i + k]? with
    | none => rfl
    | some c => exact a2 hk c (by rw [List.getElem?_drop]; exact hc)
theorem take_map {l : List Tv} {k : Nat} {c : Tv} (h : l[k]? = some c) : (l.take (k + 1)).map ntE = (l.take k).map ntE ++ [ntE c] := by
  rw [List.take_add_one, h]
  simp
/-- Where the reader is, out of memory. -/
def atC (g : Nat) (w : World) : Nat := match w.cell? ⟨g, 1, none⟩ with | some (.int _ z) => z.toNat | _ => 0
theorem atC_is {g : Nat} {w : World} {z : Int} (h : w.cell? ⟨g, 1, none⟩ = some (.int .i64 z)) : atC g w = z.toNat := by unfold atC; rw [h]
theorem cmm_is (t : Tv) : cmm t = (t.k == 7 || t.k == 8) := rfl
set_option maxHeartbeats 2000000 in
theorem comments_any {X : Sx} {i n : Nat} {E : List Ev} {W : World} (h : SV X i n E W) (hi : i ≤ X.l.length) (hl : E.length + X.l.length ≤ 1000000000) :
    Calls Tryz.prog 33 #[pg X.g] W fun e w' => e = .returned (.tuple #[]) ∧ SV X (i + (lead (X.l.drop i)).length) n (E ++ (lead (X.l.drop i)).map ntE) w' := by
  have hll : i + (lead (X.l.drop i)).length ≤ X.l.length := by
    have := lead_le (X.l.drop i)
    rw [List.length_drop] at this
    omega
  have hxl := h.hl
  have H1 : Hid (Calls Tryz.prog 49 #[pg X.g] W fun e w' => e = .returned (nx X i).v ∧ Below W.heap.size W w') := snext_any h hi
  have H0 : Hid (∀ w1, Below W.heap.size W w1 → CoI X i n E 0 w1.heap.size (w1.alloc (TokB (nx X i)))) := fun w1 hb => ⟨by simpa using (h.below hb).below ((Below.refl _ _).alloc (Nat.le_refl _) _), new_at _ _, Nat.zero_le _⟩
  clear h
  obtain ⟨m, hm⟩ : ∃ m, (lead (X.l.drop i)).length = m := ⟨_, rfl⟩
  obtain ⟨t0, ht0⟩ : ∃ t, nx X i = t := ⟨_, rfl⟩
  rw [ht0] at H1 H0
  dsimp only [Tv.v] at H1
  go_enter Tryz.func33, Tryz.ntmps33
  go_wp2_with (go_at_call 49; refine H1.out.mono ?_; rintro e w1 ⟨rfl, hb1⟩; have HC := show Hid _ from H0.out _ hb1; clear hb1)
  go_loopw [2] (fun p wr => ∃ k b, p = .pointer (some ⟨b, 0, none⟩) ∧ Hid (CoI X i n E k b wr)) (fun p wr => m + 1 - (atC X.g wr - i))
  case atStart => exact ⟨0, _, rfl, HC.out⟩
  case round =>
    obtain ⟨k, b, rfl, HI⟩ := hrel
    obtain ⟨c0, c1, c2, c3, c4, c5⟩ := tk_cells HI.out.tk
    have hbl := blk_lt HI.out.tk
    obtain ⟨o1, o2⟩ := HI.out.on
    have hle := HI.out.le
    obtain ⟨ve, hsb, _, _⟩ := HI.out.sv.ex
    have g1 := hsb.cells.2.1
    clear hsb
    by_cases hk : k < (lead (X.l.drop i)).length
    · obtain ⟨c, e1, e2, e3⟩ := o1 hk
      rw [e2] at c0 c1 c2 c3 c4 c5
      have HT : Hid (Calls Tryz.prog 32 #[pg X.g, (⟨4, 0, c⟩ : Ev).v] wr fun r w' => r = .returned (.tuple #[]) ∧ SV X (i + k) n ((E ++ ((lead (X.l.drop i)).take k).map ntE) ++ [⟨4, 0, c⟩]) w' ∧ Frm X wr w') := stell_any HI.out.sv _ (by simp; omega)
      have HN : Hid (∀ w2, SV X (i + k) n ((E ++ ((lead (X.l.drop i)).take k).map ntE) ++ [⟨4, 0, c⟩]) w2 → Frm X wr w2 → (w2.cell? ⟨X.g, 1, none⟩ = some (.int .i64 ((i : Int) + k)) ∧ w2.frozen? ⟨X.g, 1, none⟩ = false ∧ X.g < w2.heap.size) ∧ ∃ w3, w2.setCell ⟨X.g, 1, none⟩ (.int .i64 ((i : Int) + k + 1)) = w3 ∧ (w3.cell? ⟨b, 0, none⟩ = some (.int .u8 c.k) ∧ w3.cell? ⟨b, 1, none⟩ = some (.string c.t) ∧ w3.cell? ⟨b, 2, none⟩ = some (.int .i64 c.a) ∧ w3.cell? ⟨b, 3, none⟩ = some (.int .i64 c.l) ∧ w3.cell? ⟨b, 4, none⟩ = some (.int .i64 c.c) ∧ w3.cell? ⟨b, 5, none⟩ = some (.int .i64 c.f) ∧ b < w3.heap.size) ∧ Hid (SV X (i + (k + 1)) n (E ++ ((lead (X.l.drop i)).take (k + 1)).map ntE) w3)) := fun w2 h2 f2 => by
        have hbg : b ≠ X.g := fun e => by
          have h1 := HI.out.tk
          obtain ⟨ve, hsb, _, _⟩ := HI.out.sv.ex
          rw [e, hsb] at h1
          cases h1
        have h3 := f2 b _ _ _ HI.out.tk (by decide) hbg
        rw [e2] at h3
        have h4 := (Kp.set w2 X.g 1 (.int .i64 ((i : Int) + k + 1))).blk h3 hbg
        obtain ⟨y0, y1, y2, y3, y4, y5⟩ := tk_cells h4
        obtain ⟨z0, z1, z2, z3⟩ := h2.step (i + (k + 1))
        refine ⟨⟨by rw [z0]; simp, z1, z2⟩, _, rfl, ⟨y0, y1, y2, y3, y4, y5, blk_lt h4⟩, ?_⟩
        have e5 : ((i : Int) + k + 1) = ((i + (k + 1) : Nat) : Int) := by omega
        rw [e5, take_map e1, ← List.append_assoc]
        exact z3
      have HF : Hid (∀ w3 w5, SV X (i + (k + 1)) n (E ++ ((lead (X.l.drop i)).take (k + 1)).map ntE) w3 → Below (w3.alloc (TokB c)).heap.size (w3.alloc (TokB c)) w5 → (w5.cell? ⟨w3.heap.size, 0, none⟩ = some (.int .u8 c.k) ∧ w5.cell? ⟨w3.heap.size, 1, none⟩ = some (.string c.t) ∧ w5.cell? ⟨w3.heap.size, 2, none⟩ = some (.int .i64 c.a) ∧ w5.cell? ⟨w3.heap.size, 3, none⟩ = some (.int .i64 c.l) ∧ w5.cell? ⟨w3.heap.size, 4, none⟩ = some (.int .i64 c.c) ∧ w5.cell? ⟨w3.heap.size, 5, none⟩ = some (.int .i64 c.f) ∧ (∀ j, w5.frozen? ⟨w3.heap.size, j, none⟩ = false) ∧ w3.heap.size < w5.heap.size) ∧ CoI X i n E (k + 1) w3.heap.size (sets6 w5 w3.heap.size (nx X (i + (k + 1)))) ∧ (sets6 w5 w3.heap.size (nx X (i + (k + 1)))).cell? ⟨X.g, 1, none⟩ = some (.int .i64 ((i : Int) + k + 1))) := fun w3 w5 s3 hb5 => by
        have h0 := blk_below (new_at w3 (TokB c)) hb5
        obtain ⟨y0, y1, y2, y3, y4, y5⟩ := tk_cells h0
        have b0 : Below w3.heap.size w3 (w3.alloc (TokB c)) := (Below.refl _ _).alloc (Nat.le_refl _) _
        have b1 : Below w3.heap.size w3 w5 := b0.trans (hb5.mono b0.size)
        have s5 := s3.below (sets6_below (nx X (i + (k + 1))) b1 (Nat.le_refl _))
        refine ⟨⟨y0, y1, y2, y3, y4, y5, fun j => blk_frozen h0, blk_lt h0⟩, ⟨s5, sets6_at _ h0, hk⟩, ?_⟩
        obtain ⟨ve, hsb, _, _⟩ := s5.ex
        rw [hsb.cells.2.1]
        simp
        omega
      have HX : Hid (∀ V, SV X (i + (k + 1)) n (E ++ ((lead (X.l.drop i)).take (k + 1)).map ntE) V → Calls Tryz.prog 49 #[pg X.g] (V.alloc (TokB c)) fun e w' => e = .returned (nx X (i + (k + 1))).v ∧ Below (V.alloc (TokB c)).heap.size (V.alloc (TokB c)) w') := fun V hV => snext_any (hV.below ((Below.refl _ _).alloc (Nat.le_refl _) _)) (by omega)
      obtain ⟨t2, ht2⟩ : ∃ t, nx X (i + (k + 1)) = t := ⟨_, rfl⟩
      rw [ht2] at HF HX
      dsimp only [Tv.v] at HX
      clear o1 o2
      dsimp only [Ev.v] at HT
      cases h7 : (c.k == 7) with
      | true =>
        go_wp2_with (go_at_call 32; refine HT.out.mono ?_; rintro r w2 ⟨rfl, h2, f2⟩; obtain ⟨⟨z0, z1, z2⟩, w3, e4, ⟨y0, y1, y2, y3, y4, y5, yl⟩, s3⟩ := HN.out w2 h2 f2; clear h2 f2)
        refine (HX.out _ s3.out).mono ?_
        rintro e w5 ⟨rfl, hb5⟩
        obtain ⟨⟨x0, x1, x2, x3, x4, x5, xf, xl⟩, p1, p2⟩ := HF.out w3 w5 s3.out hb5
        have HP := show Hid _ from p1
        have HM := show Hid _ from p2
        have xf0 := xf 0
        have xf1 := xf 1
        have xf2 := xf 2
        have xf3 := xf 3
        have xf4 := xf 4
        have xf5 := xf 5
        clear p1 p2 xf hb5 z0 z1 z2 y0 y1 y2 y3 y4 y5 yl e4 c0 c1 c2 c3 c4 c5
        generalize w3.heap.size = q at *
        go_wp2_with fail
        obtain ⟨w6, e6⟩ : ∃ w6, sets6 w5 q t2 = w6 := ⟨_, rfl⟩
        rw [e6] at HP HM
        unfold sets6 at e6
        rw [e6]
        refine ⟨⟨k + 1, q, rfl, HP.out⟩, ?_⟩
        rw [atC_is HM.out, atC_is g1]
        simp
        omega
      | false =>
        have h8 : (c.k == 8) = true := by rw [cmm_is, h7] at e3; simpa using e3
        go_wp2_with (go_at_call 32; refine HT.out.mono ?_; rintro r w2 ⟨rfl, h2, f2⟩; obtain ⟨⟨z0, z1, z2⟩, w3, e4, ⟨y0, y1, y2, y3, y4, y5, yl⟩, s3⟩ := HN.out w2 h2 f2; clear h2 f2)
        refine (HX.out _ s3.out).mono ?_
        rintro e w5 ⟨rfl, hb5⟩
        obtain ⟨⟨x0, x1, x2, x3, x4, x5, xf, xl⟩, p1, p2⟩ := HF.out w3 w5 s3.out hb5
        have HP := show Hid _ from p1
        have HM := show Hid _ from p2
        have xf0 := xf 0
        have xf1 := xf 1
        have xf2 := xf 2
        have xf3 := xf 3
        have xf4 := xf 4
        have xf5 := xf 5
        clear p1 p2 xf hb5 z0 z1 z2 y0 y1 y2 y3 y4 y5 yl e4 c0 c1 c2 c3 c4 c5
        generalize w3.heap.size = q at *
        go_wp2_with fail
        obtain ⟨w6, e6⟩ : ∃ w6, sets6 w5 q t2 = w6 := ⟨_, rfl⟩
        rw [e6] at HP HM
        unfold sets6 at e6
        rw [e6]
        refine ⟨⟨k + 1, q, rfl, HP.out⟩, ?_⟩
        rw [atC_is HM.out, atC_is g1]
        simp
        omega
    · have hke : k = (lead (X.l.drop i)).length := by omega
      have hc := o2 hke
      obtain ⟨c, hcn⟩ : ∃ c, nx X (i + k) = c := ⟨_, rfl⟩
      rw [hcn] at c0 c1 c2 c3 c4 c5 hc
      have HZ : Hid (SV X (i + (lead (X.l.drop i)).length) n (E ++ (lead (X.l.drop i)).map ntE) wr) := by
        have := HI.out.sv
        rw [hke, List.take_length] at this
        exact this
      rw [cmm_is] at hc
      have h7 : (c.k == 7) = false := by cases h : (c.k == 7) <;> simp_all
      have h8 : (c.k == 8) = false := by cases h : (c.k == 8) <;> simp_all
      clear o1 o2 hc hke
      go_wp2_with fail
      go_end0
      exact ⟨rfl, HZ.out⟩

end Go.Proofs.YtkigadnkclkopaaGreat
