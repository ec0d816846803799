import Derived.Test.YtkigadnkclkopaaGreatGo
set_option linter.unusedVariables false
set_option linter.unusedSimpArgs false
namespace Go.Proofs.YtkigadnkclkopaaGreat
open Go.RowKit

/-! Program. -/
theorem en_program : Entr 19 := enters_of Tryz.func19 (by kernel_rfl) rfl
theorem prog_node {X : Sx} {W : World} (h : SV X 0 0 [] W) {E : List Ev} {code : Int} {k : Nat} (ha : Alr (.live [] 0) X.l E code k) :
    Calls Tryz.prog 18 #[pg X.g, .int .u8 1, fv 19 X.g] W fun e w' => (code = 0 ∧ e = .returned (.tuple #[]) ∧ E.length ≤ 1000000000 ∧ ∃ i, SV X i 0 E w') ∨ (code ≠ 0 ∧ e = .panicked (stop code k) ∧ Below X.w0.heap.size X.w0 w') := by
  refine node_raw h (by simp) (by omega) 1 en_program ?_
  intro W1 h1
  refine (program_rc h1).mono ?_
  rintro e w' ⟨dz, hb, hp⟩
  obtain ⟨t1, t2⟩ := alr_top ha hb
  rcases hp with ⟨z, hi, rfl, hs⟩ | ⟨hlt, rfl, hbl⟩
  · by_cases hc : code = 0
    · obtain ⟨_, _, E0, e1, e2⟩ := t1 hc
      have hpp := (rb_path (L := tks X.l) rfl hb z).2
      have hpl : dz.p.length = 0 + 1 := by rw [hpp, d1_is]; rfl
      have hE : E = evX X dz ++ [⟨3, 1, tv0⟩] := by rw [e2]; unfold evX; rw [e1]; simp
      have hlen := hs.len (by omega)
      refine .inl ⟨rfl, ps X.l dz.i, 0, evX X dz, by rw [← hpl]; exact hs.sv, by omega, by omega, fun w2 h2 => .inl ⟨hc, rfl, by rw [hE, List.length_append, List.length_singleton]; omega, _, by rw [hE]; exact h2⟩⟩
    · obtain ⟨a1, a2⟩ := t2 hc
      exfalso
      rcases a1 with a1 | ⟨_, _, a1⟩
      · exact hc (a1.symm.trans z)
      · omega
  · refine .inr ⟨_, rfl, ?_⟩
    by_cases hc : code = 0
    · obtain ⟨b1, b2, _⟩ := t1 hc
      exact absurd (hlt b1) (by omega)
    · obtain ⟨a1, a2⟩ := t2 hc
      have he : (if dz.e = 0 then (120 : Int) else dz.e) = code := by
        rcases a1 with a1 | ⟨a1, a3, _⟩
        · rw [a1, if_neg hc]
        · rw [if_pos a3, a1]
      exact .inr ⟨hc, by rw [he, a2], hbl⟩
theorem tn_shape {O : Nat → Prop} {W : World} {n : Nd} {sv : Value} (h : TN O W n sv) : ∃ p cap, sv = .slice p n.c.length cap ∧ n.c.length ≤ cap ∧ cap ≤ maxLen := by
  cases n with
  | mk k d c =>
    rw [TN] at h
    obtain ⟨vs, h1, _⟩ := h
    exact h1.shape
/-- What Program answers. -/
structure Pgm (W : World) (E : List Ev) (code : Int) (k : Nat) (e : Ending) (w' : World) : Prop where
  bel : Below W.heap.size W w'
  ex : ∃ (n : Nd) (sv : Value) (at' : Nat), e = .returned (.tuple #[ndv n.k n.d sv, .int .i64 (if code = 0 then (bo E).2 else code), .int .i64 (at' : Int)]) ∧ TN (fun j => W.heap.size ≤ j) w' n sv ∧ (code = 0 → at' = 0 ∧ n = (bo E).1) ∧ (code ≠ 0 → n = .mk 0 tv0 [] ∧ at' = k)
theorem cz_cells {a b c : Nat} {k : Int} {d : Tv} {s : Value} {e i : Int} {w : World} (h : Cz a b c (NdB k d s) e i w) : (w.cell? ⟨a, 0, none⟩ = some (.int .u8 k) ∧ w.cell? ⟨a, 1, none⟩ = some (.int .u8 d.k) ∧ w.cell? ⟨a, 2, none⟩ = some (.string d.t) ∧ w.cell? ⟨a, 3, none⟩ = some (.int .i64 d.a) ∧ w.cell? ⟨a, 4, none⟩ = some (.int .i64 d.l) ∧ w.cell? ⟨a, 5, none⟩ = some (.int .i64 d.c) ∧ w.cell? ⟨a, 6, none⟩ = some (.int .i64 d.f) ∧ w.cell? ⟨a, 7, none⟩ = some s) ∧ w.cell? ⟨b, 0, none⟩ = some (.int .i64 e) ∧ w.cell? ⟨c, 0, none⟩ = some (.int .i64 i) := ⟨(nd_cells h.ha).1, blk_cell h.hb rfl, blk_cell h.hc rfl⟩
set_option maxHeartbeats 2000000 in
theorem program_bad {W : World} {ao : Option Addr} {l : List Tv} {cap : Nat} (hl : Lt W ao l) (hn : l.length ≤ 4194304) {E : List Ev} {code : Int} {k : Nat} (ha : Alr (.live [] 0) l E code k) (hc : code ≠ 0) :
    Calls Tryz.prog 6 #[.slice ao l.length cap] W (Pgm W E code k) := by
  have hmf : ∀ (fn : Fn) (first cap : Array Value) (w : World), (Instr.makeFunc fn first cap).run Tryz.prog w = .ok (.func fn first cap) w := fun _ _ _ _ => rfl
  obtain ⟨W3, e3⟩ : ∃ W3, ((W.alloc (NdB 0 tv0 (.slice none 0 0))).alloc (.cells #[.int .i64 0] 33)).alloc (.cells #[.int .i64 0] 3) = W3 := ⟨_, rfl⟩
  have hz3 : W3.heap.size = W.heap.size + 1 + 1 + 1 := by rw [← e3]; simp [World.size_alloc]
  have hb3 : Below W.heap.size W W3 := by
    rw [← e3]
    exact (((Below.refl _ _).alloc (Nat.le_refl _) _).alloc (by simp [World.size_alloc]) _).alloc (by simp [World.size_alloc]; omega) _
  have c3 : Cz W.heap.size (W.heap.size + 1) (W.heap.size + 1 + 1) (NdB 0 tv0 (.slice none 0 0)) 0 0 W3 := by
    rw [← e3]
    refine ⟨alloc_at' (alloc_at' (new_at _ _) _) _, alloc_at' ?_ _, ?_, by omega, by omega, by omega⟩
    · have := new_at (W.alloc (NdB 0 tv0 (.slice none 0 0))) (.cells #[.int .i64 0] 33)
      rw [World.size_alloc] at this
      exact this
    · have := new_at ((W.alloc (NdB 0 tv0 (.slice none 0 0))).alloc (.cells #[.int .i64 0] 33)) (.cells #[.int .i64 0] 3)
      rw [World.size_alloc, World.size_alloc] at this
      exact this
  have hsv : SV ⟨W3, W3.heap.size, ao, cap, l⟩ 0 0 [] (W3.alloc (.cells #[.slice ao l.length cap, .int .i64 0, .int .i64 0, .slice none 0 0] 56)) :=
    ⟨(Below.refl _ _).alloc (Nat.le_refl _) _, hl.below hb3, Nat.le_refl _, hn, .slice none 0 0, new_at _ _, re_nil _, fun k e => by cases e⟩
  have HN : Hid (Calls Tryz.prog 18 #[pg W3.heap.size, .int .u8 1, fv 19 W3.heap.size] (W3.alloc (.cells #[.slice ao l.length cap, .int .i64 0, .int .i64 0, .slice none 0 0] 56)) fun e w' => e = .panicked (stop code k) ∧ Below W3.heap.size W3 w') := (prog_node (X := ⟨W3, W3.heap.size, ao, cap, l⟩) hsv ha).mono (fun e w' hx => by
    rcases hx with ⟨h0, _⟩ | ⟨_, h1, h2⟩
    · exact absurd h0 hc
    · exact ⟨h1, h2⟩)
  have HC : Hid (∀ w, Below W3.heap.size W3 w → CallsD Tryz.prog 17 #[pg W.heap.size, pg (W.heap.size + 1), pg (W.heap.size + 1 + 1)] (.panicking (stop code k)) w fun r u' w' => r = .returned (.tuple #[]) ∧ u' = .panicking [{ v := .iface 52 (.agg #[.int .i64 code, .int .i64 (k : Int)]), recovered := true }] ∧ Cz W.heap.size (W.heap.size + 1) (W.heap.size + 1 + 1) (NdB 0 tv0 (.slice none 0 0)) code k w' ∧ Below W.heap.size W w') := fun w hb => (catch_panic _ _ _ _ _ _ _ _ code k w (c3.below hb)).mono (fun r u' w' ⟨h1, h2, h3, h4⟩ => ⟨h1, h2, h3, kp_low (hb3.trans (hb.mono hb3.size)) h4 (fun j hj => by omega) (hb3.trans (hb.mono hb3.size)).size⟩)
  have HP : Hid (∀ w', Below W.heap.size W w' → Pgm W E code k (.returned (.tuple #[ndv 0 tv0 (.slice none 0 0), .int .i64 code, .int .i64 (k : Int)])) w') := fun w' hb => ⟨hb, .mk 0 tv0 [], .slice none 0 0, k, by rw [if_neg hc]; rfl, tn_nil _ _ _ _, fun h => absurd h hc, fun _ => ⟨rfl, rfl⟩⟩
  clear hl ha hc hsv c3 hb3 hn hz3
  dsimp only [NdB, tv0] at e3
  go_enter_defers Tryz.func6, Tryz.ntmps6
  go_wp2_with fail
  refine HN.out.mono ?_
  rintro e w5 ⟨rfl, hb5⟩
  have HB5 := show Hid _ from hb5
  clear hb5 e3 HN
  go_wp2_with fail
  refine leaves_cons (f := 17) (args := #[pg W.heap.size, pg (W.heap.size + 1), pg (W.heap.size + 1 + 1)]) (by simp) (by simp [go_sem]) ?_
  refine (HC.out _ HB5.out).mono ?_
  rintro e u' w6 ⟨rfl, rfl, h6, hb6⟩
  obtain ⟨⟨n0, n1, n2, n3, n4, n5, n6, n7⟩, b0, c0⟩ := cz_cells h6
  have hp := HP.out _ hb6
  clear HC HB5 HP h6 hmf
  generalize hv : Ending.returned (.tuple #[ndv 0 tv0 (.slice none 0 0), .int .i64 code, .int .i64 (k : Int)]) = rv at hp
  dsimp only [ndv, tv0] at hv n1 n2 n3 n4 n5 n6
  simp [Leaves, settle, results, Tryz.f6, go_sem, n0, n1, n2, n3, n4, n5, n6, n7, b0, c0, hv]
  exact hp

set_option maxHeartbeats 2000000 in
theorem program_good {W : World} {ao : Option Addr} {l : List Tv} {cap : Nat} (hl : Lt W ao l) (hn : l.length ≤ 4194304) {E : List Ev} {k : Nat} (ha : Alr (.live [] 0) l E 0 k) :
    Calls Tryz.prog 6 #[.slice ao l.length cap] W (Pgm W E 0 k) := by
  have hmf : ∀ (fn : Fn) (first cap : Array Value) (w : World), (Instr.makeFunc fn first cap).run Tryz.prog w = .ok (.func fn first cap) w := fun _ _ _ _ => rfl
  obtain ⟨W3, e3⟩ : ∃ W3, ((W.alloc (NdB 0 tv0 (.slice none 0 0))).alloc (.cells #[.int .i64 0] 33)).alloc (.cells #[.int .i64 0] 3) = W3 := ⟨_, rfl⟩
  have hz3 : W3.heap.size = W.heap.size + 1 + 1 + 1 := by rw [← e3]; simp [World.size_alloc]
  have hb3 : Below W.heap.size W W3 := by
    rw [← e3]
    exact (((Below.refl _ _).alloc (Nat.le_refl _) _).alloc (by simp [World.size_alloc]) _).alloc (by simp [World.size_alloc]; omega) _
  have c3 : Cz W.heap.size (W.heap.size + 1) (W.heap.size + 1 + 1) (NdB 0 tv0 (.slice none 0 0)) 0 0 W3 := by
    rw [← e3]
    refine ⟨alloc_at' (alloc_at' (new_at _ _) _) _, alloc_at' ?_ _, ?_, by omega, by omega, by omega⟩
    · have := new_at (W.alloc (NdB 0 tv0 (.slice none 0 0))) (.cells #[.int .i64 0] 33)
      rw [World.size_alloc] at this
      exact this
    · have := new_at ((W.alloc (NdB 0 tv0 (.slice none 0 0))).alloc (.cells #[.int .i64 0] 33)) (.cells #[.int .i64 0] 3)
      rw [World.size_alloc, World.size_alloc] at this
      exact this
  have hsv : SV ⟨W3, W3.heap.size, ao, cap, l⟩ 0 0 [] (W3.alloc (.cells #[.slice ao l.length cap, .int .i64 0, .int .i64 0, .slice none 0 0] 56)) :=
    ⟨(Below.refl _ _).alloc (Nat.le_refl _) _, hl.below hb3, Nat.le_refl _, hn, .slice none 0 0, new_at _ _, re_nil _, fun k e => by cases e⟩
  have HN : Hid (Calls Tryz.prog 18 #[pg W3.heap.size, .int .u8 1, fv 19 W3.heap.size] (W3.alloc (.cells #[.slice ao l.length cap, .int .i64 0, .int .i64 0, .slice none 0 0] 56)) fun e w' => e = .returned (.tuple #[]) ∧ Below W3.heap.size W3 w' ∧ ∃ ao' cap', w'.cell? ⟨W3.heap.size, 3, none⟩ = some (.slice ao' E.length cap') ∧ W3.heap.size < w'.heap.size ∧ Le w' ao' E ∧ E.length ≤ cap' ∧ cap' ≤ maxLen ∧ E.length ≤ 1000000000) := (prog_node (X := ⟨W3, W3.heap.size, ao, cap, l⟩) hsv ha).mono (fun e w' hx => by
    rcases hx with ⟨_, h1, hlen, i, hs⟩ | ⟨h0, _⟩
    · obtain ⟨ve, hb, hre, _⟩ := hs.ex
      obtain ⟨ao', cap', rfl, hle, _, h3, h4⟩ := Le.row hre
      exact ⟨h1, hs.bel, ao', cap', hb.cells.2.2.2, hb.lt, hle, h3, h4, hlen⟩
    · exact absurd rfl h0)
  have HBd : Hid (∀ w ao' cap', Le w ao' E → E.length ≤ cap' → cap' ≤ maxLen → E.length ≤ 1000000000 → Calls Tryz.prog 20 #[.slice ao' E.length cap'] w fun x w' => ∃ sv, x = .returned (.tuple #[ndv (bo E).1.k (bo E).1.d sv, .int .i64 (bo E).2]) ∧ TN (fun k => w.heap.size ≤ k) w' (bo E).1 sv ∧ Below w.heap.size w w') := fun w ao' cap' h1 h2 h3 h4 => build_any E w ao' cap' h1 h2 h3 h4
  obtain ⟨n, hn0⟩ : ∃ n, (bo E).1 = n := ⟨_, rfl⟩
  obtain ⟨bc, hbc⟩ : ∃ bc, (bo E).2 = bc := ⟨_, rfl⟩
  rw [hn0, hbc] at HBd
  have HC6 : Hid (∀ w5 w6 sv, Below W3.heap.size W3 w5 → Below w5.heap.size w5 w6 → TN (fun k => w5.heap.size ≤ k) w6 n sv → Cz W.heap.size (W.heap.size + 1) (W.heap.size + 1 + 1) (NdB 0 tv0 (.slice none 0 0)) 0 0 w6 ∧ ∃ w7, (sets8 w6 W.heap.size n.k n.d sv).setCell ⟨W.heap.size + 1, 0, none⟩ (.int .i64 bc) = w7 ∧ Cz W.heap.size (W.heap.size + 1) (W.heap.size + 1 + 1) (NdB n.k n.d sv) bc 0 w7 ∧ ∃ w8, (((sets8 w7 W.heap.size n.k n.d sv).setCell ⟨W.heap.size + 1, 0, none⟩ (.int .i64 bc)).setCell ⟨W.heap.size + 1 + 1, 0, none⟩ (.int .i64 0)).drew = w8 ∧ Cz W.heap.size (W.heap.size + 1) (W.heap.size + 1 + 1) (NdB n.k n.d sv) bc 0 w8 ∧ ∀ w9, Below w8.heap.size w8 w9 → Cz W.heap.size (W.heap.size + 1) (W.heap.size + 1 + 1) (NdB n.k n.d sv) bc 0 w9 ∧ Pgm W E 0 k (.returned (.tuple #[ndv n.k n.d sv, .int .i64 bc, .int .i64 0])) w9) := fun w5 w6 sv hb5 hb6 ht => by
    have b6 : Below W3.heap.size W3 w6 := hb5.trans (hb6.mono hb5.size)
    have c6 := c3.below b6
    have k1 := sets8_kp w6 W.heap.size n.k n.d sv
    have k2 := Kp.set (sets8 w6 W.heap.size n.k n.d sv) (W.heap.size + 1) 0 (.int .i64 bc)
    have a1 := sets8_at c6.ha n.k n.d sv
    have c7 : Cz W.heap.size (W.heap.size + 1) (W.heap.size + 1 + 1) (NdB n.k n.d sv) bc 0 ((sets8 w6 W.heap.size n.k n.d sv).setCell ⟨W.heap.size + 1, 0, none⟩ (.int .i64 bc)) :=
      ⟨k2.blk a1 c6.ab, blk_set (k1.blk c6.hb (fun x => c6.ab x.symm)) 0 _, k2.blk (k1.blk c6.hc (fun x => c6.ac x.symm)) (fun x => c6.bc x.symm), c6.ab, c6.ac, c6.bc⟩
    obtain ⟨c8, k8⟩ := c7.set n.k n.d sv bc 0
    have hdr : ∀ v : World, Below v.heap.size v v.drew := fun v => (Below.refl _ _).drew
    have K : Kp (fun j => j = W.heap.size ∨ j = W.heap.size + 1 ∨ j = W.heap.size + 1 + 1) w6 ((((sets8 ((sets8 w6 W.heap.size n.k n.d sv).setCell ⟨W.heap.size + 1, 0, none⟩ (.int .i64 bc)) W.heap.size n.k n.d sv).setCell ⟨W.heap.size + 1, 0, none⟩ (.int .i64 bc)).setCell ⟨W.heap.size + 1 + 1, 0, none⟩ (.int .i64 0)).drew) := (((k1.sub (fun j hj => .inl hj)).trans (k2.sub (fun j hj => .inr (.inl hj)))).trans k8).trans (Kp.of_below (hdr _))
    refine ⟨c6, _, rfl, c7, _, rfl, c8.below (hdr _), fun w9 hb9 => ⟨(c8.below (hdr _)).below hb9, ?_⟩⟩
    have K9 := K.trans (Kp.of_below hb9)
    have B6 : Below W.heap.size W w6 := hb3.trans (b6.mono hb3.size)
    refine ⟨kp_low B6 K9 (fun j hj => by omega) B6.size, n, sv, 0, ?_, ?_, fun _ => ⟨rfl, hn0.symm⟩, fun h => absurd rfl h⟩
    · rw [if_pos rfl, hbc]
      rfl
    · have h35 := hb5.size
      have t9 := TN.kp K9 (fun j hj => by omega) n sv ht
      exact TN.sub (fun j _ hj => by omega) n sv t9
  have HI : Hid (∀ w, CallsD Tryz.prog 17 #[pg W.heap.size, pg (W.heap.size + 1), pg (W.heap.size + 1 + 1)] .returning w fun e u' w' => e = .returned (.tuple #[]) ∧ u' = .returning ∧ Below w.heap.size w w') := fun w => catch_idle _ _ _ w
  clear hl ha hsv c3 hb3 hn hz3 hn0 hbc
  dsimp only [NdB, tv0] at e3
  go_enter_defers Tryz.func6, Tryz.ntmps6
  go_wp2_with fail
  refine HN.out.mono ?_
  rintro e w5 ⟨rfl, hb5, ao', cap', hcel, hgl, hle, hca, hcb, hlen⟩
  have HB5 := show Hid _ from hb5
  have HL := show Hid _ from hle
  clear hb5 e3 HN hle
  go_wp2_with fail
  refine (HBd.out w5 ao' cap' HL.out hca hcb hlen).mono ?_
  rintro e w6 ⟨sv, rfl, ht, hb6⟩
  obtain ⟨pv, cv, rfl, _⟩ := tn_shape ht
  obtain ⟨c6, w7, e7, c7, w8, e8, c8, H9⟩ := HC6.out w5 w6 _ HB5.out hb6 ht
  have HQ := show Hid _ from H9
  obtain ⟨⟨⟨n0, n1, n2, n3, n4, n5, n6, n7⟩, b0, c0⟩, f0, f1, f2, f3, f4, f5, f6, f7⟩ := And.intro (cz_cells c6) (nd_frozen c6.ha)
  have fb : w6.frozen? ⟨W.heap.size + 1, 0, none⟩ = false := blk_frozen c6.hb
  have la := blk_lt c6.ha
  have lb := blk_lt c6.hb
  have hab := c6.ab
  have hac := c6.ac
  have hbc := c6.bc
  have hba := c6.ab.symm
  have hca2 := c6.ac.symm
  have hcb2 := c6.bc.symm
  have C7 := show Hid _ from c7
  have C8 := show Hid _ from c8
  have E8 := show Hid _ from e8
  clear c6 c7 c8 e8 H9 ht hb6 HC6 HBd hcel hgl HL HB5 hca hcb hlen
  generalize W.heap.size + 1 + 1 = c at *
  generalize W.heap.size + 1 = b at *
  generalize hgen : W.heap.size = a at *
  unfold sets8 at e7
  dsimp only [ndv, tv0] at n1 n2 n3 n4 n5 n6 ⊢
  go_wp2_with fail
  clear n0 n1 n2 n3 n4 n5 n6 n7 b0 c0 f0 f1 f2 f3 f4 f5 f6 f7 fb la lb
  obtain ⟨⟨⟨n0, n1, n2, n3, n4, n5, n6, n7⟩, b0, c0⟩, f0, f1, f2, f3, f4, f5, f6, f7⟩ := And.intro (cz_cells C7.out) (nd_frozen C7.out.ha)
  have fb : w7.frozen? ⟨b, 0, none⟩ = false := blk_frozen C7.out.hb
  have fc : w7.frozen? ⟨c, 0, none⟩ = false := blk_frozen C7.out.hc
  have la := blk_lt C7.out.ha
  have lb := blk_lt C7.out.hb
  have lc := blk_lt C7.out.hc
  go_region
  all_goals (
    have e8 := E8.out
    unfold sets8 at e8
    try rw [e8]
    clear e8 n0 n1 n2 n3 n4 n5 n6 n7 b0 c0 f0 f1 f2 f3 f4 f5 f6 f7 fb fc la lb lc
    go_wp2_with fail
    refine leaves_cons (f := 17) (args := #[pg a, pg b, pg c]) (by simp) (by simp [go_sem]) ?_
    refine (HI.out _).mono ?_
    rintro e u' w9 ⟨rfl, rfl, hb9⟩
    obtain ⟨c9, hp⟩ := HQ.out w9 hb9
    obtain ⟨⟨n0, n1, n2, n3, n4, n5, n6, n7⟩, b0, c0⟩ := cz_cells c9
    clear HQ HI C7 C8 E8 c9 hb9 hmf
    generalize hv : Ending.returned (.tuple #[ndv n.k n.d (.slice pv n.c.length cv), .int .i64 bc, .int .i64 0]) = rv at hp
    dsimp only [ndv] at hv
    simp [Leaves, settle, results, Tryz.f6, go_sem, n0, n1, n2, n3, n4, n5, n6, n7, b0, c0, hv]
    exact hp)
theorem program_any {W : World} {ao : Option Addr} {l : List Tv} {cap : Nat} (hl : Lt W ao l) (hn : l.length ≤ 4194304) {E : List Ev} {code : Int} {k : Nat} (ha : Alr (.live [] 0) l E code k) :
    Calls Tryz.prog 6 #[.slice ao l.length cap] W (Pgm W E code k) := by
  by_cases hc : code = 0
  · subst hc
    exact program_good hl hn ha
  · exact program_bad hl hn ha hc

end Go.Proofs.YtkigadnkclkopaaGreat
