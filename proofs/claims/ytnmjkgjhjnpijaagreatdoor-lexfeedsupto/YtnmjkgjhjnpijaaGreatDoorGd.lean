import Derived.Test.YtnmjkgjhjnpijaaGreatDoorH2
import Derived.Test.YtnmjkgjhjnpijaaGreatDoorR1
import Derived.WalkMore
import Derived.Deep.RegionLaw
import Derived.Deep.RegionWith
import Derived.Deep.RegionHeld3
import Derived.Deep.Cut
set_option linter.unusedVariables false
set_option linter.unusedSimpArgs false
namespace Go.Proofs.YtnmjkgjhjnpijaaGreatDoor
open Go.RowKit

/-- New, of the document's lexer. -/
theorem rnew_any (W : World) :
    Calls Tryz.prog 7 #[] W fun e w' => e = .returned (.pointer (some ⟨W.heap.size, 0, none⟩)) ∧ LB w' W.heap.size ByteArray.empty 0 0 0 0 0 false ∧ Below W.heap.size W w' := by
  go_enter Tryz.func7, Tryz.ntmps7
  go_wp2_with fail
  go_ret
  exact ⟨rfl, World.alloc_heap_new W _, (Below.refl _ _).alloc (Nat.le_refl _) _⟩

theorem fnd_len (s : ByteArray) : ∀ (d a f : Nat), s.size - a ≤ d → (fnd s a f).1.length ≤ s.size - a
  | d, a, f, hd => by
    by_cases h : a < s.size
    · rw [fnd_step s a f h]
      cases d with
      | zero => omega
      | succ d =>
        by_cases h1 : by8 s a = 10
        · rw [if_pos h1]; have := fnd_len s d (a + 1) (f + 1) (by omega); omega
        · rw [if_neg h1]
          by_cases h2 : tkBl (by8 s a) = true
          · rw [if_pos h2]; have := fnd_len s d (a + 1) f (by omega); omega
          · rw [if_neg h2]
            by_cases h3 : tkBgn s a = 0
            · rw [if_pos h3]; exact Nat.zero_le _
            · rw [if_neg h3]
              by_cases h4 : (tkEnd s a (tkBgn s a)).2 ≠ 0
              · rw [if_pos h4]; exact Nat.zero_le _
              · rw [if_neg h4]
                have h5 := tkEnd_ok s a (tkBgn s a) (tkEnd s a (tkBgn s a)).1 h rfl h3 (Prod.ext rfl (by simpa using h4))
                have := fnd_len s d (tkEnd s a (tkBgn s a)).1 0 (by omega)
                show (fnd s (tkEnd s a (tkBgn s a)).1 0).1.length + 1 ≤ _
                omega
    · rw [fnd_end s a f (by omega)]; exact Nat.zero_le _
theorem Cov_len {s : ByteArray} {Lk : List Tk} {E a : Nat} (h : scn s = (Lk, E, a)) : Lk.length ≤ s.size := by
  have := fnd_len s s.size 0 0 (by omega)
  have e : (fnd s 0 0).1 = Lk := by show (scn s).1 = Lk; rw [h]
  rw [e] at this
  omega
theorem LB.cells {W : World} {g : Nat} {s : ByteArray} {n E : Nat} {x y z : Int} {cl : Bool} (h : LB W g s n E x y z cl) :
    W.cell? ⟨g, 0, none⟩ = some (.string s) ∧ W.cell? ⟨g, 1, none⟩ = some (.int .i64 n) ∧ W.cell? ⟨g, 2, none⟩ = some (.int .i64 E) ∧ W.cell? ⟨g, 3, none⟩ = some (.int .i64 x) ∧ W.cell? ⟨g, 4, none⟩ = some (.int .i64 y) ∧ W.cell? ⟨g, 5, none⟩ = some (.int .i64 z) ∧ W.cell? ⟨g, 6, none⟩ = some (.bool cl) :=
  ⟨blk_cell h rfl, blk_cell h rfl, blk_cell h rfl, blk_cell h rfl, blk_cell h rfl, blk_cell h rfl, blk_cell h rfl⟩
theorem LB.frozen {W : World} {g : Nat} {s : ByteArray} {n E : Nat} {x y z : Int} {cl : Bool} (h : LB W g s n E x y z cl) (k : Nat) : W.frozen? ⟨g, k, none⟩ = false := blk_frozen h

/-- The answer's place is stored, and it is all told from the call's beginning. -/
theorem TL.fin {W V w' : World} {g : Nat} {s : ByteArray} {n E : Nat} {x y z : Int} {cl : Bool} {v : Value} {l : List Tv} (h : TL V w' g s n E x y z cl v l) (hk : Kp (fun q => q = g) W V) (hg : g < W.heap.size) (hr : Box3 V W.heap.size 0 0 0) (a b c : Int) :
    TL W (((w'.setCell ⟨W.heap.size, 0, none⟩ (.int .i64 a)).setCell ⟨W.heap.size, 1, none⟩ (.int .i64 b)).setCell ⟨W.heap.size, 2, none⟩ (.int .i64 c)) g s n E x y z cl v l ∧ Box3 (((w'.setCell ⟨W.heap.size, 0, none⟩ (.int .i64 a)).setCell ⟨W.heap.size, 1, none⟩ (.int .i64 b)).setCell ⟨W.heap.size, 2, none⟩ (.int .i64 c)) W.heap.size a b c := by
  have k' : Box3 w' W.heap.size 0 0 0 := h.kp.blk hr (fun e => by omega)
  have hk2 : Kp (fun q => q = W.heap.size) w' (((w'.setCell ⟨W.heap.size, 0, none⟩ (.int .i64 a)).setCell ⟨W.heap.size, 1, none⟩ (.int .i64 b)).setCell ⟨W.heap.size, 2, none⟩ (.int .i64 c)) := ((Kp.set _ _ _ _).trans (Kp.set _ _ _ _)).trans (Kp.set _ _ _ _)
  refine ⟨⟨hk2.blk h.lex (fun e => by omega), ?_, ?_⟩, ((k'.set0 a).set1 b).set2 c⟩
  · exact (h.row.kp hk2 (h.row.ne k' (by decide))).low hk.size
  · exact (hk.step h.kp (fun _ _ e => e)).step hk2 (fun j hj e => by omega)
theorem TL.box {V w' : World} {g : Nat} {s : ByteArray} {n E : Nat} {x y z : Int} {cl : Bool} {v : Value} {l : List Tv} (h : TL V w' g s n E x y z cl v l) {r : Nat} (hr : Box3 V r 0 0 0) (hg : r ≠ g) : Box3 w' r 0 0 0 := h.kp.blk hr hg

set_option maxRecDepth 100000 in
set_option maxHeartbeats 400000 in
/-- Feed, where what is wrong is met at the end alone. -/
theorem rfeed_open {W : World} {g : Nat} {S : ByteArray} {n : Nat} (h : LB W g S n 0 0 0 0 false) (x : ByteArray) (hs : (S ++ x).size ≤ 1000000000) (hn : n ≤ 1000000000) {Lk : List Tk} {E a : Nat} (hS : scn (whl (S ++ x)) = (Lk, E, a)) (hE : Early (whl (S ++ x)) E a) (ha : a < (whl (S ++ x)).size) :
    Calls Tryz.prog 14 #[.pointer (some ⟨g, 0, none⟩), .string x] W fun e w' => ∃ v, e = .returned (.tuple #[v, .int .i64 0, .agg #[.int .i64 0, .int .i64 0, .int .i64 0]]) ∧ TL W w' g (S ++ x) (max n Lk.length) 0 0 0 0 false v ((Lk.map (tv (whl (S ++ x)))).drop n) := by
  obtain ⟨c0, c1, c2, c3, c4, c5, c6⟩ := h.cells
  have hlt := blk_lt h
  have z0 := h.frozen 0
  have hsz := size_app S x
  have hadd : ¬ (9223372036854775807 < S.size + x.size) := by omega
  have hwb := wh_bd (S ++ x)
  have hwl := whl_size (S ++ x)
  have HWh : Hid (∀ V, Calls Tryz.prog 25 #[.string (S ++ x)] V fun e w' => e = .returned (.int .i64 (wh (S ++ x))) ∧ w' = V) := fun V => rwhole_any _ V (by omega)
  have HFi : Hid (∀ V, Calls Tryz.prog 26 #[.string ((S ++ x).extract 0 (wh (S ++ x)))] V fun e w' => ∃ v, e = .returned (.agg #[v, .int .i64 E, .int .i64 a]) ∧ Rt V.heap.size w' v (Lk.map (tv (whl (S ++ x)))) ∧ Below V.heap.size V w') := fun V => by
    have h9 := find_any (whl (S ++ x)) V (by omega)
    unfold FV at h9
    rw [hS] at h9
    exact h9
  have HEa : Hid (∀ V p m c, Calls Tryz.prog 27 #[.string ((S ++ x).extract 0 (wh (S ++ x))), .agg #[.slice p m c, .int .i64 E, .int .i64 a]] V fun e w' => e = .returned (.bool true) ∧ Below V.heap.size V w') := fun V p m c => rearly_any (whl (S ++ x)) p m c E a true ⟨fun _ => hE, fun _ => rfl⟩ V (by omega) (fun _ => ha)
  have i1 : (0 : Int) ≤ wh (S ++ x) := by omega
  have i2 : (wh (S ++ x) : Int) ≤ (S ++ x).size := by omega
  have HL : Hid (LB W g S n 0 0 0 0 false) := h
  obtain ⟨M, hM⟩ : ∃ M, Lk.map (tv (whl (S ++ x))) = M := ⟨_, rfl⟩
  have hMl : Lk.length = M.length := by rw [← hM, List.length_map]
  have HMl : Hid (M.length ≤ 1000000000) := by
    have h8 := (Cov_len hS)
    show _ ≤ _
    omega
  rw [hM] at HFi ⊢
  rw [hMl]
  clear h hS hE hM hMl hwb hwl hsz
  go_enter Tryz.func14, Tryz.ntmps14
  go_wp2_with fail
  go_quiet ((go_at_call 25; exact Calls.quiet_of_same (HWh.out _)))
  go_wp2_with fail
  obtain ⟨V, hV⟩ : ∃ V, (((W.setCell ⟨g, 0, none⟩ (.string (S ++ x))).alloc (.cells #[.int .i64 0, .int .i64 0, .int .i64 0] 36)).drewN nq) = V := ⟨_, rfl⟩
  rw [hV]
  have lv : LB V g (S ++ x) n 0 0 0 0 false := by
    rw [← hV]
    exact blk_below (blk_set HL.out 0 (.string (S ++ x))) (below_dn ((Below.refl _ _).alloc (Nat.le_refl _) _) nq)
  have kv : Box3 V W.heap.size 0 0 0 := by
    have h9 := World.alloc_heap_new (W.setCell ⟨g, 0, none⟩ (.string (S ++ x))) (.cells #[.int .i64 0, .int .i64 0, .int .i64 0] 36)
    rw [World.size_setCell] at h9
    rw [← hV]
    exact blk_below h9 (below_dn (Below.refl _ _) nq)
  have kpv : Kp (fun q => q = g) W V := by
    rw [← hV]
    exact (Kp.set W g 0 (.string (S ++ x))).trans (Kp.of_below (below_dn ((Below.refl _ _).alloc (Nat.le_refl _) _) nq))
  have HVS : Hid (LB V g (S ++ x) n 0 0 0 0 false ∧ Box3 V W.heap.size 0 0 0 ∧ Kp (fun q => q = g) W V) := ⟨lv, kv, kpv⟩
  clear hV c0 c1 c2 c3 c4 c5 c6 z0 lv kv kpv HL HWh
  obtain ⟨Q, hQ⟩ : ∃ Q, (S ++ x).extract 0 (wh (S ++ x)) = Q := ⟨_, rfl⟩
  rw [hQ] at HFi HEa ⊢
  clear hQ
  go_wp2_with (first | (go_at_call 26; refine (HFi.out _).mono ?_; rintro e w2 ⟨v, rfl, hr, hb⟩; obtain ⟨vp, vc, rfl, hv1, hv2⟩ := hr.shape))
  refine (HEa.out _ _ _ _).mono ?_
  rintro e w3 ⟨rfl, hb3⟩
  obtain ⟨lv, kv, kpv⟩ := HVS.out
  have hbF : Below V.heap.size V (w2.alloc (.cells #[.slice vp M.length vc, .int .i64 E, .int .i64 a] 61)) := hb.alloc hb.size _
  have hb5 := hbF.trans (hb3.mono hbF.size)
  have d3 : FB w3 w2.heap.size (.slice vp M.length vc) E a := blk_below (World.alloc_heap_new w2 (.cells #[.slice vp M.length vc, .int .i64 E, .int .i64 a] 61)) hb3
  have hr3 : Rt V.heap.size w3 (.slice vp M.length vc) M := (hr.below ((Below.refl _ _).alloc (Nat.le_refl _) _)).below hb3
  have l3 : LB w3 g (S ++ x) n 0 0 0 0 false := blk_below lv hb5
  have k3 := kv.below hb5
  have kp3 : Kp (fun q => q = g) W w3 := kpv.step (Kp.of_below hb5) (fun _ _ h => h)
  obtain ⟨x0, x1, x2, f0, f1, f2, fl⟩ := d3.cells
  have HD3 : Hid (FB w3 w2.heap.size (.slice vp M.length vc) E a ∧ Rt V.heap.size w3 (.slice vp M.length vc) M ∧ LB w3 g (S ++ x) n 0 0 0 0 false ∧ Box3 w3 W.heap.size 0 0 0 ∧ Kp (fun q => q = g) W w3) := ⟨d3, hr3, l3, k3, kp3⟩
  have HNE : Hid (g ≠ w2.heap.size ∧ W.heap.size ≠ w2.heap.size ∧ M.length ≤ 1000000000 ∧ g < V.heap.size ∧ V.heap.size ≤ w2.heap.size) := ⟨by have := blk_lt lv; have := hb.size; omega, by have := kv.lt; have := hb.size; omega, HMl.out, blk_lt lv, hb.size⟩
  have HWV : Hid (W.heap.size ≤ V.heap.size) := kpv.size
  clear hr hb hb3 hbF hb5 d3 hr3 l3 k3 kp3 lv kv kpv HVS HFi HEa
  have HTe : Hid (Calls Tryz.prog 28 #[.pointer (some ⟨g, 0, none⟩), .agg #[.slice vp M.length vc, .int .i64 0, .int .i64 a], .int .i64 M.length] (w3.setCell ⟨w2.heap.size, 1, none⟩ (.int .i64 0)) fun e w' => ∃ v, e = .returned v ∧ (TL (w3.setCell ⟨w2.heap.size, 1, none⟩ (.int .i64 0)) w' g (S ++ x) (max n M.length) 0 0 0 0 false v (M.drop n) ∧ Box3 (w3.setCell ⟨w2.heap.size, 1, none⟩ (.int .i64 0)) W.heap.size 0 0 0 ∧ Kp (fun q => q = g) W (w3.setCell ⟨w2.heap.size, 1, none⟩ (.int .i64 0)))) := by
    obtain ⟨d3, hr3, l3, k3, kp3⟩ := HD3.out
    have ks := Kp.set w3 w2.heap.size 1 (.int .i64 0)
    have hr4 := hr3.kp ks (hr3.ne d3 (by decide))
    have l4 : LB (w3.setCell ⟨w2.heap.size, 1, none⟩ (.int .i64 0)) g (S ++ x) n 0 0 0 0 false := ks.blk l3 (fun e => HNE.out.1 e)
    obtain ⟨ao, cap, e, hLt, hao, _⟩ := Lt.row hr4
    cases e
    have h9 := tells_any g (S ++ x) n 0 0 0 0 false vp vc M 0 a M.length _ l4 hLt (Nat.le_refl _) HNE.out.2.2.1 hn (by
      intro a' e' h'
      rcases hao with e | ⟨q, e, hq, _⟩
      · rw [e] at e'; cases e'
      · rw [e] at e'
        cases e'
        have := HNE.out.2.2.2.1
        have h'' : q = g := h'
        omega)
    rw [List.take_of_length_le (Nat.le_refl _)] at h9
    refine h9.mono ?_
    rintro e w' ⟨v, rfl, hT⟩
    exact ⟨v, rfl, hT, ks.blk k3 (fun e => HNE.out.2.1 e), kp3.step ks (fun j hj e => absurd hj (by have := HNE.out.2.2.2.2; have := HWV.out; omega))⟩
  go_wp2_with (first | (go_at_call 28; refine HTe.out.mono ?_; rintro e w5 ⟨v5, rfl, hT, hk5, hp5⟩; obtain ⟨p5, c5, rfl, _⟩ := hT.row.shape; have k5 := hT.box hk5 (by omega); have g0 := k5.cell0; have g1 := k5.cell1; have g2 := k5.cell2; have z0 := k5.frozen 0; have z1 := k5.frozen 1; have z2 := k5.frozen 2; obtain ⟨t5, b5⟩ := hT.fin hp5 hlt hk5 0 0 0; have HF : Hid (TL W (((w5.setCell ⟨W.heap.size, 0, none⟩ (.int .i64 0)).setCell ⟨W.heap.size, 1, none⟩ (.int .i64 0)).setCell ⟨W.heap.size, 2, none⟩ (.int .i64 0)) g (S ++ x) (max n M.length) 0 0 0 0 false (.slice p5 (M.drop n).length c5) (M.drop n)) := t5; have m0 := b5.cell0; have m1 := b5.cell1; have m2 := b5.cell2; clear t5 hT))
  refine bodyPost_ret (v := .tuple #[.slice p5 (M.drop n).length c5, .int .i64 0, .agg #[.int .i64 0, .int .i64 0, .int .i64 0]]) (by simp [results, Tryz.f14, go_sem, m0, m1, m2]) rfl ?_
  exact ⟨_, rfl, HF.out⟩

theorem fnd_kind (s : ByteArray) : ∀ (d a f : Nat), s.size - a ≤ d → ∀ t ∈ (fnd s a f).1, t.k ≤ 255
  | d, a, f, hd => by
    by_cases h : a < s.size
    · rw [fnd_step s a f h]
      cases d with
      | zero => omega
      | succ d =>
        by_cases h1 : by8 s a = 10
        · rw [if_pos h1]; exact fnd_kind s d (a + 1) (f + 1) (by omega)
        · rw [if_neg h1]
          by_cases h2 : tkBl (by8 s a) = true
          · rw [if_pos h2]; exact fnd_kind s d (a + 1) f (by omega)
          · rw [if_neg h2]
            by_cases h3 : tkBgn s a = 0
            · rw [if_pos h3]; intro t ht; cases ht
            · rw [if_neg h3]
              by_cases h4 : (tkEnd s a (tkBgn s a)).2 ≠ 0
              · rw [if_pos h4]; intro t ht; cases ht
              · rw [if_neg h4]
                have h5 := tkEnd_ok s a (tkBgn s a) (tkEnd s a (tkBgn s a)).1 h rfl h3 (Prod.ext rfl (by simpa using h4))
                intro t ht
                rcases List.mem_cons.1 ht with rfl | ht
                · have := tok_kind (s := s) (k := tkBgn s a) (b := a) (p := (tkEnd s a (tkBgn s a)).1) (f := f) (bgn_le8 s a)
                  omega
                · exact fnd_kind s d (tkEnd s a (tkBgn s a)).1 0 (by omega) t ht
    · rw [fnd_end s a f (by omega)]; intro t ht; cases ht

set_option maxRecDepth 100000 in
set_option maxHeartbeats 1000000 in
/-- Feed, of what is sure. -/
theorem rfeed_sure0 {W : World} {g : Nat} {S : ByteArray} {n : Nat} (h : LB W g S n 0 0 0 0 false) (x : ByteArray) (hs : (S ++ x).size ≤ 1000000000) (hn : n ≤ 1000000000) {Lk : List Tk} {a : Nat} (hS : scn (whl (S ++ x)) = (Lk, 0, a)) (N : Nat) (t : Tk) (hNl : N ≤ Lk.length) (h0 : Lk.length = 0 → N = Lk.length) (ht : Lk.length ≠ 0 → Lk[Lk.length - 1]? = some t ∧ t.a ≤ t.e ∧ t.e ≤ (whl (S ++ x)).size ∧ t.k ≤ 255) (hN : Lk.length ≠ 0 → (sureK (whl (S ++ x)) t → N = Lk.length) ∧ (¬ sureK (whl (S ++ x)) t → N = Lk.length - 1)) :
    Calls Tryz.prog 14 #[.pointer (some ⟨g, 0, none⟩), .string x] W fun e w' => ∃ v, e = .returned (.tuple #[v, .int .i64 0, .agg #[.int .i64 0, .int .i64 0, .int .i64 0]]) ∧ TL W w' g (S ++ x) (max n N) 0 0 0 0 false v (((Lk.map (tv (whl (S ++ x)))).take N).drop n) := by
  obtain ⟨c0, c1, c2, c3, c4, c5, c6⟩ := h.cells
  have hlt := blk_lt h
  have z0 := h.frozen 0
  have hsz := size_app S x
  have hadd : ¬ (9223372036854775807 < S.size + x.size) := by omega
  have hwb := wh_bd (S ++ x)
  have hwl := whl_size (S ++ x)
  have HWh : Hid (∀ V, Calls Tryz.prog 25 #[.string (S ++ x)] V fun e w' => e = .returned (.int .i64 (wh (S ++ x))) ∧ w' = V) := fun V => rwhole_any _ V (by omega)
  have HFi : Hid (∀ V, Calls Tryz.prog 26 #[.string ((S ++ x).extract 0 (wh (S ++ x)))] V fun e w' => ∃ v, e = .returned (.agg #[v, .int .i64 0, .int .i64 a]) ∧ Rt V.heap.size w' v (Lk.map (tv (whl (S ++ x)))) ∧ Below V.heap.size V w') := fun V => by
    have h9 := find_any (whl (S ++ x)) V (by omega)
    unfold FV at h9
    rw [hS] at h9
    exact h9
  have HEa : Hid (∀ V p m c, Calls Tryz.prog 27 #[.string ((S ++ x).extract 0 (wh (S ++ x))), .agg #[.slice p m c, .int .i64 0, .int .i64 a]] V fun e w' => e = .returned (.bool false) ∧ Below V.heap.size V w') := fun V p m c => rearly_any (whl (S ++ x)) p m c 0 a false ⟨fun h => (by cases h), fun h => (by cases h.1)⟩ V (by omega) (fun h => by cases h)
  have HSu : Hid (∀ V p c, Lt V p (Lk.map (tv (whl (S ++ x)))) → Lk.length ≤ c → Calls Tryz.prog 29 #[.string ((S ++ x).extract 0 (wh (S ++ x))), .agg #[.slice p Lk.length c, .int .i64 0, .int .i64 a]] V fun e w' => e = .returned (.int .i64 N) ∧ Below V.heap.size V w') := fun V p c hL hc => rsure_any (whl (S ++ x)) p Lk.length c 0 a N (Lk.map (tv (whl (S ++ x)))) t V (by omega) hL (by rw [List.length_map]) (by have := Cov_len hS; omega) hc (fun h => by rcases h with h | h; exact h0 h; exact absurd rfl h) (fun h => ⟨by rw [List.getElem?_map, (ht h).1]; rfl, (ht h).2⟩) (fun h _ => hN h)
  have i1 : (0 : Int) ≤ wh (S ++ x) := by omega
  have i2 : (wh (S ++ x) : Int) ≤ (S ++ x).size := by omega
  have HL : Hid (LB W g S n 0 0 0 0 false) := h
  obtain ⟨M, hM⟩ : ∃ M, Lk.map (tv (whl (S ++ x))) = M := ⟨_, rfl⟩
  have hMl : Lk.length = M.length := by rw [← hM, List.length_map]
  have HMl : Hid (M.length ≤ 1000000000) := by
    have h8 := (Cov_len hS)
    show _ ≤ _
    omega
  rw [hM] at HFi HSu ⊢
  rw [hMl] at HSu hNl
  clear h hS h0 ht hN hM hMl hwb hwl hsz
  go_enter Tryz.func14, Tryz.ntmps14
  go_wp2_with fail
  go_quiet ((go_at_call 25; exact Calls.quiet_of_same (HWh.out _)))
  go_wp2_with fail
  obtain ⟨V, hV⟩ : ∃ V, (((W.setCell ⟨g, 0, none⟩ (.string (S ++ x))).alloc (.cells #[.int .i64 0, .int .i64 0, .int .i64 0] 36)).drewN nq) = V := ⟨_, rfl⟩
  rw [hV]
  have lv : LB V g (S ++ x) n 0 0 0 0 false := by
    rw [← hV]
    exact blk_below (blk_set HL.out 0 (.string (S ++ x))) (below_dn ((Below.refl _ _).alloc (Nat.le_refl _) _) nq)
  have kv : Box3 V W.heap.size 0 0 0 := by
    have h9 := World.alloc_heap_new (W.setCell ⟨g, 0, none⟩ (.string (S ++ x))) (.cells #[.int .i64 0, .int .i64 0, .int .i64 0] 36)
    rw [World.size_setCell] at h9
    rw [← hV]
    exact blk_below h9 (below_dn (Below.refl _ _) nq)
  have kpv : Kp (fun q => q = g) W V := by
    rw [← hV]
    exact (Kp.set W g 0 (.string (S ++ x))).trans (Kp.of_below (below_dn ((Below.refl _ _).alloc (Nat.le_refl _) _) nq))
  have HVS : Hid (LB V g (S ++ x) n 0 0 0 0 false ∧ Box3 V W.heap.size 0 0 0 ∧ Kp (fun q => q = g) W V) := ⟨lv, kv, kpv⟩
  clear hV c0 c1 c2 c3 c4 c5 c6 z0 lv kv kpv HL HWh
  obtain ⟨Q, hQ⟩ : ∃ Q, (S ++ x).extract 0 (wh (S ++ x)) = Q := ⟨_, rfl⟩
  rw [hQ] at HFi HEa HSu ⊢
  clear hQ
  go_wp2_with (first | (go_at_call 26; refine (HFi.out _).mono ?_; rintro e w2 ⟨v, rfl, hr, hb⟩; obtain ⟨vp, vc, rfl, hv1, hv2⟩ := hr.shape))
  refine (HEa.out _ _ _ _).mono ?_
  rintro e w3 ⟨rfl, hb3⟩
  obtain ⟨lv, kv, kpv⟩ := HVS.out
  have hbF : Below V.heap.size V (w2.alloc (.cells #[.slice vp M.length vc, .int .i64 0, .int .i64 a] 61)) := hb.alloc hb.size _
  have hb5 := hbF.trans (hb3.mono hbF.size)
  have d3 : FB w3 w2.heap.size (.slice vp M.length vc) 0 a := blk_below (World.alloc_heap_new w2 (.cells #[.slice vp M.length vc, .int .i64 0, .int .i64 a] 61)) hb3
  have hr3 : Rt V.heap.size w3 (.slice vp M.length vc) M := (hr.below ((Below.refl _ _).alloc (Nat.le_refl _) _)).below hb3
  have l3 : LB w3 g (S ++ x) n 0 0 0 0 false := blk_below lv hb5
  have k3 := kv.below hb5
  have kp3 : Kp (fun q => q = g) W w3 := kpv.step (Kp.of_below hb5) (fun _ _ h => h)
  obtain ⟨x0, x1, x2, f0, f1, f2, fl⟩ := d3.cells
  have HD3 : Hid (FB w3 w2.heap.size (.slice vp M.length vc) 0 a ∧ Rt V.heap.size w3 (.slice vp M.length vc) M ∧ LB w3 g (S ++ x) n 0 0 0 0 false ∧ Box3 w3 W.heap.size 0 0 0 ∧ Kp (fun q => q = g) W w3) := ⟨d3, hr3, l3, k3, kp3⟩
  have HNE : Hid (g ≠ w2.heap.size ∧ W.heap.size ≠ w2.heap.size ∧ M.length ≤ 1000000000 ∧ g < V.heap.size ∧ V.heap.size ≤ w2.heap.size) := ⟨by have := blk_lt lv; have := hb.size; omega, by have := kv.lt; have := hb.size; omega, HMl.out, blk_lt lv, hb.size⟩
  have HWV : Hid (W.heap.size ≤ V.heap.size) := kpv.size
  clear hr hb hb3 hbF hb5 d3 hr3 l3 k3 kp3 lv kv kpv HVS HFi HEa
  have HS3 : Hid (Calls Tryz.prog 29 #[.string Q, .agg #[.slice vp M.length vc, .int .i64 0, .int .i64 a]] w3 fun e w' => e = .returned (.int .i64 N) ∧ Below w3.heap.size w3 w') := by
    obtain ⟨d3, hr3, _⟩ := HD3.out
    obtain ⟨ao, cap, e, hLt, hao, hc, _⟩ := Lt.row hr3
    cases e
    exact HSu.out _ _ _ hLt hc
  clear HSu
  go_wp2_with (first | (go_at_call 29; refine HS3.out.mono ?_; rintro e w4 ⟨rfl, hb4⟩; obtain ⟨d3, hr3, l3, k3, kp3⟩ := HD3.out; have d4 := blk_below d3 hb4; have l4 := blk_below l3 hb4; obtain ⟨y0, y1, y2, h0, h1, h2, hl4⟩ := FB.cells d4; obtain ⟨c0, c1, c2, c3, c4, c5, c6⟩ := LB.cells l4; have HD4 : Hid (FB w4 w2.heap.size (.slice vp M.length vc) 0 a ∧ Rt V.heap.size w4 (.slice vp M.length vc) M ∧ LB w4 g (S ++ x) n 0 0 0 0 false ∧ Box3 w4 W.heap.size 0 0 0 ∧ Kp (fun q => q = g) W w4) := ⟨d4, hr3.below hb4, l4, k3.below hb4, kp3.step (Kp.of_below hb4) (fun _ _ h => h)⟩; clear d3 hr3 l3 k3 kp3 d4 l4))
  -- the answer
  have HTe : Hid (∀ U, Below w4.heap.size w4 U → Calls Tryz.prog 28 #[.pointer (some ⟨g, 0, none⟩), .agg #[.slice vp M.length vc, .int .i64 0, .int .i64 a], .int .i64 N] U fun e w' => ∃ v, e = .returned v ∧ (TL U w' g (S ++ x) (max n N) 0 0 0 0 false v ((M.take N).drop n) ∧ Box3 U W.heap.size 0 0 0 ∧ Kp (fun q => q = g) W U ∧ FB w' w2.heap.size (.slice vp M.length vc) 0 a)) := fun U hU => by
    obtain ⟨d3, hr3, l3, k3, kp3⟩ := HD4.out
    have hr4 := hr3.below hU
    have l4 : LB U g (S ++ x) n 0 0 0 0 false := blk_below l3 hU
    obtain ⟨ao, cap, e, hLt, hao, _⟩ := Lt.row hr4
    cases e
    have h9 := tells_any g (S ++ x) n 0 0 0 0 false vp vc M 0 a N _ l4 hLt hNl HNE.out.2.2.1 hn (by
      intro a' e' h'
      rcases hao with e | ⟨q, e, hq, _⟩
      · rw [e] at e'; cases e'
      · rw [e] at e'
        cases e'
        have := HNE.out.2.2.2.1
        have h'' : q = g := h'
        omega)
    skip
    refine h9.mono ?_
    rintro e w' ⟨v, rfl, hT⟩
    exact ⟨v, rfl, hT, k3.below hU, kp3.step (Kp.of_below hU) (fun _ _ h => h), hT.kp.blk (blk_below d3 hU) (fun e => HNE.out.1 e.symm)⟩
  have hnX : (0 : Int) = 0 := rfl
  clear hnX
  go_region_law (first | (go_simp; go_at_call 28; refine (HTe.out _ (Below.refl _ _).drew).mono ?_; rintro e w8 ⟨v8, rfl, hT, hk8, hp8, hd8⟩; obtain ⟨p8, cc8, rfl, _⟩ := hT.row.shape; have k8 := hT.box hk8 (by omega); have g0 := k8.cell0; have g1 := k8.cell1; have g2 := k8.cell2; have zz0 := k8.frozen 0; have zz1 := k8.frozen 1; have zz2 := k8.frozen 2; obtain ⟨r0, r1, r2, r3, r4, r5, r6⟩ := LB.cells hT.lex; obtain ⟨t8, b8⟩ := hT.fin hp8 hlt hk8 0 0 0; have HF : Hid (TL W (((w8.setCell ⟨W.heap.size, 0, none⟩ (.int .i64 0)).setCell ⟨W.heap.size, 1, none⟩ (.int .i64 0)).setCell ⟨W.heap.size, 2, none⟩ (.int .i64 0)) g (S ++ x) (max n N) 0 0 0 0 false (.slice p8 ((M.take N).drop n).length cc8) ((M.take N).drop n)) := t8; have m0 := b8.cell0; have m1 := b8.cell1; have m2 := b8.cell2; clear t8 hT hd8))
  all_goals (
    go_wp2_with fail
    refine bodyPost_ret (v := .tuple #[.slice p8 ((M.take N).drop n).length cc8, .int .i64 0, .agg #[.int .i64 0, .int .i64 0, .int .i64 0]]) (by simp [results, Tryz.f14, go_sem, m0, m1, m2]; omega) rfl ?_
    exact ⟨_, rfl, HF.out⟩)

set_option maxRecDepth 100000 in
set_option maxHeartbeats 1000000 in
/-- Feed, of what is sure. -/
theorem rfeed_sureE {W : World} {g : Nat} {S : ByteArray} {n : Nat} (h : LB W g S n 0 0 0 0 false) (x : ByteArray) (hs : (S ++ x).size ≤ 1000000000) (hn : n ≤ 1000000000) {Lk : List Tk} {E a : Nat} (hS : scn (whl (S ++ x)) = (Lk, E, a)) (hE0 : E ≠ 0) (hE : ¬ Early (whl (S ++ x)) E a) (ha : a ≤ (whl (S ++ x)).size) (ha1 : E = 101 → a < (whl (S ++ x)).size) :
    Calls Tryz.prog 14 #[.pointer (some ⟨g, 0, none⟩), .string x] W fun e w' => ∃ v, e = .returned (.tuple #[v, .int .i64 E, .agg #[.int .i64 a, .int .i64 (pL (whl (S ++ x)) a), .int .i64 (pC (whl (S ++ x)) a)]]) ∧ TL W w' g (S ++ x) (max n Lk.length) E a (pL (whl (S ++ x)) a) (pC (whl (S ++ x)) a) false v ((Lk.map (tv (whl (S ++ x)))).drop n) := by
  obtain ⟨c0, c1, c2, c3, c4, c5, c6⟩ := h.cells
  have hlt := blk_lt h
  have z0 := h.frozen 0
  have hsz := size_app S x
  have hadd : ¬ (9223372036854775807 < S.size + x.size) := by omega
  have hwb := wh_bd (S ++ x)
  have hwl := whl_size (S ++ x)
  have HWh : Hid (∀ V, Calls Tryz.prog 25 #[.string (S ++ x)] V fun e w' => e = .returned (.int .i64 (wh (S ++ x))) ∧ w' = V) := fun V => rwhole_any _ V (by omega)
  have HFi : Hid (∀ V, Calls Tryz.prog 26 #[.string ((S ++ x).extract 0 (wh (S ++ x)))] V fun e w' => ∃ v, e = .returned (.agg #[v, .int .i64 E, .int .i64 a]) ∧ Rt V.heap.size w' v (Lk.map (tv (whl (S ++ x)))) ∧ Below V.heap.size V w') := fun V => by
    have h9 := find_any (whl (S ++ x)) V (by omega)
    unfold FV at h9
    rw [hS] at h9
    exact h9
  have HEa : Hid (∀ V p m c, Calls Tryz.prog 27 #[.string ((S ++ x).extract 0 (wh (S ++ x))), .agg #[.slice p m c, .int .i64 E, .int .i64 a]] V fun e w' => e = .returned (.bool false) ∧ Below V.heap.size V w') := fun V p m c => rearly_any (whl (S ++ x)) p m c E a false ⟨fun h => (by cases h), fun h => absurd h hE⟩ V (by omega) ha1
  have HSu : Hid (∀ V p c, Lt V p (Lk.map (tv (whl (S ++ x)))) → Lk.length ≤ c → Calls Tryz.prog 29 #[.string ((S ++ x).extract 0 (wh (S ++ x))), .agg #[.slice p Lk.length c, .int .i64 E, .int .i64 a]] V fun e w' => e = .returned (.int .i64 Lk.length) ∧ Below V.heap.size V w') := fun V p c hL hc => rsure_any (whl (S ++ x)) p Lk.length c E a Lk.length (Lk.map (tv (whl (S ++ x)))) (Lk.getLastD ⟨0, 0, 0, 0⟩) V (by omega) hL (by rw [List.length_map]) (by have := Cov_len hS; omega) hc (fun h => rfl) (fun h => by
    have e9 : Lk[Lk.length - 1]? = some (Lk.getLastD ⟨0, 0, 0, 0⟩) := by
      rw [← List.getLast?_eq_getElem?]
      cases Lk with
      | nil => exact absurd rfl h
      | cons y l => rw [List.getLast?_cons, List.getLastD_cons, List.getLastD_eq_getLast?]
    have hm : (Lk.getLastD ⟨0, 0, 0, 0⟩) ∈ (fnd (whl (S ++ x)) 0 0).1 := by
      have e8 : (fnd (whl (S ++ x)) 0 0).1 = Lk := by show (scn _).1 = Lk; rw [hS]
      rw [e8]
      exact List.mem_of_getElem? e9
    have h8 := fnd_toks (whl (S ++ x)) (whl (S ++ x)).size 0 0 (by omega) _ hm
    exact ⟨by rw [List.getElem?_map, e9]; rfl, by omega, h8.2.2, fnd_kind (whl (S ++ x)) (whl (S ++ x)).size 0 0 (by omega) _ hm⟩) (fun _ h => absurd h hE0)
  have HPl : Hid (∀ V, Calls Tryz.prog 30 #[.string ((S ++ x).extract 0 (wh (S ++ x))), .int .i64 a] V fun e w' => e = .returned (.agg #[.int .i64 a, .int .i64 (pL (whl (S ++ x)) a), .int .i64 (pC (whl (S ++ x)) a)]) ∧ Below V.heap.size V w') := fun V => rplace_any (whl (S ++ x)) a V (by omega) ha
  obtain ⟨XL, hXL⟩ : ∃ y, pL (whl (S ++ x)) a = y := ⟨_, rfl⟩
  obtain ⟨XC, hXC⟩ : ∃ y, pC (whl (S ++ x)) a = y := ⟨_, rfl⟩
  rw [hXL, hXC] at HPl ⊢
  have qE : ((E : Int) != 0) = true := by rw [bne_iff_ne]; omega
  clear hXL hXC
  have i1 : (0 : Int) ≤ wh (S ++ x) := by omega
  have i2 : (wh (S ++ x) : Int) ≤ (S ++ x).size := by omega
  have HL : Hid (LB W g S n 0 0 0 0 false) := h
  obtain ⟨M, hM⟩ : ∃ M, Lk.map (tv (whl (S ++ x))) = M := ⟨_, rfl⟩
  have hMl : Lk.length = M.length := by rw [← hM, List.length_map]
  have HMl : Hid (M.length ≤ 1000000000) := by
    have h8 := (Cov_len hS)
    show _ ≤ _
    omega
  rw [hM] at HFi HSu ⊢
  rw [hMl] at HSu ⊢
  clear h hS hE ha1 hM hMl hwb hwl hsz
  go_enter Tryz.func14, Tryz.ntmps14
  go_wp2_with fail
  go_quiet ((go_at_call 25; exact Calls.quiet_of_same (HWh.out _)))
  go_wp2_with fail
  obtain ⟨V, hV⟩ : ∃ V, (((W.setCell ⟨g, 0, none⟩ (.string (S ++ x))).alloc (.cells #[.int .i64 0, .int .i64 0, .int .i64 0] 36)).drewN nq) = V := ⟨_, rfl⟩
  rw [hV]
  have lv : LB V g (S ++ x) n 0 0 0 0 false := by
    rw [← hV]
    exact blk_below (blk_set HL.out 0 (.string (S ++ x))) (below_dn ((Below.refl _ _).alloc (Nat.le_refl _) _) nq)
  have kv : Box3 V W.heap.size 0 0 0 := by
    have h9 := World.alloc_heap_new (W.setCell ⟨g, 0, none⟩ (.string (S ++ x))) (.cells #[.int .i64 0, .int .i64 0, .int .i64 0] 36)
    rw [World.size_setCell] at h9
    rw [← hV]
    exact blk_below h9 (below_dn (Below.refl _ _) nq)
  have kpv : Kp (fun q => q = g) W V := by
    rw [← hV]
    exact (Kp.set W g 0 (.string (S ++ x))).trans (Kp.of_below (below_dn ((Below.refl _ _).alloc (Nat.le_refl _) _) nq))
  have HVS : Hid (LB V g (S ++ x) n 0 0 0 0 false ∧ Box3 V W.heap.size 0 0 0 ∧ Kp (fun q => q = g) W V) := ⟨lv, kv, kpv⟩
  clear hV c0 c1 c2 c3 c4 c5 c6 z0 lv kv kpv HL HWh
  obtain ⟨Q, hQ⟩ : ∃ Q, (S ++ x).extract 0 (wh (S ++ x)) = Q := ⟨_, rfl⟩
  rw [hQ] at HFi HEa HSu HPl ⊢
  clear hQ
  go_wp2_with (first | (go_at_call 26; refine (HFi.out _).mono ?_; rintro e w2 ⟨v, rfl, hr, hb⟩; obtain ⟨vp, vc, rfl, hv1, hv2⟩ := hr.shape))
  refine (HEa.out _ _ _ _).mono ?_
  rintro e w3 ⟨rfl, hb3⟩
  obtain ⟨lv, kv, kpv⟩ := HVS.out
  have hbF : Below V.heap.size V (w2.alloc (.cells #[.slice vp M.length vc, .int .i64 E, .int .i64 a] 61)) := hb.alloc hb.size _
  have hb5 := hbF.trans (hb3.mono hbF.size)
  have d3 : FB w3 w2.heap.size (.slice vp M.length vc) E a := blk_below (World.alloc_heap_new w2 (.cells #[.slice vp M.length vc, .int .i64 E, .int .i64 a] 61)) hb3
  have hr3 : Rt V.heap.size w3 (.slice vp M.length vc) M := (hr.below ((Below.refl _ _).alloc (Nat.le_refl _) _)).below hb3
  have l3 : LB w3 g (S ++ x) n 0 0 0 0 false := blk_below lv hb5
  have k3 := kv.below hb5
  have kp3 : Kp (fun q => q = g) W w3 := kpv.step (Kp.of_below hb5) (fun _ _ h => h)
  obtain ⟨x0, x1, x2, f0, f1, f2, fl⟩ := d3.cells
  have HD3 : Hid (FB w3 w2.heap.size (.slice vp M.length vc) E a ∧ Rt V.heap.size w3 (.slice vp M.length vc) M ∧ LB w3 g (S ++ x) n 0 0 0 0 false ∧ Box3 w3 W.heap.size 0 0 0 ∧ Kp (fun q => q = g) W w3) := ⟨d3, hr3, l3, k3, kp3⟩
  have HNE : Hid (g ≠ w2.heap.size ∧ W.heap.size ≠ w2.heap.size ∧ M.length ≤ 1000000000 ∧ g < V.heap.size ∧ V.heap.size ≤ w2.heap.size) := ⟨by have := blk_lt lv; have := hb.size; omega, by have := kv.lt; have := hb.size; omega, HMl.out, blk_lt lv, hb.size⟩
  have HWV : Hid (W.heap.size ≤ V.heap.size) := kpv.size
  clear hr hb hb3 hbF hb5 d3 hr3 l3 k3 kp3 lv kv kpv HVS HFi HEa
  have HS3 : Hid (Calls Tryz.prog 29 #[.string Q, .agg #[.slice vp M.length vc, .int .i64 E, .int .i64 a]] w3 fun e w' => e = .returned (.int .i64 M.length) ∧ Below w3.heap.size w3 w') := by
    obtain ⟨d3, hr3, _⟩ := HD3.out
    obtain ⟨ao, cap, e, hLt, hao, hc, _⟩ := Lt.row hr3
    cases e
    exact HSu.out _ _ _ hLt hc
  clear HSu
  have hne1 := HNE.out.1
  have hne2 : w2.heap.size ≠ g := fun e => hne1 e.symm
  go_wp2_with (first | (go_at_call 29; refine HS3.out.mono ?_; rintro e w4 ⟨rfl, hb4⟩; obtain ⟨d3, hr3, l3, k3, kp3⟩ := HD3.out; have d4 := blk_below d3 hb4; have l4 := blk_below l3 hb4; obtain ⟨y0, y1, y2, h0, h1, h2, hl4⟩ := FB.cells d4; obtain ⟨c0, c1, c2, c3, c4, c5, c6⟩ := LB.cells l4; have u2 := LB.frozen l4 2; have ug := blk_lt l4; have HD5 : Hid (FB (w4.setCell ⟨g, 2, none⟩ (.int .i64 E)) w2.heap.size (.slice vp M.length vc) E a ∧ Rt V.heap.size (w4.setCell ⟨g, 2, none⟩ (.int .i64 E)) (.slice vp M.length vc) M ∧ LB (w4.setCell ⟨g, 2, none⟩ (.int .i64 E)) g (S ++ x) n E 0 0 0 false ∧ Box3 (w4.setCell ⟨g, 2, none⟩ (.int .i64 E)) W.heap.size 0 0 0 ∧ Kp (fun q => q = g) W (w4.setCell ⟨g, 2, none⟩ (.int .i64 E))) := ⟨(Kp.set w4 g 2 _).blk d4 hne2, (hr3.below hb4).kp (Kp.set w4 g 2 _) ((hr3.below hb4).ne l4 (by decide)), blk_set l4 2 _, (Kp.set w4 g 2 _).blk (k3.below hb4) (fun e => by omega), (kp3.step (Kp.of_below hb4) (fun _ _ h => h)).step (Kp.set w4 g 2 _) (fun _ _ h => h)⟩; clear d3 hr3 l3 k3 kp3 d4 l4) | (go_at_call 30; refine (HPl.out _).mono ?_; rintro e w5 ⟨rfl, hb5⟩; obtain ⟨d3, hr3, l3, k3, kp3⟩ := HD5.out; have d5 := blk_below d3 hb5; have l5 := blk_below l3 hb5; have hr5 := hr3.below hb5; obtain ⟨o0, o1, o2, o3, o4, o5, o6⟩ := LB.cells l5; have u3 := LB.frozen l5 3; have u4 := LB.frozen l5 4; have u5 := LB.frozen l5 5; obtain ⟨q0, q1, q2, q3, q4, q5, q6⟩ := FB.cells d5; have ug5 := blk_lt l5; have hkk : Kp (fun q => q = g) w5 (((w5.setCell ⟨g, 3, none⟩ (.int .i64 a)).setCell ⟨g, 4, none⟩ (.int .i64 XL)).setCell ⟨g, 5, none⟩ (.int .i64 XC)) := ((Kp.set _ _ _ _).trans (Kp.set _ _ _ _)).trans (Kp.set _ _ _ _); have HD4 : Hid (FB (((w5.setCell ⟨g, 3, none⟩ (.int .i64 a)).setCell ⟨g, 4, none⟩ (.int .i64 XL)).setCell ⟨g, 5, none⟩ (.int .i64 XC)) w2.heap.size (.slice vp M.length vc) E a ∧ Rt V.heap.size (((w5.setCell ⟨g, 3, none⟩ (.int .i64 a)).setCell ⟨g, 4, none⟩ (.int .i64 XL)).setCell ⟨g, 5, none⟩ (.int .i64 XC)) (.slice vp M.length vc) M ∧ LB (((w5.setCell ⟨g, 3, none⟩ (.int .i64 a)).setCell ⟨g, 4, none⟩ (.int .i64 XL)).setCell ⟨g, 5, none⟩ (.int .i64 XC)) g (S ++ x) n E a XL XC false ∧ Box3 (((w5.setCell ⟨g, 3, none⟩ (.int .i64 a)).setCell ⟨g, 4, none⟩ (.int .i64 XL)).setCell ⟨g, 5, none⟩ (.int .i64 XC)) W.heap.size 0 0 0 ∧ Kp (fun q => q = g) W (((w5.setCell ⟨g, 3, none⟩ (.int .i64 a)).setCell ⟨g, 4, none⟩ (.int .i64 XL)).setCell ⟨g, 5, none⟩ (.int .i64 XC))) := ⟨hkk.blk d5 hne2, hr5.kp hkk (hr5.ne l5 (by decide)), blk_set (blk_set (blk_set l5 3 _) 4 _) 5 _, hkk.blk (k3.below hb5) (fun e => by omega), (kp3.step (Kp.of_below hb5) (fun _ _ h => h)).step hkk (fun _ _ h => h)⟩; clear d3 hr3 l3 k3 kp3 d5 l5 hr5 hkk))
  obtain ⟨W6, hW6⟩ : ∃ W6, (((w5.setCell ⟨g, 3, none⟩ (.int .i64 a)).setCell ⟨g, 4, none⟩ (.int .i64 XL)).setCell ⟨g, 5, none⟩ (.int .i64 XC)) = W6 := ⟨_, rfl⟩
  rw [hW6] at HD4 ⊢
  obtain ⟨e0, e1, e2, e3, e4, e5, e6⟩ := FB.cells HD4.out.1
  obtain ⟨s0, s1, s2, s3, s4, s5, s6⟩ := LB.cells HD4.out.2.2.1
  clear hW6 o0 o1 o2 o3 o4 o5 o6 u3 u4 u5 q0 q1 q2 q3 q4 q5 q6
  -- the answer
  have HTe : Hid (∀ U, Below W6.heap.size W6 U → Calls Tryz.prog 28 #[.pointer (some ⟨g, 0, none⟩), .agg #[.slice vp M.length vc, .int .i64 E, .int .i64 a], .int .i64 M.length] U fun e w' => ∃ v, e = .returned v ∧ (TL U w' g (S ++ x) (max n M.length) E a XL XC false v (M.drop n) ∧ Box3 U W.heap.size 0 0 0 ∧ Kp (fun q => q = g) W U ∧ FB w' w2.heap.size (.slice vp M.length vc) E a)) := fun U hU => by
    obtain ⟨d3, hr3, l3, k3, kp3⟩ := HD4.out
    have hr4 := hr3.below hU
    have l4 : LB U g (S ++ x) n E a XL XC false := blk_below l3 hU
    obtain ⟨ao, cap, e, hLt, hao, _⟩ := Lt.row hr4
    cases e
    have h9 := tells_any g (S ++ x) n E a XL XC false vp vc M E a M.length _ l4 hLt (Nat.le_refl _) HNE.out.2.2.1 hn (by
      intro a' e' h'
      rcases hao with e | ⟨q, e, hq, _⟩
      · rw [e] at e'; cases e'
      · rw [e] at e'
        cases e'
        have := HNE.out.2.2.2.1
        have h'' : q = g := h'
        omega)
    rw [List.take_of_length_le (Nat.le_refl _)] at h9
    refine h9.mono ?_
    rintro e w' ⟨v, rfl, hT⟩
    exact ⟨v, rfl, hT, k3.below hU, kp3.step (Kp.of_below hU) (fun _ _ h => h), hT.kp.blk (blk_below d3 hU) (fun e => HNE.out.1 e.symm)⟩
  have hnX : (0 : Int) = 0 := rfl
  clear hnX
  go_region_law (first | (go_simp; go_at_call 28; refine (HTe.out _ (Below.refl _ _).drew).mono ?_; rintro e w8 ⟨v8, rfl, hT, hk8, hp8, hd8⟩; obtain ⟨p8, cc8, rfl, _⟩ := hT.row.shape; have k8 := hT.box hk8 (by omega); have g0 := k8.cell0; have g1 := k8.cell1; have g2 := k8.cell2; have zz0 := k8.frozen 0; have zz1 := k8.frozen 1; have zz2 := k8.frozen 2; obtain ⟨r0, r1, r2, r3, r4, r5, r6⟩ := LB.cells hT.lex; obtain ⟨t8, b8⟩ := hT.fin hp8 hlt hk8 a XL XC; have HF : Hid (TL W (((w8.setCell ⟨W.heap.size, 0, none⟩ (.int .i64 a)).setCell ⟨W.heap.size, 1, none⟩ (.int .i64 XL)).setCell ⟨W.heap.size, 2, none⟩ (.int .i64 XC)) g (S ++ x) (max n M.length) E a XL XC false (.slice p8 (M.drop n).length cc8) (M.drop n)) := t8; have m0 := b8.cell0; have m1 := b8.cell1; have m2 := b8.cell2; clear t8 hT hd8))
  all_goals (
    go_wp2_with fail
    refine bodyPost_ret (v := .tuple #[.slice p8 (M.drop n).length cc8, .int .i64 E, .agg #[.int .i64 a, .int .i64 XL, .int .i64 XC]]) (by simp [results, Tryz.f14, go_sem, m0, m1, m2]) rfl ?_
    exact ⟨_, rfl, HF.out⟩)

end Go.Proofs.YtnmjkgjhjnpijaaGreatDoor
