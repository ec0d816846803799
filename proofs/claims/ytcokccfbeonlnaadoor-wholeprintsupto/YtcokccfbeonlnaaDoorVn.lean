import Derived.Test.YtcokccfbeonlnaaDoorVm
import Derived.Test.YtcokccfbeonlnaaDoorGa9
import Derived.Test.YtcokccfbeonlnaaDoorGb2
import Derived.Test.YtcokccfbeonlnaaDoorGb1
set_option linter.unusedVariables false
set_option linter.unusedSimpArgs false
namespace Go.Proofs.YtcokccfbeonlnaaDoor
open Go.RowKit

set_option maxHeartbeats 4000000 in
set_option maxRecDepth 100000 in
theorem prints_any (n : Int) (ao : Option Addr) (l : List Dc) (cap : Nat) (w : World) (hL : Lay w ao l) (hnil : ao = none → l.length = 0) (hT : Tab w) (hlen : l.length ≤ 200000) (hs : lsum l ≤ 1048576) :
    Calls Tryd.prog 4 #[.int .i64 n, .slice ao l.length cap] w fun e w' => e = .returned (.bool true) ∧ Below w.heap.size w w' := by
  have hU : uds l ≤ 268435456 := by have := uds_lsum l; omega
  have ht : ∀ d ∈ l, d.t.size ≤ 9223372036854775807 := fun d hd => by obtain ⟨j, hj⟩ := List.getElem?_of_mem hd; exact (hL j d hj).1
  have HA : Hid (∀ W, Below w.heap.size w W → Calls Tryd.prog 9 #[] W fun e w' => e = .returned (.bool true) ∧ Below W.heap.size W w') := fun W hW => awake_any W (hT.below hW)
  obtain ⟨S, hS⟩ : ∃ S, (wprn n l).1 = S := ⟨_, rfl⟩
  obtain ⟨Z, hZ⟩ : ∃ Z, (wprn n l).2 = Z := ⟨_, rfl⟩
  have HP : Hid (∀ W g c, DSt w W g c l → Calls Tryd.prog 10 #[.int .i64 n, .slice (some ⟨g, 0, none⟩) l.length c] W fun e w' => e = .returned (.tuple #[.string S, .int .i64 Z]) ∧ Below W.heap.size W w') := fun W g c h => by
    have h := print_any n _ l c W (h.lay ht) (hT.below h.bel) (by omega) hU
    rw [hS, hZ] at h
    exact h
  have HP' : Hid (∀ W, Below w.heap.size w W → Calls Tryd.prog 11 #[.int .i64 n, .slice ao l.length cap] W fun e w' => e = .returned (.tuple #[.string S, .int .i64 Z]) ∧ Below W.heap.size W w') := fun W hW => by
    have h := rprint_any n ao l cap W (hL.below hW) (by omega) hU
    rw [hS, hZ] at h
    exact h
  have HK : Hid (∀ W g c, c ≤ 9223372036854775807 → DSt w W g c l → Calls Tryd.prog 12 #[.slice (some ⟨g, 0, none⟩) l.length c, .slice ao l.length cap] W fun e w' => e = .returned (.bool true) ∧ Below W.heap.size W w') := fun W g c h2 h => by
    have h := same_any (some ⟨g, 0, none⟩) ao l l c cap W (h.lay ht) (hL.below h.bel) (by omega) (by omega)
    rw [decide_eq_true rfl] at h
    exact h
  have HM : Hid (∀ W g c, DSt w W g c l → W.cell? ⟨g, l.length * 5, none⟩ = some (.int .u8 99)) := fun W g c h => h.mark ht
  have q2 : (0 : Int) ≤ (l.length : Int) + 1 := by omega
  have q3 : (l.length : Int) < (l.length : Int) + 1 := by omega
  have q4 : (0 : Int) ≤ l.length := by omega
  cases ao with
  | none =>
    have h0 := hnil rfl
    have e0 : l = [] := List.eq_nil_of_length_eq_zero h0
    subst e0
    clear hL hnil hS hZ ht hT
    go_enter Tryd.func4, Tryd.ntmps4
    go_wp2_with (at_builtin; refine app_row rfl _ _ rfl w.heap.size (.slice none 0 0) [] [m99] rfl (rp_nil _ _) ⟨w.heap.size, 0, none⟩ 1 1 rfl rfl (fun j u hu => World.news_of_block (heap_new _ _) j u (by simpa [dcs, flat, Dc.cs, m99, bE] using hu)) (by simp only [List.length_cons, List.length_nil]; omega) (by rw [World.size_alloc]; exact Nat.le_succ _) ?_)
    intro v2 w2 hr2 hb2
    obtain ⟨g, c, rfl, hc1, hc2⟩ := rp_some (l := []) hr2
    have H2 : Hid (DSt w w2 g c []) := ⟨((Below.refl _ _).alloc (Nat.le_refl _) _).trans hb2, hr2⟩
    clear hr2 hb2
    have q1 : (0 : Int) ≤ c := by omega
    go_wp2_with (first | (go_at_call 10; have hg := H4; clear hg; refine (HP.out _ _ _ H4.out).mono ?_; rintro e w5 ⟨rfl, hb5⟩; have H5 : Hid (DSt w w5 g c []) := H4.out.below hb5; clear hb5) | (go_at_call 10; refine (HP.out _ _ _ H2.out).mono ?_; rintro e w3 ⟨rfl, hb3⟩; have H3 : Hid (DSt w w3 g c []) := H2.out.below hb3; clear hb3) | (go_at_call 11; refine (HP'.out _ H3.out.bel).mono ?_; rintro e w4 ⟨rfl, hb4⟩; have H4 : Hid (DSt w w4 g c []) := H3.out.below hb4; clear hb4) | (go_at_call 9; refine (HA.out _ H5.out.bel).mono ?_; rintro e w6 ⟨rfl, hb6⟩; have H6 : Hid (DSt w w6 g c []) := H5.out.below hb6; clear hb6) | (go_at_call 12; refine (HK.out _ _ _ hc2 H6.out).mono ?_; rintro e w7 ⟨rfl, hb7⟩; have H7 : Hid (DSt w w7 g c []) := H6.out.below hb7; have c0 : w7.cell? ⟨g, 0, none⟩ = some (.int .u8 99) := HM.out _ _ _ H7.out; clear hb7))
    go_ret
    exact ⟨rfl, H7.out.bel⟩
  | some a =>
    have HN : Hid (∀ j u, (dcs l)[j]? = some u → w.cell? (a.add j) = some u) := hL.cells
    clear hL hnil hS hZ ht hT
    go_enter Tryd.func4, Tryd.ntmps4
    go_wp2_with (at_builtin; refine app_row rfl _ _ rfl w.heap.size (.slice none 0 0) [] l rfl (rp_nil _ _) a l.length cap rfl rfl HN.out (by simp only [List.length_nil]; omega) (Nat.le_refl _) ?_)
    intro v1 w1 hr1 hb1
    have hr1' : Rp w.heap.size w1 v1 l := hr1
    obtain ⟨p, cp, rfl, _, _⟩ := hr1'.shape
    have H1 : Hid (Rp w.heap.size w1 (.slice p l.length cp) l ∧ Below w.heap.size w w1) := ⟨hr1, hb1⟩
    clear hr1 hb1 hr1'
    go_wp2_with (at_builtin; refine app_row rfl _ _ rfl w.heap.size (.slice p l.length cp) l [m99] rfl (H1.out.1.below ((Below.refl _ _).alloc (Nat.le_refl _) _)) ⟨w1.heap.size, 0, none⟩ 1 1 rfl rfl (fun j u hu => World.news_of_block (heap_new _ _) j u (by simpa [dcs, flat, Dc.cs, m99, bE] using hu)) (by simp only [List.length_cons, List.length_nil]; omega) (by rw [World.size_alloc]; exact Nat.le_succ_of_le H1.out.2.size) ?_)
    intro v2 w2 hr2 hb2
    obtain ⟨g, c, rfl, hc1, hc2⟩ := rp_some hr2
    have H2 : Hid (DSt w w2 g c l) := ⟨(H1.out.2.alloc H1.out.2.size _).trans hb2, hr2⟩
    clear hr2 hb2 H1 HN
    have q1 : (l.length : Int) ≤ c := by omega
    go_wp2_with (first | (go_at_call 10; have hg := H4; clear hg; refine (HP.out _ _ _ H4.out).mono ?_; rintro e w5 ⟨rfl, hb5⟩; have H5 : Hid (DSt w w5 g c l) := H4.out.below hb5; clear hb5) | (go_at_call 10; refine (HP.out _ _ _ H2.out).mono ?_; rintro e w3 ⟨rfl, hb3⟩; have H3 : Hid (DSt w w3 g c l) := H2.out.below hb3; clear hb3) | (go_at_call 11; refine (HP'.out _ H3.out.bel).mono ?_; rintro e w4 ⟨rfl, hb4⟩; have H4 : Hid (DSt w w4 g c l) := H3.out.below hb4; clear hb4) | (go_at_call 9; refine (HA.out _ H5.out.bel).mono ?_; rintro e w6 ⟨rfl, hb6⟩; have H6 : Hid (DSt w w6 g c l) := H5.out.below hb6; clear hb6) | (go_at_call 12; refine (HK.out _ _ _ hc2 H6.out).mono ?_; rintro e w7 ⟨rfl, hb7⟩; have H7 : Hid (DSt w w7 g c l) := H6.out.below hb7; have c0 := HM.out _ _ _ H7.out; clear hb7))
    go_ret
    exact ⟨rfl, H7.out.bel⟩
end Go.Proofs.YtcokccfbeonlnaaDoor
