import Derived.Test.YtkigadnkclkopaaGreatGc
import Derived.Deep.CutRange
import Derived.Deep.QuietTactic
import Derived.BigQuiet
set_option linter.unusedVariables false
set_option linter.unusedSimpArgs false
namespace Go.Proofs.YtkigadnkclkopaaGreat
open Go.RowKit

set_option maxHeartbeats 2000000 in
theorem stake_any {X : Sx} {i n : Nat} {E : List Ev} {W : World} (h : SV X i n E W) {t : Tv} (ht : X.l[i]? = some t) (hn : n ≤ 1000) (hl : E.length + 1 + X.l.length ≤ 1000000000) :
    Calls Tryz.prog 93 #[pg X.g] W fun e w' => e = .returned (.tuple #[]) ∧ SV X (i + 1 + (lead (X.l.drop (i + 1))).length) n (E ++ ⟨2, 0, t⟩ :: (lead (X.l.drop (i + 1))).map ntE) w' := by
  have hlt : i < X.l.length := (List.getElem?_eq_some_iff.1 ht).1
  obtain ⟨ve, hs, hE, hv⟩ := h.ex
  obtain ⟨c0, c1, c2, c3⟩ := hs.cells
  have hgl := hs.lt
  have hxl := h.hl
  obtain ⟨b, off, e0, x0, x1, x2, x3, x4, x5, xl⟩ := h.tok ht
  rw [e0] at c0
  have q1 : ¬ ((n : Int) > 1000) := by omega
  have q2 : (0 : Int) ≤ i := by omega
  have q3 : (i : Int) < X.l.length := by omega
  have HT : Hid (∀ V, Below W.heap.size W V → Calls Tryz.prog 32 #[pg X.g, (⟨2, 0, t⟩ : Ev).v] V fun r w' => r = .returned (.tuple #[]) ∧ SV X i n (E ++ [⟨2, 0, t⟩]) w' ∧ Frm X V w') := fun V hb => stell_any (h.below hb) _ (by omega)
  have HN : Hid (∀ w2, SV X i n (E ++ [⟨2, 0, t⟩]) w2 → (w2.cell? ⟨X.g, 1, none⟩ = some (.int .i64 (i : Int)) ∧ w2.frozen? ⟨X.g, 1, none⟩ = false ∧ X.g < w2.heap.size) ∧ ∃ w3, w2.setCell ⟨X.g, 1, none⟩ (.int .i64 ((i : Int) + 1)) = w3 ∧ Hid (SV X (i + 1) n (E ++ [⟨2, 0, t⟩]) w3)) := fun w2 h2 => by
    obtain ⟨z0, z1, z2, z3⟩ := h2.step (i + 1)
    exact ⟨⟨z0, z1, z2⟩, _, rfl, by show SV _ _ _ _ _; rw [show ((i : Int) + 1) = ((i + 1 : Nat) : Int) by omega]; exact z3⟩
  have HC : Hid (∀ w3, SV X (i + 1) n (E ++ [⟨2, 0, t⟩]) w3 → Calls Tryz.prog 33 #[pg X.g] w3 fun e w' => e = .returned (.tuple #[]) ∧ SV X (i + 1 + (lead (X.l.drop (i + 1))).length) n (E ++ [⟨2, 0, t⟩] ++ (lead (X.l.drop (i + 1))).map ntE) w') := fun w3 h3 => comments_any h3 hlt (by simp; omega)
  have HE : Hid (E ++ ⟨2, 0, t⟩ :: (lead (X.l.drop (i + 1))).map ntE = E ++ [⟨2, 0, t⟩] ++ (lead (X.l.drop (i + 1))).map ntE) := by show _ = _; simp
  have HB : Hid (∀ m, Below W.heap.size W (W.drewN m)) := fun m => below_dr (Below.refl _ _) m
  rw [HE.out]
  clear h hs hE hv ht hlt e0
  dsimp only [Ev.v] at HT
  generalize X.ao = ao at *
  go_enter Tryz.func93, Tryz.ntmps93
  go_wp2_with fail
  go_cut [25] from 13 to 25 (fun _ wx => Hid (SV X i n (E ++ [⟨2, 0, t⟩]) wx))
  case first =>
    go_region_with (go_at_call 32; refine (HT.out _ (HB.out _)).mono ?_; rintro r w2 ⟨rfl, h2, f2⟩; have H2 := show Hid _ from h2; clear h2 f2)
    all_goals (
      go_wp2_with fail
      go_meet
      exact H2)
  case rest =>
    have H2 := hcut
    clear hcut c0 c1 c2 c3 x0 x1 x2 x3 x4 x5 HT
    obtain ⟨⟨z0, z1, z2⟩, w3, e3, H3⟩ := HN.out _ H2.out
    go_wp2_with (go_at_call 33; refine (HC.out _ H3.out).mono ?_; rintro r w4 ⟨rfl, h4⟩; have H4 := show Hid _ from h4; clear h4)
    go_end0
    exact ⟨rfl, H4.out⟩
set_option maxHeartbeats 1000000 in
theorem sdeep_any {X : Sx} {i n : Nat} {E : List Ev} {W : World} (h : SV X i n E W) (hn : 1000 < n) :
    Calls Tryz.prog 93 #[pg X.g] W fun e w' => e = .panicked (stop 122 i) ∧ Below W.heap.size W w' := by
  obtain ⟨ve, hs, hE, hv⟩ := h.ex
  obtain ⟨c0, c1, c2, c3⟩ := hs.cells
  have hgl := hs.lt
  have q1 : ((n : Int) > 1000) := by omega
  have HB : Hid (∀ m, Below W.heap.size W (W.drewN m)) := fun m => below_dr (Below.refl _ _) m
  clear h hs hE
  go_enter Tryz.func93, Tryz.ntmps93
  go_wp2_with fail
  exact ⟨rfl, rfl, HB.out 0⟩

end Go.Proofs.YtkigadnkclkopaaGreat
