import Derived.Test.YtfkegaencoodbaaDoorUe
set_option linter.unusedVariables false
set_option linter.unusedSimpArgs false
namespace Go.Proofs.YtfkegaencoodbaaDoor
open Go.RowKit

/-! What the errors tell. -/
def enB (c : Int) : ByteArray := ⟨#[101, 114, 114, 111, 114, 32]⟩ ++ itB c
def ferB (c y z : Int) : ByteArray := itB y ++ ⟨#[58]⟩ ++ itB z ++ ⟨#[58, 32]⟩ ++ enB c
theorem hdB_fer (name : ByteArray) (c y z : Int) : hdB name c y z = name ++ ⟨#[58, 32]⟩ ++ ferB c y z ++ ⟨#[10]⟩ := by
  have e : (⟨#[58, 32, 101, 114, 114, 111, 114, 32]⟩ : ByteArray) = ⟨#[58, 32]⟩ ++ ⟨#[101, 114, 114, 111, 114, 32]⟩ := by kernel_rfl
  unfold hdB ferB enB
  rw [e]
  simp only [ByteArray.append_assoc]
theorem eno_any {c : Int} {W : World} (hI : ItP W) (hc : i64 c) : Calls Tryd.prog 32 #[.int .i64 c] W fun e w' => e = .returned (.string (enB c)) ∧ Below W.heap.size W w' := by
  have s1 := itB_sz hc
  obtain ⟨ic, hic⟩ : ∃ i, itB c = i := ⟨_, rfl⟩
  have HI : Hid (Calls Tryd.prog 25 #[.int .i64 c] W fun e w' => e = .returned (.string ic) ∧ Below W.heap.size W w') := by rw [← hic]; exact hI W c (Below.refl _ _) hc
  have HE : Hid (enB c = ⟨#[101, 114, 114, 111, 114, 32]⟩ ++ ic) := (by unfold enB; rw [hic] : enB c = _)
  rw [hic] at s1
  clear hI hc hic
  go_enter Tryd.func32, Tryd.ntmps32
  go_wp2_with (go_at_call 25; refine HI.out.mono ?_; rintro e w1 ⟨rfl, hb1⟩)
  go_ret
  exact ⟨by rw [HE.out]; rfl, hb1⟩
set_option maxHeartbeats 2000000 in
set_option maxRecDepth 100000 in
theorem fer_any {c x y z : Int} {W : World} {g : Nat} (hI : ItP W) (hc : i64 c) (hy : i64 y) (hz : i64 z) (hg : W.heap[g]? = some (ftb c x y z)) :
    Calls Tryd.prog 19 #[.pointer (some ⟨g, 0, none⟩)] W fun e w' => e = .returned (.string (ferB c y z)) ∧ Below W.heap.size W w' := by
  have c0 : ∀ x : HW (SG W), x.W.cell? ⟨g, 0, none⟩ = some (.int .i64 c) := fun x => cel_up (blk_cell hg rfl) x.h
  have c2 : ∀ x : HW (SG W), x.W.cell? ⟨g, 2, none⟩ = some (.int .i64 y) := fun x => cel_up (blk_cell hg rfl) x.h
  have c3 : ∀ x : HW (SG W), x.W.cell? ⟨g, 3, none⟩ = some (.int .i64 z) := fun x => cel_up (blk_cell hg rfl) x.h
  have s1 := itB_sz hc
  have s2 := itB_sz hy
  have s3 := itB_sz hz
  have s4 : (enB c).size ≤ 31 := by
    unfold enB
    rw [ByteArray.size_append]
    show 6 + _ ≤ _
    omega
  obtain ⟨ic, hic⟩ : ∃ i, enB c = i := ⟨_, rfl⟩
  obtain ⟨iy, hiy⟩ : ∃ i, itB y = i := ⟨_, rfl⟩
  obtain ⟨iz, hiz⟩ : ∃ i, itB z = i := ⟨_, rfl⟩
  rw [hic] at s4
  rw [hiy] at s2
  rw [hiz] at s3
  have q1 : ¬ 9223372036854775807 < iy.size + 1 := by omega
  have q2 : ¬ 9223372036854775807 < iy.size + 1 + iz.size := by omega
  have q3 : ¬ 9223372036854775807 < iy.size + 1 + iz.size + 2 := by omega
  have q4 : ¬ 9223372036854775807 < iy.size + 1 + iz.size + 2 + ic.size := by omega
  have HI : Hid ((∀ U, Below W.heap.size W U → Calls Tryd.prog 25 #[.int .i64 y] U fun e w' => e = .returned (.string iy) ∧ Below U.heap.size U w') ∧ (∀ U, Below W.heap.size W U → Calls Tryd.prog 25 #[.int .i64 z] U fun e w' => e = .returned (.string iz) ∧ Below U.heap.size U w') ∧ ∀ U, Below W.heap.size W U → Calls Tryd.prog 32 #[.int .i64 c] U fun e w' => e = .returned (.string ic) ∧ Below U.heap.size U w') := ⟨fun U h => by rw [← hiy]; exact hI U y h hy, fun U h => by rw [← hiz]; exact hI U z h hz, fun U h => by rw [← hic]; exact eno_any (hI.below h) hc⟩
  have HE : Hid (ferB c y z = iy ++ ⟨#[58]⟩ ++ iz ++ ⟨#[58, 32]⟩ ++ ic) := (by unfold ferB; rw [hic, hiy, hiz] : ferB c y z = _)
  have hne : Nonempty (HW (SG W)) := ⟨⟨W, Below.refl _ _⟩⟩
  have hex : ∀ x : HW (SG W), ∃ y : HW (SG W), x.W = y.W := fun x => ⟨x, rfl⟩
  clear hI hc hy hz hg s1 s2 s3 s4 hic hiy hiz
  go_enter Tryd.func19, Tryd.ntmps19
  go_wp2_with fail
  refine wp_region_quiet_in (S := SG W) (by kernel_rfl) (by kernel_rfl) (Below.refl _ _).drew ?_
  repeat (go_big_quiet_step (first | (go_at_call 25; first | exact Calls.quiet_in _ (HI.out.1 _ (HW.h _)) (fun _ _ => SG.keep) | exact Calls.quiet_in _ (HI.out.2.1 _ (HW.h _)) (fun _ _ => SG.keep)) | (go_at_call 32; exact Calls.quiet_in _ (HI.out.2.2 _ (HW.h _)) (fun _ _ => SG.keep))))
  refine wpQuiet_nil ?_
  rintro w5 ⟨⟨W5, hS5⟩, rfl⟩
  have HS5 : Hid (Below W.heap.size W w5) := hS5
  clear hS5 c0 c2 c3 hne hex
  go_wp2_with fail
  go_ret
  exact ⟨by rw [HE.out]; rfl, HS5.out⟩
theorem fernil_any (W : World) : Calls Tryd.prog 19 #[.pointer none] W fun e w' => e = .returned (.string ⟨#[]⟩) ∧ w' = W := by
  go_enter Tryd.func19, Tryd.ntmps19
  go_wp2_with fail
  go_ret
  exact ⟨rfl, rfl⟩
theorem ess_any {t : ByteArray} {g : Nat} {W : World} (h : W.heap[g]? = some (esb t)) : Calls Tryd.prog 111 #[.pointer (some ⟨g, 0, none⟩)] W fun e w' => e = .returned (.string t) ∧ w' = W := by
  have c0 : W.cell? ⟨g, 0, none⟩ = some (.string t) := blk_cell h rfl
  go_enter Tryd.func111, Tryd.ntmps111
  go_wp2_with fail
  go_ret
  exact ⟨rfl, rfl⟩
theorem wdf_any (t : ByteArray) (p : Option Addr) (W : World) : Calls Tryd.prog 109 #[.agg #[.string t, ftp p]] W fun e w' => e = .returned (.string t) ∧ Below W.heap.size W w' := by
  go_enter Tryd.func109, Tryd.ntmps109
  go_wp2_with fail
  go_ret
  exact ⟨rfl, (Below.refl _ _).alloc (Nat.le_refl _) _⟩
theorem wds_any (t : ByteArray) (g : Nat) (W : World) : Calls Tryd.prog 109 #[.agg #[.string t, esv g]] W fun e w' => e = .returned (.string t) ∧ Below W.heap.size W w' := by
  go_enter Tryd.func109, Tryd.ntmps109
  go_wp2_with fail
  go_ret
  exact ⟨rfl, (Below.refl _ _).alloc (Nat.le_refl _) _⟩

end Go.Proofs.YtfkegaencoodbaaDoor
