import Derived.Test.YtkigadnkclkopaaGreatGn
import Derived.Test.YtkigadnkclkopaaGreatCh
import Derived.Defers
import Derived.Recover
import Derived.Laws.Pointers
set_option linter.unusedVariables false
set_option linter.unusedSimpArgs false
namespace Go.Proofs.YtkigadnkclkopaaGreat
open Go.RowKit

/-! What Program does behind a panic. -/
theorem ta_nil (w : World) : (Instr.typeAssert .nilIface 20 52 true).run Tryz.prog w = .ok (.tuple #[.agg #[.int .i64 0, .int .i64 0], .bool false]) w := by kernel_rfl
theorem ta_stop (c i : Int) (w : World) : (Instr.typeAssert (.iface 52 (.agg #[.int .i64 c, .int .i64 i])) 20 52 true).run Tryz.prog w = .ok (.tuple #[.agg #[.int .i64 c, .int .i64 i], .bool true]) w := by kernel_rfl
set_option maxHeartbeats 1000000 in
theorem catch_idle (a b c : Nat) (w : World) :
    CallsD Tryz.prog 17 #[pg a, pg b, pg c] .returning w fun e u' w' => e = .returned (.tuple #[]) ∧ u' = .returning ∧ Below w.heap.size w w' := by
  have HB : Hid (∀ o, Below w.heap.size w (w.alloc o)) := fun o => (Below.refl _ _).alloc (Nat.le_refl _) _
  refine callsD_of_wpS Tryz.func17 rfl fun c₀ cs hu => ?_
  apply wpS_seq
  apply wpS_region
  simp [wpOpsS, go_sem, recoverD, hu, Tryz.ntmps17, Exit.thenS, ta_nil]
  refine wpS_of_wp ?_
  go_wp2_with fail
  have hx := HB.out (.cells #[.int .i64 0, .int .i64 0] 52)
  clear HB
  cases c₀
  simp_all [bodyPostS, results, Tryz.f17, go_sem]
/-- The node, the error and the place that are told. -/
structure Cz (a b c : Nat) (n : Obj) (e i : Int) (w : World) : Prop where
  ha : w.heap[a]? = some n
  hb : w.heap[b]? = some (.cells #[.int .i64 e] 33)
  hc : w.heap[c]? = some (.cells #[.int .i64 i] 3)
  ab : a ≠ b
  ac : a ≠ c
  bc : b ≠ c
theorem Cz.below {a b c : Nat} {n : Obj} {e i : Int} {w w' : World} (h : Cz a b c n e i w) (hb : Below w.heap.size w w') : Cz a b c n e i w' := ⟨blk_below h.ha hb, blk_below h.hb hb, blk_below h.hc hb, h.ab, h.ac, h.bc⟩
theorem Cz.set {a b c : Nat} {k0 : Int} {d0 : Tv} {s0 : Value} {e0 i0 : Int} {w : World} (h : Cz a b c (NdB k0 d0 s0) e0 i0 w) (k : Int) (d : Tv) (s : Value) (e i : Int) : Cz a b c (NdB k d s) e i (((sets8 w a k d s).setCell ⟨b, 0, none⟩ (.int .i64 e)).setCell ⟨c, 0, none⟩ (.int .i64 i)) ∧ Kp (fun j => j = a ∨ j = b ∨ j = c) w (((sets8 w a k d s).setCell ⟨b, 0, none⟩ (.int .i64 e)).setCell ⟨c, 0, none⟩ (.int .i64 i)) := by
  have k1 := sets8_kp w a k d s
  have k2 := Kp.set (sets8 w a k d s) b 0 (.int .i64 e)
  have k3 := Kp.set ((sets8 w a k d s).setCell ⟨b, 0, none⟩ (.int .i64 e)) c 0 (.int .i64 i)
  have a1 := sets8_at h.ha k d s
  have b1 := k1.blk h.hb (fun x => h.ab x.symm)
  have c1 := k1.blk h.hc (fun x => h.ac x.symm)
  refine ⟨⟨k3.blk (k2.blk a1 h.ab) h.ac, k3.blk (blk_set b1 0 _) h.bc, blk_set (k2.blk c1 (fun x => h.bc x.symm)) 0 _, h.ab, h.ac, h.bc⟩, ?_⟩
  exact ((k1.sub (fun j hj => .inl hj)).trans (k2.sub (fun j hj => .inr (.inl hj)))).trans (k3.sub (fun j hj => .inr (.inr hj)))
theorem tmps14 (x0 x1 x2 v0 v1 v2 v3 v4 v5 v6 : Value) : #[x0, x1, x2] ++ (((((((Array.replicate 13 undef).setIfInBounds 3 v3).setIfInBounds 4 v4).setIfInBounds 2 v2).setIfInBounds 5 v5).setIfInBounds 6 v6).setIfInBounds 0 v0).setIfInBounds 1 v1 = #[x0, x1, x2, v0, v1, v2, v3, v4, v5, v6, undef, undef, undef, undef, undef, undef] := by kernel_rfl
set_option maxHeartbeats 2000000 in
theorem catch_panic (a b c : Nat) (k0 : Int) (d0 : Tv) (s0 : Value) (e0 i0 : Int) (e : Int) (i : Nat) (w : World) (h : Cz a b c (NdB k0 d0 s0) e0 i0 w) :
    CallsD Tryz.prog 17 #[pg a, pg b, pg c] (.panicking (stop e i)) w fun r u' w' => r = .returned (.tuple #[]) ∧ u' = .panicking [{ v := .iface 52 (.agg #[.int .i64 e, .int .i64 (i : Int)]), recovered := true }] ∧ Cz a b c (NdB 0 tv0 (.slice none 0 0)) e i w' ∧ Kp (fun j => j = a ∨ j = b ∨ j = c) w w' := by
  refine callsD_of_wpS Tryz.func17 rfl fun c₀ cs hu => ?_
  apply wpS_seq
  apply wpS_region
  simp [wpOpsS, go_sem, recoverD, hu, Tryz.ntmps17, Exit.thenS, ta_stop]
  refine wpS_of_wp ?_
  rw [tmps14]
  obtain ⟨w1, e1⟩ : ∃ w1, w.alloc (.cells #[.int .i64 e, .int .i64 (i : Int)] 52) = w1 := ⟨_, rfl⟩
  have hb : Below w.heap.size w w1 := by rw [← e1]; exact (Below.refl _ _).alloc (Nat.le_refl _) _
  have hn : w1.heap[w.heap.size]? = some (.cells #[.int .i64 e, .int .i64 (i : Int)] 52) := by rw [← e1]; exact new_at _ _
  have h1 := h.below hb
  have HX : Hid (∃ wz, (((sets8 w1 a 0 tv0 (.slice none 0 0)).setCell ⟨b, 0, none⟩ (.int .i64 e)).setCell ⟨c, 0, none⟩ (.int .i64 i)).drew = wz ∧ Cz a b c (NdB 0 tv0 (.slice none 0 0)) e i wz ∧ Kp (fun j => j = a ∨ j = b ∨ j = c) w wz) := by
    obtain ⟨x1, x2⟩ := h1.set 0 tv0 (.slice none 0 0) e i
    have hb2 : ∀ v : World, Below v.heap.size v v.drew := fun v => (Below.refl _ _).drew
    exact ⟨_, rfl, x1.below (hb2 _), ((Kp.of_below (S := fun j => j = a ∨ j = b ∨ j = c) hb).trans x2).trans (Kp.of_below (hb2 _))⟩
  obtain ⟨⟨n0, n1, n2, n3, n4, n5, n6, n7⟩, nl⟩ := nd_cells h1.ha
  obtain ⟨f0, f1, f2, f3, f4, f5, f6, f7⟩ := nd_frozen h1.ha
  have y0 : w1.cell? ⟨w.heap.size, 0, none⟩ = _ := blk_cell hn rfl
  have y1 : w1.cell? ⟨w.heap.size, 1, none⟩ = _ := blk_cell hn rfl
  have hab := h.ab
  have hac := h.ac
  have hbc := h.bc
  have hba := h.ab.symm
  have hca := h.ac.symm
  have hcb := h.bc.symm
  have za : w.heap.size ≠ a := fun x => by have := blk_lt h.ha; omega
  have zb : w.heap.size ≠ b := fun x => by have := blk_lt h.hb; omega
  have zc : w.heap.size ≠ c := fun x => by have := blk_lt h.hc; omega
  have z1 := blk_lt hn
  have b0 : w1.cell? ⟨b, 0, none⟩ = _ := blk_cell h1.hb rfl
  have c0 : w1.cell? ⟨c, 0, none⟩ = _ := blk_cell h1.hc rfl
  have bl := blk_lt h1.hb
  have cl := blk_lt h1.hc
  have fb : w1.frozen? ⟨b, 0, none⟩ = false := blk_frozen h1.hb
  have fc : w1.frozen? ⟨c, 0, none⟩ = false := blk_frozen h1.hc
  rw [e1]
  clear hb hn h1 h e1
  generalize w.heap.size = q at *
  go_wp2_with fail
  go_region
  obtain ⟨wz, ez, hz, kz⟩ := HX.out
  unfold sets8 at ez
  dsimp only [tv0] at ez
  rw [ez]
  clear HX ez n0 n1 n2 n3 n4 n5 n6 n7 nl f0 f1 f2 f3 f4 f5 f6 f7 y0 y1 b0 c0 bl cl fb fc hab hac hbc hba hca hcb za zb zc z1
  go_wp2_with fail
  cases c₀
  simp_all [bodyPostS, results, Tryz.f17, go_sem]

end Go.Proofs.YtkigadnkclkopaaGreat
