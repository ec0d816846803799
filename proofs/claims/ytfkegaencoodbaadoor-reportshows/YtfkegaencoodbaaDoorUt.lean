import Derived.Test.YtfkegaencoodbaaDoorUs
import Derived.Test.YtfkegaencoodbaaDoorUm
import Derived.Defers
import Derived.Recover
set_option linter.unusedVariables false
set_option linter.unusedSimpArgs false
namespace Go.Proofs.YtfkegaencoodbaaDoor
open Go.RowKit

/-! The code's faultIn, wordOf: what they defer finds no panic. -/
theorem neq_nil (w : World) : (binOp .neq 20 .nilIface .nilIface).run Tryd.prog w = .ok (.bool false) w := by kernel_rfl
theorem fin_idle (k : Nat) (w : World) : CallsD Tryd.prog 29 #[.pointer (some ⟨k, 0, none⟩)] .returning w fun e u' w' => e = .returned (.tuple #[]) ∧ u' = .returning ∧ w' = w := by
  refine callsD_of_wpS Tryd.func29 rfl fun c₀ cs hu => ?_
  apply wpS_seq
  apply wpS_region
  simp [wpOpsS, go_sem, recoverD, hu, Tryd.ntmps29, Exit.thenS, neq_nil]
  refine wpS_cond (t := false) (by simp [Act.eval, Array.replicate]) ?_
  refine wpS_of_wp ?_
  go_wp2_with fail
  cases c₀
  simp_all [bodyPostS, results, Tryd.f29, go_sem]
theorem wof_idle (w : World) : CallsD Tryd.prog 31 #[] .returning w fun e u' w' => e = .returned (.tuple #[]) ∧ u' = .returning ∧ w' = w := by
  refine callsD_of_wpS Tryd.func31 rfl fun c₀ cs hu => ?_
  apply wpS_region
  simp [wpOpsS, go_sem, recoverD, hu, Tryd.ntmps31, Exit.thenS]
  cases c₀
  simp_all [bodyPostS, results, Tryd.f31, go_sem]
set_option maxHeartbeats 1000000 in
theorem fin_hit {er : Value} {p : Option Addr} {W : World} (h : AsF W er p) : Calls Tryd.prog 17 #[er] W fun e w' => e = .returned (.pointer p) ∧ Below W.heap.size W w' := by
  obtain ⟨V, hV⟩ : ∃ V, W.alloc (ptc none) = V := ⟨_, rfl⟩
  obtain ⟨k, hk⟩ : ∃ k, W.heap.size = k := ⟨_, rfl⟩
  have hb : Below W.heap.size W V := by rw [← hV]; exact (Below.refl _ _).alloc (Nat.le_refl _) _
  have kk : V.heap[k]? = some (ptc none) := by rw [← hV, ← hk]; exact new_at _ _
  have HA : Hid (Calls Tryd.prog 30 #[er, .iface 64 (.pointer (some ⟨k, 0, none⟩))] V fun ev w' => ev = .returned (.bool true) ∧ ∃ w1, Below V.heap.size V w1 ∧ w' = w1.setCell ⟨k, 0, none⟩ (.pointer p)) := h V k hb kk
  have HB : Hid (Below W.heap.size W V ∧ V.heap[k]? = some (ptc none) ∧ W.heap.size ≤ k) := ⟨hb, kk, by omega⟩
  have hmf : ∀ (fn : Fn) (first cap : Array Value) (w : World), (Instr.makeFunc fn first cap).run Tryd.prog w = .ok (.func fn first cap) w := fun _ _ _ _ => rfl
  clear hb kk h
  go_enter_defers Tryd.func17, Tryd.ntmps17
  go_wp2_with fail
  try rw [hV]
  try rw [hk]
  clear hV hk
  go_wp2_with fail
  refine HA.out.mono ?_
  rintro e w1 ⟨rfl, w0, hb1, hw1⟩
  have hk0 := blk_below HB.out.2.1 hb1
  have H1 : Hid (Below W.heap.size W w1 ∧ w1.heap[k]? = some (ptc p)) := ⟨by rw [hw1]; exact (HB.out.1.trans (hb1.mono HB.out.1.size)).setCell HB.out.2.2 _, by rw [hw1]; exact blk_set hk0 0 _⟩
  have c0 : w1.cell? ⟨k, 0, none⟩ = some (.pointer p) := blk_cell H1.out.2 rfl
  have f0 : w1.frozen? ⟨k, 0, none⟩ = false := blk_frozen H1.out.2
  have HK : Hid (W.heap.size ≤ k) := HB.out.2.2
  clear hb1 hw1 hk0 HB HA
  go_wp2_with fail
  refine leaves_cons (f := 29) (args := #[.pointer (some ⟨k, 0, none⟩)]) (by simp) (by simp [go_sem]) ?_
  refine (fin_idle k _).mono ?_
  rintro r u' w2 ⟨rfl, rfl, rfl⟩
  have c1 : (w1.setCell ⟨k, 0, none⟩ (.pointer p)).cell? ⟨k, 0, none⟩ = some (.pointer p) := blk_cell (blk_set H1.out.2 0 _) rfl
  refine ⟨.pointer p, ?_, rfl, H1.out.1.setCell HK.out _⟩
  simp [results, Tryd.f17, go_sem, c1]
set_option maxHeartbeats 1000000 in
theorem fin_miss {er : Value} {W : World} (h : AsN W er) : Calls Tryd.prog 17 #[er] W fun e w' => e = .returned (.pointer none) ∧ Below W.heap.size W w' := by
  obtain ⟨V, hV⟩ : ∃ V, W.alloc (ptc none) = V := ⟨_, rfl⟩
  obtain ⟨k, hk⟩ : ∃ k, W.heap.size = k := ⟨_, rfl⟩
  have hb : Below W.heap.size W V := by rw [← hV]; exact (Below.refl _ _).alloc (Nat.le_refl _) _
  have kk : V.heap[k]? = some (ptc none) := by rw [← hV, ← hk]; exact new_at _ _
  have HA : Hid (Calls Tryd.prog 30 #[er, .iface 64 (.pointer (some ⟨k, 0, none⟩))] V fun ev w' => ev = .returned (.bool false) ∧ Below V.heap.size V w') := h V k hb kk
  have HB : Hid (Below W.heap.size W V ∧ V.heap[k]? = some (ptc none) ∧ W.heap.size ≤ k) := ⟨hb, kk, by omega⟩
  have hmf : ∀ (fn : Fn) (first cap : Array Value) (w : World), (Instr.makeFunc fn first cap).run Tryd.prog w = .ok (.func fn first cap) w := fun _ _ _ _ => rfl
  clear hb kk h
  go_enter_defers Tryd.func17, Tryd.ntmps17
  go_wp2_with fail
  try rw [hV]
  try rw [hk]
  clear hV hk
  go_wp2_with fail
  refine HA.out.mono ?_
  rintro e w1 ⟨rfl, hb1⟩
  have H1 : Hid (Below W.heap.size W w1 ∧ w1.heap[k]? = some (ptc none)) := ⟨HB.out.1.trans (hb1.mono HB.out.1.size), blk_below HB.out.2.1 hb1⟩
  have c0 : w1.cell? ⟨k, 0, none⟩ = some (.pointer none) := blk_cell H1.out.2 rfl
  have f0 : w1.frozen? ⟨k, 0, none⟩ = false := blk_frozen H1.out.2
  have HK : Hid (W.heap.size ≤ k) := HB.out.2.2
  clear hb1 HB HA
  go_wp2_with fail
  refine leaves_cons (f := 29) (args := #[.pointer (some ⟨k, 0, none⟩)]) (by simp) (by simp [go_sem]) ?_
  refine (fin_idle k _).mono ?_
  rintro r u' w2 ⟨rfl, rfl, rfl⟩
  have c1 : (w1.setCell ⟨k, 0, none⟩ (.pointer none)).cell? ⟨k, 0, none⟩ = some (.pointer none) := blk_cell (blk_set H1.out.2 0 _) rfl
  refine ⟨.pointer none, ?_, rfl, H1.out.1.setCell HK.out _⟩
  simp [results, Tryd.f17, go_sem, c1]
theorem wof_str {t : ByteArray} {g : Nat} {W : World} (hg : W.heap[g]? = some (esb t)) : Calls Tryd.prog 18 #[esv g] W fun e w' => e = .returned (.string t) ∧ Below W.heap.size W w' := by
  have xe := xErrS
  have HC : Hid (Calls Tryd.prog 111 #[.pointer (some ⟨g, 0, none⟩)] W fun e w' => e = .returned (.string t) ∧ Below W.heap.size W w') := (ess_any hg).mono fun e w' h => ⟨h.1, by rw [h.2]; exact Below.refl _ _⟩
  go_enter_defers Tryd.func18, Tryd.ntmps18
  go_wp2_with fail
  refine HC.out.mono ?_
  rintro e w1 ⟨rfl, hb1⟩
  go_wp2_with fail
  refine leaves_cons (f := 31) (args := #[]) (by simp) (by simp [go_sem]) ?_
  refine (wof_idle _).mono ?_
  rintro r u' w2 ⟨rfl, rfl, rfl⟩
  exact ⟨_, (by simp [results, Tryd.f18, go_sem]), rfl, hb1⟩
theorem wof_wrd {t : ByteArray} {g : Nat} {W : World} : Calls Tryd.prog 18 #[wrd t (esv g)] W fun e w' => e = .returned (.string t) ∧ Below W.heap.size W w' := by
  have xe := xErrW
  have HC : Hid (Calls Tryd.prog 109 #[.agg #[.string t, esv g]] W fun e w' => e = .returned (.string t) ∧ Below W.heap.size W w') := wds_any t g W
  go_enter_defers Tryd.func18, Tryd.ntmps18
  go_wp2_with fail
  refine HC.out.mono ?_
  rintro e w1 ⟨rfl, hb1⟩
  go_wp2_with fail
  refine leaves_cons (f := 31) (args := #[]) (by simp) (by simp [go_sem]) ?_
  refine (wof_idle _).mono ?_
  rintro r u' w2 ⟨rfl, rfl, rfl⟩
  exact ⟨_, (by simp [results, Tryd.f18, go_sem]), rfl, hb1⟩
theorem wof_nil  {W : World} : Calls Tryd.prog 18 #[ftp none] W fun e w' => e = .returned (.string ⟨#[]⟩) ∧ Below W.heap.size W w' := by
  have xe := xErrF
  have HC : Hid (Calls Tryd.prog 19 #[.pointer none] W fun e w' => e = .returned (.string ⟨#[]⟩) ∧ Below W.heap.size W w') := (fernil_any W).mono fun e w' h => ⟨h.1, by rw [h.2]; exact Below.refl _ _⟩
  go_enter_defers Tryd.func18, Tryd.ntmps18
  go_wp2_with fail
  refine HC.out.mono ?_
  rintro e w1 ⟨rfl, hb1⟩
  go_wp2_with fail
  refine leaves_cons (f := 31) (args := #[]) (by simp) (by simp [go_sem]) ?_
  refine (wof_idle _).mono ?_
  rintro r u' w2 ⟨rfl, rfl, rfl⟩
  exact ⟨_, (by simp [results, Tryd.f18, go_sem]), rfl, hb1⟩

end Go.Proofs.YtfkegaencoodbaaDoor
