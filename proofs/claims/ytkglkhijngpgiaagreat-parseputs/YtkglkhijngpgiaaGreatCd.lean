import Derived.Test.YtkglkhijngpgiaaGreatCc
import Derived.RangeFuncOwn
set_option linter.unusedVariables false
set_option linter.unusedSimpArgs false
namespace Go.Proofs.YtkglkhijngpgiaaGreat
open Go.RowKit Go.Shelf
attribute [local go_sem] Oper.semAt_some

theorem ko_below {w w' : World} (h : Below w.heap.size w w') : KeepsOthers w w' := ⟨h.size, fun k o hk _ => (h.block k (blk_lt hk)).trans hk⟩
theorem ko_kp {S : Nat → Prop} {w w' : World} (h : Kp S w w') (hS : ∀ k, S k → ∀ o, w.heap[k]? = some o → o.isCells = true) : KeepsOthers w w' :=
  ⟨h.size, fun k o hk ho => h.blk hk (fun hs => by rw [hS k hs o hk] at ho; cases ho)⟩
theorem cells_of {w : World} {g : Nat} {cs : Array Value} {T : TypeId} {f : Nat × Nat} (h : w.heap[g]? = some (.cells cs T f)) : ∀ o, w.heap[g]? = some o → o.isCells = true := by
  intro o ho
  rw [h] at ho
  cases ho
  rfl
theorem keeps_cell {W W' : World} {row : Option Nat} (hg : W.grownBy W' row) (hrow : ∀ r, row = some r → ∃ o : Obj, W.heap[r]? = some o ∧ o.isCells = false) {k : Nat} {cs : Array Value} {T : TypeId} {f : Nat × Nat} (h : W.heap[k]? = some (.cells cs T f)) : W'.heap[k]? = some (.cells cs T f) :=
  (grownBy_keeps_cells hg hrow h rfl).trans h
theorem keeps_row {W W' : World} {row : Option Nat} (hg : W.grownBy W' row) (hrow : ∀ r, row = some r → ∃ o : Obj, W.heap[r]? = some o ∧ o.isCells = false) {e sz n : Nat} {v : Value} {xs : List Value} (h : W.ownsRow 0 e sz v n xs) : W'.ownsRow 0 e sz v n xs := by
  refine ⟨h.1, ?_⟩
  rcases h.2 with h1 | ⟨g, cap, cur, rfl, a1, a2, a3⟩
  · exact .inl h1
  · exact .inr ⟨g, cap, cur, rfl, a1, keeps_cell hg hrow a2, a3⟩

/-- The states that a slice holds. -/
def Lv (W : World) (ao : Option Addr) (l : List Value) : Prop := ∀ j s, l[j]? = some s → (∃ fn fi ca, s = .func fn fi ca) ∧ ∃ b off, ao = some ⟨b, off, none⟩ ∧ W.cell? ⟨b, off + j, none⟩ = some s
theorem Lv.kp {S : Nat → Prop} {w w' : World} {ao : Option Addr} {l : List Value} (h : Lv w ao l) (hb : Kp S w w') (hS : ∀ a, ao = some a → ¬ S a.block) : Lv w' ao l := by
  intro j a ha
  obtain ⟨h0, b, off, h1, c0⟩ := h j a ha
  have hlt := World.block_lt_of_cell? _ _ c0
  have e : w'.heap[b]? = w.heap[b]? := hb.block b hlt (hS _ h1)
  exact ⟨h0, b, off, h1, (World.cell?_of_block (a := ⟨b, _, none⟩) e).trans c0⟩
theorem Lv.below {w w' : World} {ao : Option Addr} {l : List Value} (h : Lv w ao l) (hb : Below w.heap.size w w') : Lv w' ao l := h.kp (Kp.of_below (S := fun _ => False) hb) (fun _ _ h => h)
theorem Lv.own {W W' : World} {row : Option Nat} {ao : Option Addr} {l : List Value} (h : Lv W ao l) (hg : W.grownBy W' row) (hrow : ∀ r, row = some r → ∃ o : Obj, W.heap[r]? = some o ∧ o.isCells = false) : Lv W' ao l := by
  intro j d hd
  obtain ⟨h0, b, off, h1, c0⟩ := h j d hd
  exact ⟨h0, b, off, h1, cell_kept c0 hg hrow⟩

theorem backward_any (ao : Option Addr) (n cap : Nat) (w : World) : Calls Tryz.prog 48 #[.slice ao n cap] w fun e w' => e = .returned (.func (.func 64) #[] #[.pointer (some ⟨w.heap.size, 0, none⟩)]) ∧ w' = w.alloc (.cells #[.slice ao n cap] 44) := by
  have hmf : ∀ (fn : Fn) (first cap : Array Value) (w : World), (Instr.makeFunc fn first cap).run Tryz.prog w = .ok (.func fn first cap) w := fun _ _ _ _ => rfl
  go_enter Tryz.func48, Tryz.ntmps48
  go_wp2_with fail
  go_ret
  exact ⟨rfl, rfl⟩

/-- What comes in the round j. -/
def itB (l : List Value) (j : Nat) : Array Value := #[.int .i64 ((l.length - 1 - j : Nat) : Int), l.getD (l.length - 1 - j) .nilFunc]

set_option maxRecDepth 100000 in
set_option maxHeartbeats 2000000 in
theorem backward_goes (n : Nat) (hn : 1 ≤ n) (Bn : Nat) (ao : Option Addr) (l : List Value) (cap : Nat) (hl : l.length ≤ 1000000) :
    Goes Fence.wide n Tryz.prog 64 #[.pointer (some ⟨Bn, 0, none⟩)] (itB l) l.length (fun W => W.cell? ⟨Bn, 0, none⟩ = some (.slice ao l.length cap) ∧ Lv W ao l) := by
  intro lp J W hG hA hY h0
  refine callsIn_of_wp Tryz.func64 rfl trivial ?_ rfl
  simp only [Tryz.ntmps64, List.size_toArray, List.length_cons, List.length_nil, Nat.reduceAdd, Nat.reduceSub, Array.replicate_succ, Array.replicate_zero, List.push_toArray, List.append_toArray, List.nil_append, List.cons_append]
  have g0 := (hG 0 W h0).1
  have hln : (l.length : Int) ≤ 1000000 := by omega
  gi_wp2
  gi_loopw [3] (fun i wr => ∃ (j : Nat) (z : Int), i = .int .i64 z ∧ z = (l.length : Int) - 1 - j ∧ j ≤ l.length ∧ J j wr) (fun i _ => (intOf i + 1).toNat)
  case atStart => exact ⟨0, _, by go_num, by omega, Nat.zero_le _, h0⟩
  case round =>
    obtain ⟨j, z, rfl, hz, hj, hJ⟩ := hrel
    by_cases hlt : j < l.length
    · obtain ⟨k, hk⟩ : ∃ k : Nat, z = k := ⟨z.toNat, by omega⟩
      subst hk
      have hkl : k < l.length := by omega
      have hkj : l.length - 1 - j = k := by omega
      obtain ⟨d, hd⟩ : ∃ d, l[k]? = some d := ⟨_, List.getElem?_eq_getElem hkl⟩
      obtain ⟨gc, gL⟩ := hG j wr hJ
      obtain ⟨ht, b, off, rfl, c0⟩ := gL k d hd
      have q1 : (0 : Int) ≤ k := by omega
      have q2 : (k : Int) < l.length := by omega
      have hit : itB l j = #[.int .i64 (k : Int), d] := by
        unfold itB
        rw [hkj, List.getD_eq_getElem?_getD, hd]; rfl
      obtain ⟨fn, tmps, assign, body, hy, hR⟩ := hY j wr hlt hJ
      rw [hit] at hy
      have HJ : Hid (l.length - 1 - j = k ∧ j < l.length) := ⟨hkj, hlt⟩
      clear hz hit hkj hlt hd
      gi_wp2
      refine hR.mono ?_
      rintro e W3 ⟨rfl, hJ3⟩
      gi_wp2
      go_roundw
      case rel => exact ⟨j + 1, (k : Int) - 1, by go_num, by have := HJ.out; omega, by have := HJ.out; omega, hJ3⟩
      case measure => simp [RowKit.intOf]
    · obtain rfl : j = l.length := by omega
      have hz' : z = -1 := by omega
      subst hz'
      clear hz
      gi_wp2
      go_end0
      exact ⟨⟨_, rfl⟩, hJ⟩
end Go.Proofs.YtkglkhijngpgiaaGreat
