import Derived.Test.YtkglkhijngpgiaaCg
set_option linter.unusedVariables false
set_option linter.unusedSimpArgs false
namespace Go.Proofs.Ytkglkhijngpgiaa
open Go.RowKit

theorem row_one {g : Nat} {D : Nat → Prop} {W : World} {n : Int} {K : List It} {E : List Ev} {vs vt : Value} (h : Ps g D W n K E vs vt) (v : Value) (x : It) (hv : Rep g D W v x) :
    Ps g (Dn D W.heap.size (W.alloc (.cells #[v] 56)).heap.size) (W.alloc (.cells #[v] 56)) n K E vs vt ∧ Row g (Dn D W.heap.size (W.alloc (.cells #[v] 56)).heap.size) (W.alloc (.cells #[v] 56)) (some ⟨W.heap.size, 0, none⟩) [v] [x] := by
  have hb : Below W.heap.size W (W.alloc (.cells #[v] 56)) := (Below.refl _ _).alloc (Nat.le_refl _) _
  refine ⟨h.fresh hb, fun j s hj => ?_, .cons (hv.turn (fun _ h => .inl h) (fun k o _ ho => blk_below ho hb)) .nil, ?_⟩
  · obtain ⟨rfl, rfl⟩ : j = 0 ∧ s = v := by
      cases j with
      | zero => simp at hj; exact ⟨rfl, hj.symm⟩
      | succ j => simp at hj
    exact ⟨hv.isFn, _, _, rfl, blk_cell (new_at W _) rfl⟩
  · intro a ha
    cases ha
    exact .inr ⟨Nat.le_refl _, by rw [World.size_alloc]; exact Nat.lt_succ_self _⟩

set_option maxHeartbeats 400000 in
/-- open begins a node. -/
theorem open_ps {g : Nat} {D : Nat → Prop} {W : World} {n : Int} {K : List It} {E : List Ev} {vs vt : Value} (h : Ps g D W n K E vs vt) (node : Int) (ao : Option Addr) (xs : List Value) (m cap : Nat) (r : List It) (hm : xs.length = m) (hr : Row g D W ao xs r) (hx : xs.length ≤ 1000) (hn0 : 0 ≤ n) (hn : n ≤ 100000000) (hK : K.length ≤ 10000000) (hE : E.length ≤ 1000000000) :
    Calls Try.prog 19 #[pt g, .int .u8 node, .slice ao m cap] W fun e w' => e = .returned (.int .i64 1) ∧ Gone g D vs vt W w' (n + 1) (r ++ .lv node :: K) (E ++ [⟨1, node, tv0⟩]) := by
  have hmf : ∀ (fn : Fn) (first cap : Array Value) (w : World), (Instr.makeFunc fn first cap).run Try.prog w = .ok (.func fn first cap) w := fun _ _ _ _ => rfl
  have HT : Hid (Calls Try.prog 24 #[pt g, .agg #[.int .u8 1, .int .u8 node, .int .u8 0, .string ⟨#[]⟩, .int .i64 0, .int .i64 0, .int .i64 0, .int .i64 0]] W fun e w' => e = .returned (.tuple #[]) ∧ (∃ vt', Ps g D w' n K (E ++ [⟨1, node, tv0⟩]) vs vt' ∧ Nb W vt vt') ∧ Kp (fun k => k = g ∨ vt.ownBlock = some k) W w') := tell_ps h ⟨1, node, tv0⟩ hE
  have HR : Hid (Row g D W ao xs r ∧ Ps g D W n K E vs vt) := ⟨hr, h⟩
  have HB : Hid (xs.length ≤ 1000 ∧ K.length ≤ 10000000 ∧ xs.length = m) := ⟨hx, hK, hm⟩
  clear h hr hE hx hK hm
  go_enter Try.func19, Try.ntmps19
  go_wp2_with fail
  refine HT.out.mono ?_
  rintro e w1 ⟨rfl, ⟨vt1, p1, nt1⟩, k1⟩
  have hw : IntKind.i64.wrap (n + 1) = n + 1 := by rw [IntKind.wrap_i64]; omega
  obtain ⟨c0, c1, c2, c3, c4⟩ := p1.pb.cells
  have f2 := p1.pb.frozen 2
  have H1 : Hid (Ps g D w1 n K (E ++ [⟨1, node, tv0⟩]) vs vt1 ∧ Nb W vt vt1 ∧ Kp (fun k => k = g ∨ vt.ownBlock = some k) W w1) := ⟨p1, nt1, k1⟩
  clear p1 nt1 k1
  go_wp2_with fail
  have p2 := H1.out.1.nodes (n + 1)
  obtain ⟨p3, r3⟩ := row_one p2 (lvV g node) (.lv node) (.lv node)
  have hsz : (w1.setCell ⟨g, 2, none⟩ (.int .i64 (n + 1))).heap.size = w1.heap.size := by show (w1.heap.modify g _).size = _; rw [Array.size_modify]
  rw [hsz] at r3 p3
  have k2 : Kp (fun k => k = g ∨ vs.ownBlock = some k ∨ vt.ownBlock = some k) W ((w1.setCell ⟨g, 2, none⟩ (.int .i64 (n + 1))).alloc (.cells #[lvV g node] 56)) :=
    ((H1.out.2.2.sub (fun k h => h.elim .inl (fun h => .inr (.inr h)))).step (Kp.set w1 g 2 (.int .i64 (n + 1))) (fun k _ e => .inl e)).alloc _
  obtain ⟨W3, hW3⟩ : ∃ W3, (w1.setCell ⟨g, 2, none⟩ (.int .i64 (n + 1))).alloc (.cells #[lvV g node] 56) = W3 := ⟨_, rfl⟩
  have hs3 : W3.heap.size = w1.heap.size + 1 := by rw [← hW3, World.size_alloc, hsz]
  rw [hW3] at p3 r3 k2
  have HX : Hid (Calls Try.prog 26 #[pt g, .slice (some ⟨w1.heap.size, 0, none⟩) 1 1] W3 fun e w' => e = .returned (.int .i64 1) ∧ (∃ vs', Ps g (Dn D w1.heap.size W3.heap.size) w' (n + 1) ([.lv node] ++ K) (E ++ [⟨1, node, tv0⟩]) vs' vt1 ∧ Nb W3 vs vs') ∧ Kp (fun k => k = g ∨ vs.ownBlock = some k) W3 w') := expect_ps p3 _ [lvV g node] 1 1 [.lv node] rfl r3 (by show 1 ≤ 1000000; decide) (by have := HB.out.2.1; omega)
  have H3 : Hid (Kp (fun k => k = g ∨ vs.ownBlock = some k ∨ vt.ownBlock = some k) W W3 ∧ W3.heap.size = w1.heap.size + 1) := ⟨k2, hs3⟩
  rw [hW3]
  clear p2 p3 r3 k2 hs3 hW3 hsz c0 c1 c2 c3 c4 f2 hw
  refine HX.out.mono ?_
  rintro e w4 ⟨rfl, ⟨vs4, p4, ns4⟩, k4⟩
  have k5 : Kp (fun k => k = g ∨ vs.ownBlock = some k ∨ vt.ownBlock = some k) W w4 := H3.out.1.step k4 (fun k _ h => h.elim .inl (fun h => .inr (.inl h)))
  have r5 : Row g (Dn D w1.heap.size W3.heap.size) w4 ao xs r := by
    have hr := HR.out.1
    have hD : ∀ k o, D k → W.heap[k]? = some o → w4.heap[k]? = some o := fun k o hk ho => k5.blk ho (by
      rintro (e | e | e)
      · exact HR.out.2.dg (e ▸ hk)
      · exact HR.out.2.ds k e hk
      · exact HR.out.2.dt k e hk)
    have r1 := hr.turn hD
    exact ⟨r1.lv, r1.al.mono (fun v x hx => hx.turn (fun _ h => .inl h) (fun _ _ _ h => h)), fun a ha => .inl (r1.da a ha)⟩
  have HY : Hid (Calls Try.prog 26 #[pt g, .slice ao m cap] w4 fun e w' => e = .returned (.int .i64 1) ∧ (∃ vs', Ps g (Dn D w1.heap.size W3.heap.size) w' (n + 1) (r ++ ([.lv node] ++ K)) (E ++ [⟨1, node, tv0⟩]) vs' vt1 ∧ Nb w4 vs4 vs') ∧ Kp (fun k => k = g ∨ vs4.ownBlock = some k) w4 w') := expect_ps p4 ao xs m cap r HB.out.2.2 r5 (by have := HB.out.1; omega) (by have := HB.out.2.1; simp; omega)
  have H4 : Hid (Kp (fun k => k = g ∨ vs.ownBlock = some k ∨ vt.ownBlock = some k) W w4 ∧ Nb W3 vs vs4) := ⟨k5, ns4⟩
  clear p4 ns4 k4 k5 r5 HX
  go_wp2_with fail
  refine HY.out.mono ?_
  rintro e w6 ⟨rfl, ⟨vs6, p6, ns6⟩, k6⟩
  have hWs := H3.out.1.size
  have nt1 := H1.out.2.1
  have n4 : Nb W vs vs4 := (Nb.refl W vs).trans H4.out.2 hWs
  have HG : Hid (Gone g D vs vt W w6 (n + 1) (r ++ .lv node :: K) (E ++ [⟨1, node, tv0⟩])) :=
    ⟨_, vs6, vt1, p6, H4.out.1.step k6 (fun k hk h => own_step n4 nt1 k hk (h.elim .inl (fun h => .inr (.inl h)))), n4.trans ns6 H4.out.1.size, nt1, fun k h => .inl h, fun k h => h.imp id (fun h => Nat.le_trans H1.out.2.2.size h.1)⟩
  clear p6 ns6 k6 n4 nt1 hWs
  go_wp2_with fail
  go_ret
  exact ⟨rfl, HG.out⟩

set_option maxHeartbeats 400000 in
/-- A node's end. -/
theorem leave_ps {g : Nat} {D : Nat → Prop} {W : World} {n : Int} {K : List It} {E : List Ev} {vs vt : Value} (h : Ps g D W n K E vs vt) (node : Int) (t : Tv) (hn0 : 0 ≤ n) (hn : n ≤ 100000000) (hE : E.length ≤ 1000000000) :
    Calls Try.prog 27 #[.agg #[pt g, .int .u8 node], t.v] W fun e w' => e = .returned (.int .i64 1) ∧ Gone g D vs vt W w' (n - 1) K (E ++ [⟨3, node, tv0⟩]) := by
  obtain ⟨W1, e1⟩ : ∃ W1, (W.alloc (.cells #[pt g, .int .u8 node] 62)).alloc (.cells #[.int .u8 t.k, .string t.t, .int .i64 t.a, .int .i64 t.l, .int .i64 t.c, .int .i64 t.f] 35) = W1 := ⟨_, rfl⟩
  have hb : Below W.heap.size W W1 := by rw [← e1]; exact ((Below.refl _ _).alloc (Nat.le_refl _) _).alloc (by rw [World.size_alloc]; exact Nat.le_succ _) _
  have m0 : W1.heap[W.heap.size]? = some (.cells #[pt g, .int .u8 node] 62 (0, 0)) := by rw [← e1]; exact alloc_at' (new_at _ _) _
  have p1 := h.fresh hb
  have HT : Hid (Calls Try.prog 24 #[pt g, .agg #[.int .u8 3, .int .u8 node, .int .u8 0, .string ⟨#[]⟩, .int .i64 0, .int .i64 0, .int .i64 0, .int .i64 0]] W1 fun e w' => e = .returned (.tuple #[]) ∧ (∃ vt', Ps g (Dn D W.heap.size W1.heap.size) w' n K (E ++ [⟨3, node, tv0⟩]) vs vt' ∧ Nb W1 vt vt') ∧ Kp (fun k => k = g ∨ vt.ownBlock = some k) W1 w') := tell_ps p1 ⟨3, node, tv0⟩ hE
  have H0 : Hid (Below W.heap.size W W1 ∧ W1.heap[W.heap.size]? = some (.cells #[pt g, .int .u8 node] 62 (0, 0)) ∧ (∀ k, k = g ∨ vt.ownBlock = some k → k ≠ W.heap.size)) := ⟨hb, m0, by
    rintro k (e | e)
    · have := h.pb.lt; omega
    · have := h.ev.lt k e; omega⟩
  have c0 : W1.cell? ⟨W.heap.size, 0, none⟩ = some (pt g) := blk_cell m0 rfl
  have c1 : W1.cell? ⟨W.heap.size, 1, none⟩ = some (.int .u8 node) := blk_cell m0 rfl
  have HE : Hid ((W.alloc (.cells #[pt g, .int .u8 node] 62)).alloc (.cells #[.int .u8 t.k, .string t.t, .int .i64 t.a, .int .i64 t.l, .int .i64 t.c, .int .i64 t.f] 35) = W1) := e1
  clear h hE hb m0 p1 e1 c0 c1
  dsimp only [Tv.v]
  go_enter Try.func27, Try.ntmps27
  go_wp2_with fail
  rw [HE.out]
  refine HT.out.mono ?_
  rintro e w2 ⟨rfl, ⟨vt2, p2, nt2⟩, k2⟩
  have hw : IntKind.i64.wrap (n - 1) = n - 1 := by rw [IntKind.wrap_i64]; omega
  obtain ⟨c0, c1, c2, c3, c4⟩ := p2.pb.cells
  have f2 := p2.pb.frozen 2
  have d0 : w2.cell? ⟨W.heap.size, 0, none⟩ = some (pt g) := blk_cell (k2.blk H0.out.2.1 (fun h => H0.out.2.2 _ h rfl)) rfl
  have HG : Hid (Gone g D vs vt W (w2.setCell ⟨g, 2, none⟩ (.int .i64 (n - 1))) (n - 1) K (E ++ [⟨3, node, tv0⟩])) := by
    refine Gone.fresh H0.out.1 ⟨_, vs, vt2, p2.nodes (n - 1), (k2.sub (fun k h => h.elim .inl (fun h => .inr (.inr h)))).step (Kp.set w2 g 2 _) (fun k _ e => .inl e), Nb.refl _ _, nt2, fun _ h => h, fun _ h => .inl h⟩
  clear p2 nt2 k2
  go_wp2_with fail
  go_ret
  exact ⟨rfl, HG.out⟩

end Go.Proofs.Ytkglkhijngpgiaa
