import Derived.Test.YtkglkhijngpgiaaGreatG2
set_option linter.unusedVariables false
set_option linter.unusedSimpArgs false
namespace Go.Proofs.YtkglkhijngpgiaaGreat
open Go.RowKit

/-! What a state makes of a token. -/
def Tv.is (t : Tv) (l : List UInt8) : Bool := t.t.toList == l
def Fl.takes (t : Tv) : Fl → Bool
  | .wd k ts => t.k == k && has ts t.t
  | .nm => t.k == 1
  | .cs => t.k == 3 || t.k == 4 || t.k == 5
  | .mt _ => false
/-- Which factor a token begins. -/
def facN (t : Tv) : Int :=
  if t.k == 6 && t.is [45] then 25 else if t.k == 2 && t.is [110, 111, 116] then 26 else if t.k == 6 && t.is [40] then 27
  else if t.k == 3 || t.k == 4 || t.k == 5 then 32 else if t.k == 1 then 28 else 0
def Dk.pick (t : Tv) : Dk → Option M
  | .declaration => if t.is [118, 97, 114] then some .variables else if t.is [99, 111, 110, 115, 116] then some .constants else if t.is [112, 114, 111, 99] then some .procedure else none
  | .bracket => if t.is [40] then some .params else none
  | .detail => if t.is [91] then some .index else if t.is [46] then some .selection else if t.is [40] then some .args else none
def Pk.pick (t : Tv) : Pk → Option It
  | .fn d => (d.pick t).map (fun m => .fl (.mt m))
  | .row r => if (r.head?.elim false (fun x => x.takes t)) then some (.all r) else none
  | .ex m => if facN t == 0 then none else some (.fl (.mt m))
/-- What comes again. -/
def agR (p : Pk) : Option It → List It
  | none => []
  | some i => [i, .again p]
/-- What a pick hands back. -/
def PV (g : Nat) (D : Nat → Prop) (W : World) (u : Value) : Option It → Prop
  | none => u = .nilFunc
  | some i => Rep g D W u i

theorem rep_mt {g : Nat} {D : Nat → Prop} {W : World} (m : M) (f : Nat) (hf : m.id = f) : Rep g D W (.func (.func f) #[pt g] #[]) (.fl (.mt m)) := by subst hf; exact .fl (.mt m)
theorem tok_below (W : World) (t : Tv) : Below W.heap.size W (W.alloc (.cells #[.int .u8 t.k, .string t.t, .int .i64 t.a, .int .i64 t.l, .int .i64 t.c, .int .i64 t.f] 35)) := below_new _ _
set_option maxHeartbeats 1000000 in
theorem bracket_any (g : Nat) (D : Nat → Prop) (t : Tv) (W : World) : Calls Tryz.prog 68 #[pt g, t.v] W fun r w' => ∃ u, r = .returned u ∧ PV g D W u (Pk.pick t (.fn .bracket)) ∧ Below W.heap.size W w' := by
  have hmf : ∀ (fn : Fn) (first cap : Array Value) (w : World), (Instr.makeFunc fn first cap).run Tryz.prog w = .ok (.func fn first cap) w := fun _ _ _ _ => rfl
  obtain ⟨o, ho⟩ : ∃ o, Pk.pick t (.fn .bracket) = o := ⟨_, rfl⟩
  have HO : Hid (Pk.pick t (.fn .bracket) = o) := ho
  rw [ho]
  clear ho
  dsimp only [Tv.v]
  go_enter Tryz.func68, Tryz.ntmps68
  go_wp2_with fail
  all_goals (
    go_ret
    refine ⟨_, rfl, ?_, tok_below _ _⟩
    rw [← HO.out]
    clear HO hmf
    simp_all [Pk.pick, Dk.pick, Tv.is, PV]
    try exact rep_mt _ _ rfl)
set_option maxHeartbeats 1000000 in
theorem declaration_any (g : Nat) (D : Nat → Prop) (t : Tv) (W : World) : Calls Tryz.prog 40 #[pt g, t.v] W fun r w' => ∃ u, r = .returned u ∧ PV g D W u (Pk.pick t (.fn .declaration)) ∧ Below W.heap.size W w' := by
  have hmf : ∀ (fn : Fn) (first cap : Array Value) (w : World), (Instr.makeFunc fn first cap).run Tryz.prog w = .ok (.func fn first cap) w := fun _ _ _ _ => rfl
  obtain ⟨o, ho⟩ : ∃ o, Pk.pick t (.fn .declaration) = o := ⟨_, rfl⟩
  have HO : Hid (Pk.pick t (.fn .declaration) = o) := ho
  rw [ho]
  clear ho
  dsimp only [Tv.v]
  go_enter Tryz.func40, Tryz.ntmps40
  go_wp2_with fail
  all_goals (
    go_ret
    refine ⟨_, rfl, ?_, tok_below _ _⟩
    rw [← HO.out]
    clear HO hmf
    simp_all [Pk.pick, Dk.pick, Tv.is, PV]
    try exact rep_mt _ _ rfl)
set_option maxHeartbeats 1000000 in
theorem detail_any (g : Nat) (D : Nat → Prop) (t : Tv) (W : World) : Calls Tryz.prog 84 #[pt g, t.v] W fun r w' => ∃ u, r = .returned u ∧ PV g D W u (Pk.pick t (.fn .detail)) ∧ Below W.heap.size W w' := by
  have hmf : ∀ (fn : Fn) (first cap : Array Value) (w : World), (Instr.makeFunc fn first cap).run Tryz.prog w = .ok (.func fn first cap) w := fun _ _ _ _ => rfl
  obtain ⟨o, ho⟩ : ∃ o, Pk.pick t (.fn .detail) = o := ⟨_, rfl⟩
  have HO : Hid (Pk.pick t (.fn .detail) = o) := ho
  rw [ho]
  clear ho
  dsimp only [Tv.v]
  go_enter Tryz.func84, Tryz.ntmps84
  go_wp2_with fail
  all_goals (
    go_ret
    refine ⟨_, rfl, ?_, tok_below _ _⟩
    rw [← HO.out]
    clear HO hmf
    simp_all [Pk.pick, Dk.pick, Tv.is, PV]
    try exact rep_mt _ _ rfl)

set_option maxHeartbeats 1000000 in
/-- factor(t). -/
theorem factorN_any (t : Tv) (W : World) : Calls Tryz.prog 98 #[t.v] W fun r w' => r = .returned (.int .u8 (facN t)) ∧ Below W.heap.size W w' := by
  obtain ⟨z, hz⟩ : ∃ z, facN t = z := ⟨_, rfl⟩
  obtain ⟨cb, hcb⟩ : ∃ cb, (t.k == 3 || t.k == 4 || t.k == 5) = cb := ⟨_, rfl⟩
  have HZ : Hid (facN t = z) := hz
  have HK : Hid ((t.k == 3 || t.k == 4 || t.k == 5) = cb) := hcb
  have HC : Hid (∀ V, Calls Tryz.prog 104 #[t.v] V fun r w' => r = .returned (.int .i64 (dd cb)) ∧ Below V.heap.size V w') := fun V => by rw [← hcb]; exact constant_any t V
  rw [hz]
  clear hcb hz
  obtain ⟨k, tt, a, l, c, f⟩ := t
  have HA : Hid (Below W.heap.size W (W.alloc (.cells #[.int .u8 k, .string tt, .int .i64 a, .int .i64 l, .int .i64 c, .int .i64 f] 35))) := below_new _ _
  dsimp only [Tv.v] at HC HK ⊢
  by_cases k6 : k = 6
  · subst k6
    cases cb
    · have e0 : dd false = 0 := rfl
      rw [e0] at HC
      clear e0
      go_enter Tryz.func98, Tryz.ntmps98
      go_wp2_with (go_at_call 104; refine (HC.out _).mono ?_; rintro r w1 ⟨rfl, hb1⟩; have HB : Hid (Below W.heap.size W w1) := HA.out.trans (hb1.mono HA.out.size); have q0 : w1.cell? ⟨W.heap.size, 0, none⟩ = some (.int .u8 6) := blk_cell (blk_below (new_at W _) hb1) rfl; clear hb1)
      all_goals (
        go_ret
        refine ⟨?_, by first | exact HB.out | exact below_new _ _⟩
        have hz := HZ.out
        have hk := HK.out
        clear HZ HK HC HA
        simp_all [facN, Tv.is]
        try omega)
    · have e0 : dd true = 2 := rfl
      rw [e0] at HC
      clear e0
      go_enter Tryz.func98, Tryz.ntmps98
      go_wp2_with (go_at_call 104; refine (HC.out _).mono ?_; rintro r w1 ⟨rfl, hb1⟩; have HB : Hid (Below W.heap.size W w1) := HA.out.trans (hb1.mono HA.out.size); have q0 : w1.cell? ⟨W.heap.size, 0, none⟩ = some (.int .u8 6) := blk_cell (blk_below (new_at W _) hb1) rfl; clear hb1)
      all_goals (
        go_ret
        refine ⟨?_, by first | exact HB.out | exact below_new _ _⟩
        have hz := HZ.out
        have hk := HK.out
        clear HZ HK HC HA
        simp_all [facN, Tv.is]
        try omega)
  by_cases k2 : k = 2
  · subst k2
    cases cb
    · have e0 : dd false = 0 := rfl
      rw [e0] at HC
      clear e0
      go_enter Tryz.func98, Tryz.ntmps98
      go_wp2_with (go_at_call 104; refine (HC.out _).mono ?_; rintro r w1 ⟨rfl, hb1⟩; have HB : Hid (Below W.heap.size W w1) := HA.out.trans (hb1.mono HA.out.size); have q0 : w1.cell? ⟨W.heap.size, 0, none⟩ = some (.int .u8 2) := blk_cell (blk_below (new_at W _) hb1) rfl; clear hb1)
      all_goals (
        go_ret
        refine ⟨?_, by first | exact HB.out | exact below_new _ _⟩
        have hz := HZ.out
        have hk := HK.out
        clear HZ HK HC HA
        simp_all [facN, Tv.is]
        try omega)
    · have e0 : dd true = 2 := rfl
      rw [e0] at HC
      clear e0
      go_enter Tryz.func98, Tryz.ntmps98
      go_wp2_with (go_at_call 104; refine (HC.out _).mono ?_; rintro r w1 ⟨rfl, hb1⟩; have HB : Hid (Below W.heap.size W w1) := HA.out.trans (hb1.mono HA.out.size); have q0 : w1.cell? ⟨W.heap.size, 0, none⟩ = some (.int .u8 2) := blk_cell (blk_below (new_at W _) hb1) rfl; clear hb1)
      all_goals (
        go_ret
        refine ⟨?_, by first | exact HB.out | exact below_new _ _⟩
        have hz := HZ.out
        have hk := HK.out
        clear HZ HK HC HA
        simp_all [facN, Tv.is]
        try omega)
  · have k6' : (k == 6) = false := by simpa using k6
    have k2' : (k == 2) = false := by simpa using k2
    clear k6 k2
    cases cb
    · have e0 : dd false = 0 := rfl
      rw [e0] at HC
      clear e0
      go_enter Tryz.func98, Tryz.ntmps98
      go_wp2_with (go_at_call 104; refine (HC.out _).mono ?_; rintro r w1 ⟨rfl, hb1⟩; have HB : Hid (Below W.heap.size W w1) := HA.out.trans (hb1.mono HA.out.size); have q0 : w1.cell? ⟨W.heap.size, 0, none⟩ = some (.int .u8 k) := blk_cell (blk_below (new_at W _) hb1) rfl; clear hb1)
      all_goals (
        go_ret
        refine ⟨?_, by first | exact HB.out | exact below_new _ _⟩
        have hz := HZ.out
        have hk := HK.out
        clear HZ HK HC HA
        simp_all [facN, Tv.is]
        try omega)
    · have e0 : dd true = 2 := rfl
      rw [e0] at HC
      clear e0
      go_enter Tryz.func98, Tryz.ntmps98
      go_wp2_with (go_at_call 104; refine (HC.out _).mono ?_; rintro r w1 ⟨rfl, hb1⟩; have HB : Hid (Below W.heap.size W w1) := HA.out.trans (hb1.mono HA.out.size); have q0 : w1.cell? ⟨W.heap.size, 0, none⟩ = some (.int .u8 k) := blk_cell (blk_below (new_at W _) hb1) rfl; clear hb1)
      all_goals (
        go_ret
        refine ⟨?_, by first | exact HB.out | exact below_new _ _⟩
        have hz := HZ.out
        have hk := HK.out
        clear HZ HK HC HA
        simp_all [facN, Tv.is]
        try omega)

end Go.Proofs.YtkglkhijngpgiaaGreat
