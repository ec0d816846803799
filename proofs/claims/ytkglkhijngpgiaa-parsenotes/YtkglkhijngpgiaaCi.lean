import Derived.Test.YtkglkhijngpgiaaCh
import Derived.Laws.EntriesVeiled
set_option linter.unusedVariables false
set_option linter.unusedSimpArgs false
namespace Go.Proofs.Ytkglkhijngpgiaa
open Go.RowKit

/-! Rows, as a row of the grammar makes them: all in new blocks. -/
/-- The blocks from lo on. -/
def Fr0 (lo : Nat) (W : World) (k : Nat) : Prop := lo ≤ k ∧ k < W.heap.size
/-- Made since lo. -/
abbrev RF (g lo : Nat) (W : World) (v : Value) (x : Fl) : Prop := RepF g (Fr0 lo W) W v x
abbrev RI (g lo : Nat) (W : World) (v : Value) (x : It) : Prop := Rep g (Fr0 lo W) W v x
theorem RF.up {g lo : Nat} {W W' : World} {v : Value} {x : Fl} (h : RF g lo W v x) (hb : Below W.heap.size W W') : RF g lo W' v x := h.turn (fun k hk => ⟨hk.1, Nat.lt_of_lt_of_le hk.2 hb.size⟩) (fun k o _ ho => blk_below ho hb)
theorem RI.up {g lo : Nat} {W W' : World} {v : Value} {x : It} (h : RI g lo W v x) (hb : Below W.heap.size W W') : RI g lo W' v x := h.turn (fun k hk => ⟨hk.1, Nat.lt_of_lt_of_le hk.2 hb.size⟩) (fun k o _ ho => blk_below ho hb)
theorem ls_new (W : World) (ts : List ByteArray) (cs : Array Value) (h : cs = (ts.map Value.string).toArray) : Ls (W.alloc (.cells cs 9)) (some ⟨W.heap.size, 0, none⟩) ts := by
  subst h
  intro j s hj
  refine ⟨_, _, rfl, ?_⟩
  rw [Nat.zero_add]
  exact blk_cell (new_at W _) (by simp [hj])
theorem below_new (W : World) (o : Obj) : Below W.heap.size W (W.alloc o) := (Below.refl _ _).alloc (Nat.le_refl _) _
/-- key(..), sign(..). -/
theorem key_new (g lo : Nat) (W : World) (ts : List ByteArray) (cs : Array Value) (n b : Nat) (hw : W.heap.size = b) (hcs : cs = (ts.map Value.string).toArray) (hn : ts.length = n) (h1 : ts.length ≤ 1000) (hlo : lo ≤ W.heap.size) :
    Calls Try.prog 20 #[.slice (some ⟨b, 0, none⟩) n n] (W.alloc (.cells cs 9)) fun r w' => ∃ c, r = .returned (wdV 2 (.slice (some ⟨c, 0, none⟩) n n)) ∧ RF g lo w' (wdV 2 (.slice (some ⟨c, 0, none⟩) n n)) (.wd 2 ts) ∧ Below W.heap.size W w' := by
  subst hn hw
  refine (key_any _ _ _ _ _ rfl).mono ?_
  rintro r w' ⟨rfl, rfl⟩
  exact ⟨_, rfl, .wd (ls_new W ts cs hcs) (fun a ha => by cases ha; exact ⟨hlo, by rw [World.size_alloc]; exact Nat.lt_succ_self _⟩) h1, below_new _ _⟩
theorem sign_new (g lo : Nat) (W : World) (ts : List ByteArray) (cs : Array Value) (n b : Nat) (hw : W.heap.size = b) (hcs : cs = (ts.map Value.string).toArray) (hn : ts.length = n) (h1 : ts.length ≤ 1000) (hlo : lo ≤ W.heap.size) :
    Calls Try.prog 22 #[.slice (some ⟨b, 0, none⟩) n n] (W.alloc (.cells cs 9)) fun r w' => ∃ c, r = .returned (wdV 6 (.slice (some ⟨c, 0, none⟩) n n)) ∧ RF g lo w' (wdV 6 (.slice (some ⟨c, 0, none⟩) n n)) (.wd 6 ts) ∧ Below W.heap.size W w' := by
  subst hn hw
  refine (sign_any _ _ _ _ _ rfl).mono ?_
  rintro r w' ⟨rfl, rfl⟩
  exact ⟨_, rfl, .wd (ls_new W ts cs hcs) (fun a ha => by cases ha; exact ⟨hlo, by rw [World.size_alloc]; exact Nat.lt_succ_self _⟩) h1, below_new _ _⟩

theorem begun_run (g : Nat) (p : Option Addr) (n c : Nat) (W : World) :
    Calls Try.prog 50 #[pt g, .slice p n c] W fun r w' => r = .returned (rwV (W.heap.size + 1) (W.heap.size + 1 + 1)) ∧ w' = ((W.alloc (.cells #[pt g] 40)).alloc (.cells #[.slice p n c] 47)).alloc (.cells #[alV W.heap.size (W.heap.size + 1)] 55) := by
  have hmf : ∀ (fn : Fn) (first cap : Array Value) (w : World), (Instr.makeFunc fn first cap).run Try.prog w = .ok (.func fn first cap) w := fun _ _ _ _ => rfl
  go_enter Try.func50, Try.ntmps50
  go_wp2_with fail
  go_ret
  exact ⟨rfl, rfl⟩
theorem many_run (g : Nat) (p : Option Addr) (n c : Nat) (W : World) :
    Calls Try.prog 39 #[pt g, .slice p n c] W fun r w' => r = .returned (agV g (rwV (W.heap.size + 1) (W.heap.size + 1 + 1))) ∧ w' = ((W.alloc (.cells #[pt g] 40)).alloc (.cells #[.slice p n c] 47)).alloc (.cells #[alV W.heap.size (W.heap.size + 1)] 55) := by
  have hmf : ∀ (fn : Fn) (first cap : Array Value) (w : World), (Instr.makeFunc fn first cap).run Try.prog w = .ok (.func fn first cap) w := fun _ _ _ _ => rfl
  go_enter Try.func39, Try.ntmps39
  go_wp2_with (go_at_call 50; refine (begun_run _ _ _ _ _).mono ?_; rintro r w1 ⟨rfl, rfl⟩)
  go_ret
  exact ⟨rfl, rfl⟩
theorem maybe_run (g : Nat) (p : Option Addr) (n c : Nat) (W : World) :
    Calls Try.prog 46 #[pt g, .slice p n c] W fun r w' => r = .returned (ocV g (rwV (W.heap.size + 1) (W.heap.size + 1 + 1))) ∧ w' = ((W.alloc (.cells #[pt g] 40)).alloc (.cells #[.slice p n c] 47)).alloc (.cells #[alV W.heap.size (W.heap.size + 1)] 55) := by
  have hmf : ∀ (fn : Fn) (first cap : Array Value) (w : World), (Instr.makeFunc fn first cap).run Try.prog w = .ok (.func fn first cap) w := fun _ _ _ _ => rfl
  go_enter Try.func46, Try.ntmps46
  go_wp2_with (go_at_call 50; refine (begun_run _ _ _ _ _).mono ?_; rintro r w1 ⟨rfl, rfl⟩)
  go_ret
  exact ⟨rfl, rfl⟩
theorem mayex_run (g f : Nat) (W : World) :
    Calls Try.prog 55 #[pt g, mtV g f] W fun r w' => r = .returned (ocV g (exV W.heap.size)) ∧ w' = W.alloc (.cells #[mtV g f] 56) := by
  have hmf : ∀ (fn : Fn) (first cap : Array Value) (w : World), (Instr.makeFunc fn first cap).run Try.prog w = .ok (.func fn first cap) w := fun _ _ _ _ => rfl
  go_enter Try.func55, Try.ntmps55
  go_wp2_with fail
  go_ret
  exact ⟨rfl, rfl⟩

/-- The row that a closure holds, new. -/
theorem rowb_new {g lo : Nat} {W : World} (xs : List Value) (r : List Fl) (hd : ∃ k ts rest, r = Fl.wd k ts :: rest) (hl : r.length ≤ 1000) (h : Al (RF g lo W) xs r) (hlo : lo ≤ W.heap.size) (V W' : World) (hV : W.alloc (.cells xs.toArray 56) = V)
    (hW : ((V.alloc (.cells #[pt g] 40)).alloc (.cells #[.slice (some ⟨W.heap.size, 0, none⟩) xs.length xs.length] 47)).alloc (.cells #[alV V.heap.size (V.heap.size + 1)] 55) = W') :
    RepP g (Fr0 lo W') W' (rwV (V.heap.size + 1) (V.heap.size + 1 + 1)) (.row r) ∧ Below W.heap.size W W' := by
  have hVs : V.heap.size = W.heap.size + 1 := by rw [← hV, World.size_alloc]
  have hWs : W'.heap.size = V.heap.size + 3 := by rw [← hW]; simp only [World.size_alloc]
  have hb0 : Below W.heap.size W V := by rw [← hV]; exact below_new _ _
  have hb1 : Below V.heap.size V W' := by
    rw [← hW]
    exact ((below_new _ _).alloc (by rw [World.size_alloc]; exact Nat.le_succ _) _).alloc (by simp only [World.size_alloc]; omega) _
  have hb : Below W.heap.size W W' := hb0.trans (hb1.mono hb0.size)
  have x3 : W'.heap[V.heap.size]? = some (.cells #[pt g] 40 (0, 0)) := by rw [← hW]; exact alloc_at' (alloc_at' (new_at _ _) _) _
  have x1 : W'.heap[V.heap.size + 1]? = some (.cells #[.slice (some ⟨W.heap.size, 0, none⟩) xs.length xs.length] 47 (0, 0)) := by
    rw [← hW]
    have := new_at (V.alloc (.cells #[pt g] 40)) (.cells #[.slice (some ⟨W.heap.size, 0, none⟩) xs.length xs.length] 47)
    rw [World.size_alloc] at this
    exact alloc_at' this _
  have x2 : W'.heap[V.heap.size + 1 + 1]? = some (.cells #[alV V.heap.size (V.heap.size + 1)] 55 (0, 0)) := by
    rw [← hW]
    have := new_at ((V.alloc (.cells #[pt g] 40)).alloc (.cells #[.slice (some ⟨W.heap.size, 0, none⟩) xs.length xs.length] 47)) (.cells #[alV V.heap.size (V.heap.size + 1)] 55)
    rw [World.size_alloc, World.size_alloc] at this
    exact this
  refine ⟨.row ⟨⟨_, _, xs, x1, ?_, h.mono (fun v x hx => RF.up hx hb), ?_⟩, x3, ⟨by omega, by omega⟩, ⟨by omega, by omega⟩, hl⟩ x2 ⟨by omega, by omega⟩ hd, hb⟩
  · intro j s hj
    obtain ⟨x, _, hx⟩ := h.at hj
    refine ⟨(Rep.fl hx).isFn, _, _, rfl, ?_⟩
    have hc : V.heap[W.heap.size]? = some (.cells xs.toArray 56 (0, 0)) := by rw [← hV]; exact new_at _ _
    exact blk_cell (blk_below hc hb1) (by rw [Nat.zero_add]; simpa using hj)
  · intro a ha
    cases ha
    exact ⟨hlo, by show W.heap.size < _; omega⟩
theorem many_new {g lo : Nat} {W : World} (xs : List Value) (n : Nat) (r : List Fl) (hd : ∃ k ts rest, r = Fl.wd k ts :: rest) (hl : r.length ≤ 1000) (h : Al (RF g lo W) xs r) (hn : xs.length = n) (hlo : lo ≤ W.heap.size) (b : Nat) (hw : W.heap.size = b) :
    Calls Try.prog 39 #[pt g, .slice (some ⟨b, 0, none⟩) n n] (W.alloc (.cells xs.toArray 56)) fun e w' => ∃ b1 b2, e = .returned (agV g (rwV b1 b2)) ∧ RI g lo w' (agV g (rwV b1 b2)) (.again (.row r)) ∧ Below W.heap.size W w' := by
  subst hn hw
  refine (many_run _ _ _ _ _).mono ?_
  rintro e w' ⟨rfl, hw⟩
  obtain ⟨h1, h2⟩ := rowb_new xs r hd hl h hlo _ _ rfl hw.symm
  exact ⟨_, _, rfl, .again h1, h2⟩
theorem maybe_new {g lo : Nat} {W : World} (xs : List Value) (n : Nat) (r : List Fl) (hd : ∃ k ts rest, r = Fl.wd k ts :: rest) (hl : r.length ≤ 1000) (h : Al (RF g lo W) xs r) (hn : xs.length = n) (hlo : lo ≤ W.heap.size) (b : Nat) (hw : W.heap.size = b) :
    Calls Try.prog 46 #[pt g, .slice (some ⟨b, 0, none⟩) n n] (W.alloc (.cells xs.toArray 56)) fun e w' => ∃ b1 b2, e = .returned (ocV g (rwV b1 b2)) ∧ RI g lo w' (ocV g (rwV b1 b2)) (.once (.row r)) ∧ Below W.heap.size W w' := by
  subst hn hw
  refine (maybe_run _ _ _ _ _).mono ?_
  rintro e w' ⟨rfl, hw⟩
  obtain ⟨h1, h2⟩ := rowb_new xs r hd hl h hlo _ _ rfl hw.symm
  exact ⟨_, _, rfl, .once h1, h2⟩
theorem mayex_new {g lo : Nat} (W : World) (m : M) (f : Nat) (hf : m.id = f) (hlo : lo ≤ W.heap.size) :
    Calls Try.prog 55 #[pt g, mtV g f] W fun e w' => ∃ b, e = .returned (ocV g (exV b)) ∧ RI g lo w' (ocV g (exV b)) (.once (.ex m)) ∧ Below W.heap.size W w' := by
  subst hf
  refine (mayex_run _ _ _).mono ?_
  rintro e w' ⟨rfl, rfl⟩
  exact ⟨_, rfl, .once (.ex (new_at _ _) ⟨hlo, by rw [World.size_alloc]; exact Nat.lt_succ_self _⟩), below_new _ _⟩

/-- A row is handed to open, to expect. -/
theorem row_new {g : Nat} {D : Nat → Prop} {W V : World} {n : Int} {K : List It} {E : List Ev} {vs vt : Value} (h : Ps g D W n K E vs vt) (hb : Below W.heap.size W V) (xs : List Value) (r : List It) (hr : Al (RI g W.heap.size V) xs r) (X : World) (hX : V.alloc (.cells xs.toArray 56) = X) :
    Ps g (Dn D W.heap.size X.heap.size) X n K E vs vt ∧ Row g (Dn D W.heap.size X.heap.size) X (some ⟨V.heap.size, 0, none⟩) xs r ∧ Below W.heap.size W X := by
  have hb1 : Below V.heap.size V X := by rw [← hX]; exact below_new _ _
  have hs : X.heap.size = V.heap.size + 1 := by rw [← hX, World.size_alloc]
  have hb2 : Below W.heap.size W X := hb.trans (hb1.mono hb.size)
  refine ⟨h.fresh hb2, ⟨fun j s hj => ?_, hr.mono (fun v x hx => (RI.up hx hb1).turn (fun k hk => .inr hk) (fun _ _ _ h => h)), ?_⟩, hb2⟩
  · obtain ⟨x, _, hx⟩ := hr.at hj
    refine ⟨hx.isFn, _, _, rfl, ?_⟩
    rw [← hX]
    exact blk_cell (new_at V _) (by rw [Nat.zero_add]; simpa using hj)
  · intro a ha
    cases ha
    exact .inr ⟨hb.size, by show V.heap.size < _; omega⟩
theorem open_new {g : Nat} {D : Nat → Prop} {W V : World} {n : Int} {K : List It} {E : List Ev} {vs vt : Value} (h : Ps g D W n K E vs vt) (hb : Below W.heap.size W V) (node : Int) (xs : List Value) (m : Nat) (r : List It) (hr : Al (RI g W.heap.size V) xs r) (hm : xs.length = m) (hx : xs.length ≤ 1000) (hn0 : 0 ≤ n) (hn : n ≤ 100000000) (hK : K.length ≤ 10000000) (hE : E.length ≤ 1000000000) (b : Nat) (hw : V.heap.size = b) :
    Calls Try.prog 19 #[pt g, .int .u8 node, .slice (some ⟨b, 0, none⟩) m m] (V.alloc (.cells xs.toArray 56)) fun e w' => e = .returned (.int .i64 1) ∧ Gone g D vs vt W w' (n + 1) (r ++ .lv node :: K) (E ++ [⟨1, node, tv0⟩]) := by
  subst hw
  obtain ⟨h1, h2, h3⟩ := row_new h hb xs r hr _ rfl
  refine (open_ps h1 node _ xs m m r hm h2 hx hn0 hn hK hE).mono ?_
  rintro e w' ⟨rfl, hG⟩
  exact ⟨rfl, Gone.fresh h3 hG⟩
theorem expect_new {g : Nat} {D : Nat → Prop} {W V : World} {n : Int} {K : List It} {E : List Ev} {vs vt : Value} (h : Ps g D W n K E vs vt) (hb : Below W.heap.size W V) (xs : List Value) (m : Nat) (r : List It) (hr : Al (RI g W.heap.size V) xs r) (hm : xs.length = m) (hx : xs.length ≤ 1000) (hK : K.length ≤ 10000000) (b : Nat) (hw : V.heap.size = b) :
    Calls Try.prog 26 #[pt g, .slice (some ⟨b, 0, none⟩) m m] (V.alloc (.cells xs.toArray 56)) fun e w' => e = .returned (.int .i64 1) ∧ Gone g D vs vt W w' n (r ++ K) E := by
  subst hw
  obtain ⟨h1, h2, h3⟩ := row_new h hb xs r hr _ rfl
  refine (expect_gone h1 _ xs m m r hm h2 (by omega) (by omega)).mono ?_
  rintro e w' ⟨rfl, hG⟩
  exact ⟨rfl, Gone.fresh h3 hG⟩

end Go.Proofs.Ytkglkhijngpgiaa
