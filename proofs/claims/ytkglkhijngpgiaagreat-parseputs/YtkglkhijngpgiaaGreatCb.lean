import Derived.Test.YtkglkhijngpgiaaGreatCa
set_option linter.unusedVariables false
set_option linter.unusedSimpArgs false
namespace Go.Proofs.YtkglkhijngpgiaaGreat
open Go.RowKit

/-! Small functions: which token stands there. -/
/-- The texts that a slice holds. -/
def Ls (W : World) (ao : Option Addr) (l : List ByteArray) : Prop := ∀ j s, l[j]? = some s → ∃ b off, ao = some ⟨b, off, none⟩ ∧ W.cell? ⟨b, off + j, none⟩ = some (.string s)
theorem Ls.kp {S : Nat → Prop} {w w' : World} {ao : Option Addr} {l : List ByteArray} (h : Ls w ao l) (hb : Kp S w w') (hS : ∀ a, ao = some a → ¬ S a.block) : Ls w' ao l := by
  intro j a ha
  obtain ⟨b, off, h1, c0⟩ := h j a ha
  have hlt := World.block_lt_of_cell? _ _ c0
  have e : w'.heap[b]? = w.heap[b]? := hb.block b hlt (hS _ h1)
  exact ⟨b, off, h1, (World.cell?_of_block (a := ⟨b, _, none⟩) e).trans c0⟩
theorem Ls.below {w w' : World} {ao : Option Addr} {l : List ByteArray} (h : Ls w ao l) (hb : Below w.heap.size w w') : Ls w' ao l := h.kp (Kp.of_below (S := fun _ => False) hb) (fun _ _ h => h)

def dd (b : Bool) : Int := if b then 2 else 0

theorem takenIf_any (b : Bool) (W : World) : Calls Tryz.prog 39 #[.bool b] W fun r w' => r = .returned (.int .i64 (dd b)) ∧ w' = W := by
  cases b
  · go_enter Tryz.func39, Tryz.ntmps39
    go_wp2_with fail
    go_ret
    exact ⟨rfl, rfl⟩
  · go_enter Tryz.func39, Tryz.ntmps39
    go_wp2_with fail
    go_ret
    exact ⟨rfl, rfl⟩

set_option maxHeartbeats 400000 in
theorem name_any (t : Tv) (W : World) : Calls Tryz.prog 30 #[t.v] W fun r w' => r = .returned (.int .i64 (dd (t.k == 1))) ∧ Below W.heap.size W w' := by
  dsimp only [Tv.v]
  go_enter Tryz.func30, Tryz.ntmps30
  go_wp2_with (go_at_call 39; refine (takenIf_any _ _).mono ?_; rintro r w1 ⟨rfl, rfl⟩)
  go_ret
  exact ⟨rfl, (Below.refl _ _).alloc (Nat.le_refl _) _⟩

set_option maxHeartbeats 400000 in
theorem constant_any (t : Tv) (W : World) : Calls Tryz.prog 104 #[t.v] W fun r w' => r = .returned (.int .i64 (dd (t.k == 3 || t.k == 4 || t.k == 5))) ∧ Below W.heap.size W w' := by
  dsimp only [Tv.v]
  by_cases h3 : (t.k == 3) = true
  · rw [h3]
    go_enter Tryz.func104, Tryz.ntmps104
    go_wp2_with (go_at_call 39; refine (takenIf_any _ _).mono ?_; rintro r w1 ⟨rfl, rfl⟩)
    go_ret
    exact ⟨rfl, (Below.refl _ _).alloc (Nat.le_refl _) _⟩
  · have h3' : (t.k == 3) = false := by simpa using h3
    clear h3
    by_cases h4 : (t.k == 4) = true
    · rw [h3', h4]
      go_enter Tryz.func104, Tryz.ntmps104
      go_wp2_with (go_at_call 39; refine (takenIf_any _ _).mono ?_; rintro r w1 ⟨rfl, rfl⟩)
      go_ret
      exact ⟨rfl, (Below.refl _ _).alloc (Nat.le_refl _) _⟩
    · have h4' : (t.k == 4) = false := by simpa using h4
      clear h4
      rw [h3', h4']
      go_enter Tryz.func104, Tryz.ntmps104
      go_wp2_with (go_at_call 39; refine (takenIf_any _ _).mono ?_; rintro r w1 ⟨rfl, rfl⟩)
      go_ret
      exact ⟨rfl, (Below.refl _ _).alloc (Nat.le_refl _) _⟩

theorem tl_inj {a b : ByteArray} (h : a.toList = b.toList) : a = b := by
  rw [ByteArray.toList_eq, ByteArray.toList_eq] at h
  have := Array.toList_inj.1 h
  cases a; cases b; simp_all
theorem tl_eq (a b : ByteArray) : (a.toList == b.toList) = decide (a = b) := by
  by_cases e : a = b
  · subst e; simp
  · have : ¬ a.toList = b.toList := fun h => e (tl_inj h)
    simp [e, this]
/-- Is a text among these? -/
def has (l : List ByteArray) (s : ByteArray) : Bool := l.any (fun x => decide (s = x))
theorem has_step (l : List ByteArray) (s x : ByteArray) (k : Nat) (hk : l[k]? = some x) (h : has (l.take k) s = false) : has (l.take (k + 1)) s = (s.toList == x.toList) := by
  rw [tl_eq]
  unfold has at h ⊢
  rw [List.take_add_one, hk, List.any_append, h]
  simp
theorem has_take (l : List ByteArray) (s : ByteArray) (k : Nat) (h : has (l.take k) s = true) : has l s = true := by
  unfold has at h ⊢
  simp only [List.any_eq_true] at h ⊢
  obtain ⟨x, hx, e⟩ := h
  exact ⟨x, List.mem_of_mem_take hx, e⟩

set_option maxHeartbeats 400000 in
theorem sIndex_any (ao : Option Addr) (l : List ByteArray) (cap : Nat) (s : ByteArray) (W : World) (h : Ls W ao l) (hl : l.length ≤ 1000) :
    Calls Tryz.prog 65 #[.slice ao l.length cap, .string s] W fun r w' => (∃ z : Int, r = .returned (.int .i64 z) ∧ (decide (0 ≤ z) = has l s)) ∧ w' = W := by
  have H : Hid (Ls W ao l) := h
  clear h
  go_enter Tryz.func65, Tryz.ntmps65
  go_wp2_with fail
  go_loopw [5, 8] (fun _ i wr => ∃ k : Nat, k ≤ l.length ∧ i = .int .i64 k ∧ Hid (has (l.take k) s = false) ∧ wr = W) (fun _ i _ => l.length - (intOf i).toNat)
  case atStart => exact ⟨0, Nat.zero_le _, rfl, by show has _ _ = _; simp [has], rfl⟩
  case round =>
    obtain ⟨k, hk, rfl, HI, rfl⟩ := hrel
    by_cases hlt : k < l.length
    · have q1 : (k : Int) < l.length := by omega
      have q0 : (0 : Int) ≤ k := by omega
      obtain ⟨x, hx⟩ : ∃ x, l[k]? = some x := ⟨_, List.getElem?_eq_getElem hlt⟩
      obtain ⟨b, off, rfl, hc⟩ := H.out k x hx
      have HS : Hid (has (l.take (k + 1)) s = (s.toList == x.toList)) := has_step l s x k hx HI.out
      have HT : Hid (has (l.take (k + 1)) s = true → has l s = true) := has_take l s _
      clear hx
      by_cases he : (s.toList == x.toList) = true
      · go_wp2_with fail
        go_ret
        exact ⟨⟨_, rfl, by rw [HT.out (HS.out.trans he)]; simp⟩, rfl⟩
      · have he' : (s.toList == x.toList) = false := by simpa using he
        clear he
        go_wp2_with fail
        exact ⟨⟨k + 1, hlt, by go_num, HS.out.trans he', trivial⟩, by simp [intOf]; omega⟩
    · obtain rfl : k = l.length := by omega
      have q1 : ¬ ((l.length : Int) < l.length) := by omega
      go_wp2_with fail
      go_ret
      refine ⟨⟨_, rfl, ?_⟩, rfl⟩
      have := HI.out
      rw [List.take_length] at this
      rw [this]
      rfl

theorem sContains_any (ao : Option Addr) (l : List ByteArray) (cap : Nat) (s : ByteArray) (W : World) (h : Ls W ao l) (hl : l.length ≤ 1000) :
    Calls Tryz.prog 49 #[.slice ao l.length cap, .string s] W fun r w' => r = .returned (.bool (has l s)) ∧ w' = W := by
  have H : Hid (Calls Tryz.prog 65 #[.slice ao l.length cap, .string s] W fun r w' => (∃ z : Int, r = .returned (.int .i64 z) ∧ (decide (0 ≤ z) = has l s)) ∧ w' = W) := sIndex_any ao l cap s W h hl
  clear h
  generalize has l s = b at *
  go_enter Tryz.func49, Tryz.ntmps49
  go_wp2_with (go_at_call 65; refine H.out.mono ?_; rintro r w1 ⟨⟨z, rfl, hz⟩, rfl⟩; subst hz)
  go_ret
  exact ⟨by simp, rfl⟩

/-- A word or a sign stands there. -/
theorem stand_any (k : Int) (ao : Option Addr) (l : List ByteArray) (cap : Nat) (t : Tv) (W : World) (h : Ls W ao l) (hl : l.length ≤ 1000) :
    Calls Tryz.prog 38 #[.agg #[.int .u8 k, .slice ao l.length cap], t.v] W fun r w' => r = .returned (.int .i64 (dd (t.k == k && has l t.t))) ∧ Below W.heap.size W w' := by
  have H : Hid (∀ V, Below W.heap.size W V → Calls Tryz.prog 49 #[.slice ao l.length cap, .string t.t] V fun r w' => r = .returned (.bool (has l t.t)) ∧ w' = V) := fun V hb => sContains_any ao l cap t.t V (h.below hb) hl
  clear h
  dsimp only [Tv.v]
  generalize has l t.t = b at *
  have HA : Hid (Below W.heap.size W ((W.alloc (.cells #[.int .u8 k, .slice ao l.length cap] 80)).alloc (.cells #[.int .u8 t.k, .string t.t, .int .i64 t.a, .int .i64 t.l, .int .i64 t.c, .int .i64 t.f] 35))) := ((Below.refl _ _).alloc (Nat.le_refl _) _).alloc (by rw [World.size_alloc]; exact Nat.le_succ _) _
  by_cases hk : (t.k == k) = true
  · rw [hk, Bool.true_and]
    go_enter Tryz.func38, Tryz.ntmps38
    go_wp2_with (first | (go_at_call 49; refine (H.out _ HA.out).mono ?_; rintro r w1 ⟨rfl, rfl⟩) | (go_at_call 39; refine (takenIf_any _ _).mono ?_; rintro r w1 ⟨rfl, rfl⟩))
    go_ret
    exact ⟨rfl, HA.out⟩
  · have hk' : (t.k == k) = false := by simpa using hk
    clear hk
    rw [hk', Bool.false_and]
    go_enter Tryz.func38, Tryz.ntmps38
    go_wp2_with (first | (go_at_call 39; refine (takenIf_any _ _).mono ?_; rintro r w1 ⟨rfl, rfl⟩))
    go_ret
    exact ⟨rfl, HA.out⟩

/-- key, sign. -/
abbrev wdV (k : Int) (v : Value) : Value := .func (.func 38) #[.agg #[.int .u8 k, v]] #[]
theorem key_any (v : Value) (W : World) (p : Option Addr) (n c : Nat) (hv : v = .slice p n c) : Calls Tryz.prog 29 #[v] W fun r w' => r = .returned (wdV 2 v) ∧ w' = W := by
  subst hv
  have hmf : ∀ (fn : Fn) (first cap : Array Value) (w : World), (Instr.makeFunc fn first cap).run Tryz.prog w = .ok (.func fn first cap) w := fun _ _ _ _ => rfl
  go_enter Tryz.func29, Tryz.ntmps29
  go_wp2_with fail
  go_ret
  exact ⟨rfl, rfl⟩
theorem sign_any (v : Value) (W : World) (p : Option Addr) (n c : Nat) (hv : v = .slice p n c) : Calls Tryz.prog 31 #[v] W fun r w' => r = .returned (wdV 6 v) ∧ w' = W := by
  subst hv
  have hmf : ∀ (fn : Fn) (first cap : Array Value) (w : World), (Instr.makeFunc fn first cap).run Tryz.prog w = .ok (.func fn first cap) w := fun _ _ _ _ => rfl
  go_enter Tryz.func31, Tryz.ntmps31
  go_wp2_with fail
  go_ret
  exact ⟨rfl, rfl⟩

end Go.Proofs.YtkglkhijngpgiaaGreat
