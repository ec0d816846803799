import Derived.Test.YtkglkhijngpgiaaCe
set_option linter.unusedVariables false
set_option linter.unusedSimpArgs false
namespace Go.Proofs.Ytkglkhijngpgiaa
open Go.RowKit

/-! What is still to come: states as data, and how they lie in memory. -/
/-- The rows of the grammar that are methods. -/
inductive M | block | variables | constants | procedure | params | param | typed | kind | member | body | statement | expr | rel | sum | term | factor | object | index | selection | args | list
deriving DecidableEq
/-- What picks a part by a token's text. -/
inductive Dk | declaration | bracket | detail
deriving DecidableEq
inductive Fl | wd (k : Int) (ts : List ByteArray) | nm | cs | mt (m : M)
inductive Pk | fn (d : Dk) | row (r : List Fl) | ex (m : M)
inductive It | fl (x : Fl) | lv (n : Int) | once (p : Pk) | again (p : Pk) | all (r : List Fl)
def M.id : M → Nat
  | .block => 23
  | .variables => 35
  | .constants => 36
  | .procedure => 37
  | .params => 52
  | .param => 59
  | .typed => 42
  | .kind => 47
  | .member => 53
  | .body => 32
  | .statement => 38
  | .expr => 43
  | .rel => 51
  | .sum => 58
  | .term => 65
  | .factor => 68
  | .object => 48
  | .index => 60
  | .selection => 61
  | .args => 62
  | .list => 66
def Dk.id : Dk → Nat
  | .declaration => 30
  | .bracket => 44
  | .detail => 54
abbrev pt (g : Nat) : Value := .pointer (some ⟨g, 0, none⟩)
abbrev mtV (g : Nat) (f : Nat) : Value := .func (.func f) #[pt g] #[]
abbrev nmV : Value := .func (.func 21) #[] #[]
abbrev csV : Value := .func (.func 67) #[] #[]
abbrev lvV (g : Nat) (n : Int) : Value := .func (.func 27) #[.agg #[pt g, .int .u8 n]] #[]
abbrev ocV (g : Nat) (v : Value) : Value := .func (.func 45) #[.agg #[pt g, v]] #[]
abbrev agV (g : Nat) (v : Value) : Value := .func (.func 31) #[.agg #[pt g, v]] #[]
abbrev alV (b3 b1 : Nat) : Value := .func (.func 56) #[] #[pt b3, pt b1]
abbrev rwV (b1 b2 : Nat) : Value := .func (.func 57) #[] #[pt b1, pt b2]
abbrev exV (b : Nat) : Value := .func (.func 63) #[] #[pt b]

/-- Row against row. -/
inductive Al {α : Type} (R : Value → α → Prop) : List Value → List α → Prop
  | nil : Al R [] []
  | cons {v : Value} {x : α} {vs : List Value} {xs : List α} : R v x → Al R vs xs → Al R (v :: vs) (x :: xs)
theorem Al.len {α : Type} {R : Value → α → Prop} {vs : List Value} {xs : List α} (h : Al R vs xs) : vs.length = xs.length := by
  induction h with
  | nil => rfl
  | cons _ _ ih => simp [ih]
theorem Al.mono {α : Type} {R S : Value → α → Prop} {vs : List Value} {xs : List α} (h : Al R vs xs) (hRS : ∀ v x, R v x → S v x) : Al S vs xs := by
  induction h with
  | nil => exact .nil
  | cons h _ ih => exact .cons (hRS _ _ h) ih
theorem Al.app {α : Type} {R : Value → α → Prop} {vs us : List Value} {xs ys : List α} (h : Al R vs xs) (k : Al R us ys) : Al R (vs ++ us) (xs ++ ys) := by
  induction h with
  | nil => exact k
  | cons h _ ih => exact .cons h ih
theorem Al.rev {α : Type} {R : Value → α → Prop} {vs : List Value} {xs : List α} (h : Al R vs xs) : Al R vs.reverse xs.reverse := by
  induction h with
  | nil => exact .nil
  | cons h _ ih => rw [List.reverse_cons, List.reverse_cons]; exact ih.app (.cons h .nil)
theorem Al.map {α β : Type} {R : Value → α → Prop} {S : Value → β → Prop} {f : α → β} {vs : List Value} {xs : List α} (h : Al R vs xs) (hf : ∀ v x, R v x → S v (f x)) : Al S vs (xs.map f) := by
  induction h with
  | nil => exact .nil
  | cons h _ ih => exact .cons (hf _ _ h) ih
theorem Al.at {α : Type} {R : Value → α → Prop} {vs : List Value} {xs : List α} (h : Al R vs xs) : ∀ {j : Nat} {v : Value}, vs[j]? = some v → ∃ x, xs[j]? = some x ∧ R v x := by
  induction h with
  | nil => intro j v h; simp at h
  | cons h _ ih =>
    intro j v hj
    cases j with
    | zero => simp at hj; subst hj; exact ⟨_, rfl, h⟩
    | succ j => simp at hj; simpa using ih hj

section
variable (g : Nat) (D : Nat → Prop) (W : World)
/-- A plain state. -/
inductive RepF : Value → Fl → Prop
  | wd {k : Int} {ao : Option Addr} {ts : List ByteArray} {cap : Nat} : Ls W ao ts → (∀ a, ao = some a → D a.block) → ts.length ≤ 1000 → RepF (wdV k (.slice ao ts.length cap)) (.wd k ts)
  | nm : RepF nmV .nm
  | cs : RepF csV .cs
  | mt (m : M) : RepF (mtV g m.id) (.mt m)
/-- A row that a closure holds. -/
structure RowB (b3 b1 : Nat) (r : List Fl) : Prop where
  ex : ∃ ao cap xs, W.heap[b1]? = some (.cells #[.slice ao xs.length cap] 47 (0, 0)) ∧ Lv W ao xs ∧ Al (RepF g D W) xs r ∧ ∀ a, ao = some a → D a.block
  pb : W.heap[b3]? = some (.cells #[pt g] 40 (0, 0))
  d1 : D b1
  d3 : D b3
  ln : r.length ≤ 1000
inductive RepP : Value → Pk → Prop
  | fn (d : Dk) : RepP (mtV g d.id) (.fn d)
  | row {b1 b2 b3 : Nat} {r : List Fl} : RowB g D W b3 b1 r → W.heap[b2]? = some (.cells #[alV b3 b1] 55 (0, 0)) → D b2 → (∃ k ts rest, r = Fl.wd k ts :: rest) → RepP (rwV b1 b2) (.row r)
  | ex {b : Nat} {m : M} : W.heap[b]? = some (.cells #[mtV g m.id] 56 (0, 0)) → D b → RepP (exV b) (.ex m)
inductive Rep : Value → It → Prop
  | fl {v : Value} {x : Fl} : RepF g D W v x → Rep v (.fl x)
  | lv (n : Int) : Rep (lvV g n) (.lv n)
  | once {v : Value} {p : Pk} : RepP g D W v p → Rep (ocV g v) (.once p)
  | again {v : Value} {p : Pk} : RepP g D W v p → Rep (agV g v) (.again p)
  | all {b1 b3 : Nat} {r : List Fl} : RowB g D W b3 b1 r → Rep (alV b3 b1) (.all r)
end
theorem RepF.turn {g : Nat} {D D' : Nat → Prop} {W W' : World} {v : Value} {x : Fl} (h : RepF g D W v x) (hD : ∀ k, D k → D' k) (hW : ∀ k o, D k → W.heap[k]? = some o → W'.heap[k]? = some o) : RepF g D' W' v x := by
  cases h with
  | wd h1 h2 h3 =>
    refine .wd (fun j s hj => ?_) (fun a ha => hD _ (h2 a ha)) h3
    obtain ⟨b, off, e, hc⟩ := h1 j s hj
    refine ⟨b, off, e, ?_⟩
    obtain ⟨o, ho⟩ : ∃ o, W.heap[b]? = some o := ⟨_, Array.getElem?_eq_getElem (World.block_lt_of_cell? _ _ hc)⟩
    exact (World.cell?_of_block (a := ⟨b, _, none⟩) ((hW b o (h2 _ e) ho).trans ho.symm)).trans hc
  | nm => exact .nm
  | cs => exact .cs
  | mt m => exact .mt m
theorem RowB.turn {g : Nat} {D D' : Nat → Prop} {W W' : World} {b3 b1 : Nat} {r : List Fl} (h : RowB g D W b3 b1 r) (hD : ∀ k, D k → D' k) (hW : ∀ k o, D k → W.heap[k]? = some o → W'.heap[k]? = some o) : RowB g D' W' b3 b1 r := by
  obtain ⟨ao, cap, xs, h1, h2, h3, h4⟩ := h.ex
  refine ⟨⟨ao, cap, xs, hW _ _ h.d1 h1, fun j s hj => ?_, h3.mono (fun v x hx => hx.turn hD hW), fun a ha => hD _ (h4 a ha)⟩, hW _ _ h.d3 h.pb, hD _ h.d1, hD _ h.d3, h.ln⟩
  obtain ⟨h0, b, off, e, hc⟩ := h2 j s hj
  refine ⟨h0, b, off, e, ?_⟩
  obtain ⟨o, ho⟩ : ∃ o, W.heap[b]? = some o := ⟨_, Array.getElem?_eq_getElem (World.block_lt_of_cell? _ _ hc)⟩
  exact (World.cell?_of_block (a := ⟨b, _, none⟩) ((hW b o (h4 _ e) ho).trans ho.symm)).trans hc
theorem RepP.turn {g : Nat} {D D' : Nat → Prop} {W W' : World} {v : Value} {x : Pk} (h : RepP g D W v x) (hD : ∀ k, D k → D' k) (hW : ∀ k o, D k → W.heap[k]? = some o → W'.heap[k]? = some o) : RepP g D' W' v x := by
  cases h with
  | fn d => exact .fn d
  | row h1 h2 h3 h4 => exact .row (h1.turn hD hW) (hW _ _ h3 h2) (hD _ h3) h4
  | ex h1 h2 => exact .ex (hW _ _ h2 h1) (hD _ h2)
theorem Rep.turn {g : Nat} {D D' : Nat → Prop} {W W' : World} {v : Value} {x : It} (h : Rep g D W v x) (hD : ∀ k, D k → D' k) (hW : ∀ k o, D k → W.heap[k]? = some o → W'.heap[k]? = some o) : Rep g D' W' v x := by
  cases h with
  | fl h => exact .fl (h.turn hD hW)
  | lv n => exact .lv n
  | once h => exact .once (h.turn hD hW)
  | again h => exact .again (h.turn hD hW)
  | all h => exact .all (h.turn hD hW)
theorem Rep.isFn {g : Nat} {D : Nat → Prop} {W : World} {v : Value} {x : It} (h : Rep g D W v x) : ∃ fn fi ca, v = .func fn fi ca := by
  cases h with
  | fl h => cases h <;> exact ⟨_, _, _, rfl⟩
  | lv n => exact ⟨_, _, _, rfl⟩
  | once h => exact ⟨_, _, _, rfl⟩
  | again h => exact ⟨_, _, _, rfl⟩
  | all h => exact ⟨_, _, _, rfl⟩

/-- The parser within a call: its block, what is to come (the next one first), what is told; D: the blocks that the states lie in. -/
structure Ps (g : Nat) (D : Nat → Prop) (W : World) (n : Int) (K : List It) (E : List Ev) (vs vt : Value) : Prop where
  pb : PB W g false 0 n vs vt
  st : ∃ xs, Rs W vs xs ∧ Al (Rep g D W) xs K.reverse
  ev : Re W vt E
  dg : ¬ D g
  ds : ∀ k, vs.ownBlock = some k → ¬ D k
  dt : ∀ k, vt.ownBlock = some k → ¬ D k
  dl : ∀ k, D k → k < W.heap.size
/-- New blocks may be the states', too. -/
def Dn (D : Nat → Prop) (a b : Nat) (k : Nat) : Prop := D k ∨ (a ≤ k ∧ k < b)
theorem Ps.fresh {g : Nat} {D : Nat → Prop} {W W' : World} {n : Int} {K : List It} {E : List Ev} {vs vt : Value} (h : Ps g D W n K E vs vt) (hb : Below W.heap.size W W') : Ps g (Dn D W.heap.size W'.heap.size) W' n K E vs vt := by
  obtain ⟨xs, h1, h2⟩ := h.st
  refine ⟨h.pb.below hb, ⟨xs, h1.below hb, h2.mono (fun v x hx => hx.turn (fun k hk => .inl hk) (fun k o _ ho => blk_below ho hb))⟩, h.ev.below hb, ?_, ?_, ?_, ?_⟩
  · rintro (h1 | h1)
    · exact h.dg h1
    · have := h.pb.lt; omega
  · rintro k hk (h3 | h3)
    · exact h.ds k hk h3
    · have := h1.lt k hk; omega
  · rintro k hk (h3 | h3)
    · exact h.dt k hk h3
    · have := h.ev.lt k hk; omega
  · rintro k (h3 | h3)
    · exact Nat.lt_of_lt_of_le (h.dl k h3) hb.size
    · exact h3.2
/-- What a state's call leaves. -/
def Gone (g : Nat) (D : Nat → Prop) (vs vt : Value) (W W' : World) (n : Int) (K : List It) (E : List Ev) : Prop :=
  ∃ D' vs' vt', Ps g D' W' n K E vs' vt' ∧ Kp (fun k => k = g ∨ vs.ownBlock = some k ∨ vt.ownBlock = some k) W W' ∧ Nb W vs vs' ∧ Nb W vt vt' ∧ (∀ k, D k → D' k) ∧ (∀ k, D' k → D k ∨ W.heap.size ≤ k)
theorem Ps.gone {g : Nat} {D : Nat → Prop} {W : World} {n : Int} {K : List It} {E : List Ev} {vs vt : Value} (h : Ps g D W n K E vs vt) : Gone g D vs vt W W n K E :=
  ⟨D, vs, vt, h, Kp.refl _ _, Nb.refl _ _, Nb.refl _ _, fun _ h => h, fun _ h => .inl h⟩
theorem own_step {g : Nat} {vs vt vs' vt' : Value} {W : World} (hs : Nb W vs vs') (ht : Nb W vt vt') (k : Nat) (hk : k < W.heap.size) (h : k = g ∨ vs'.ownBlock = some k ∨ vt'.ownBlock = some k) : k = g ∨ vs.ownBlock = some k ∨ vt.ownBlock = some k := by
  rcases h with h | h | h
  · exact .inl h
  · rcases hs with e | ⟨q, e, hq⟩
    · exact .inr (.inl (by rw [← e]; exact h))
    · rw [e] at h; simp at h; omega
  · rcases ht with e | ⟨q, e, hq⟩
    · exact .inr (.inr (by rw [← e]; exact h))
    · rw [e] at h; simp at h; omega
theorem Gone.go {g : Nat} {D D' : Nat → Prop} {vs vt vs' vt' : Value} {W W' W'' : World} {n : Int} {K : List It} {E : List Ev} (hk : Kp (fun k => k = g ∨ vs.ownBlock = some k ∨ vt.ownBlock = some k) W W') (hs : Nb W vs vs') (ht : Nb W vt vt') (h1 : ∀ k, D k → D' k) (h2 : ∀ k, D' k → D k ∨ W.heap.size ≤ k) (h : Gone g D' vs' vt' W' W'' n K E) : Gone g D vs vt W W'' n K E := by
  obtain ⟨D2, vs2, vt2, p, k2, s2, t2, a1, a2⟩ := h
  refine ⟨D2, vs2, vt2, p, hk.step k2 (fun k hlt hor => own_step hs ht k hlt hor), hs.trans s2 hk.size, ht.trans t2 hk.size, fun k h => a1 k (h1 k h), fun k h => ?_⟩
  rcases a2 k h with h | h
  · exact h2 k h
  · exact .inr (Nat.le_trans hk.size h)
/-- Behind what only makes new blocks. -/
theorem Gone.fresh {g : Nat} {D : Nat → Prop} {vs vt : Value} {W W' W'' : World} {n : Int} {K : List It} {E : List Ev} (hb : Below W.heap.size W W') (h : Gone g (Dn D W.heap.size W'.heap.size) vs vt W' W'' n K E) : Gone g D vs vt W W'' n K E :=
  Gone.go (Kp.of_below hb) (Nb.refl _ _) (Nb.refl _ _) (fun k h => .inl h) (fun k h => h.imp id (fun h => h.1)) h

end Go.Proofs.Ytkglkhijngpgiaa
