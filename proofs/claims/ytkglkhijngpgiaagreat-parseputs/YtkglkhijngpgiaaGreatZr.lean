import Derived.Test.YtkglkhijngpgiaaGreatZq
set_option linter.unusedVariables false
set_option linter.unusedSimpArgs false
namespace Go.Proofs.YtkglkhijngpgiaaGreat
open Go.RowKit

/-! The document's parser in memory. -/
def FB (W : World) (g : Nat) (vL vN : Value) (e : Int) (c : Bool) : Prop := W.heap[g]? = some (.cells #[vL, vN, .int .i64 e, .bool c] 49 (0, 0))
theorem FB.cells {W : World} {g : Nat} {vL vN : Value} {e : Int} {c : Bool} (h : FB W g vL vN e c) : W.cell? ⟨g, 0, none⟩ = some vL ∧ W.cell? ⟨g, 1, none⟩ = some vN ∧ W.cell? ⟨g, 2, none⟩ = some (.int .i64 e) ∧ W.cell? ⟨g, 3, none⟩ = some (.bool c) :=
  ⟨blk_cell h rfl, blk_cell h rfl, blk_cell h rfl, blk_cell h rfl⟩
theorem FB.frozen {W : World} {g : Nat} {vL vN : Value} {e : Int} {c : Bool} (h : FB W g vL vN e c) (j : Nat) : W.frozen? ⟨g, j, none⟩ = false := blk_frozen h
theorem FB.lt {W : World} {g : Nat} {vL vN : Value} {e : Int} {c : Bool} (h : FB W g vL vN e c) : g < W.heap.size := blk_lt h
/-- The parser: its tokens, the nodes of the last one; U: its blocks. -/
structure DP (U : Nat → Prop) (W : World) (g : Nat) (T : List Tv) (now : List (Int × Nat)) (e : Int) (c : Bool) (vL vN : Value) : Prop where
  fb : FB W g vL vN e c
  rt : Rt 0 W vL T
  rp : Rp W vN now
  ug : U g
  ul : ∀ k, vL.ownBlock = some k → U k
  un : ∀ k, vN.ownBlock = some k → U k
theorem DP.kp {U S : Nat → Prop} {W W' : World} {g : Nat} {T : List Tv} {now : List (Int × Nat)} {e : Int} {c : Bool} {vL vN : Value} (h : DP U W g T now e c vL vN) (hk : Kp S W W') (hU : ∀ k, U k → ¬ S k) : DP U W' g T now e c vL vN :=
  ⟨hk.blk h.fb (hU g h.ug), h.rt.kp hk (fun k e => hU k (h.ul k e)), h.rp.kp hk (fun k e => hU k (h.un k e)), h.ug, h.ul, h.un⟩
theorem DP.below {U : Nat → Prop} {W W' : World} {g : Nat} {T : List Tv} {now : List (Int × Nat)} {e : Int} {c : Bool} {vL vN : Value} (h : DP U W g T now e c vL vN) (hb : Below W.heap.size W W') : DP U W' g T now e c vL vN := h.kp (Kp.of_below (S := fun _ => False) hb) (fun _ _ h => h)
/-- What a call leaves. -/
structure DA (U : Nat → Prop) (g : Nat) (W W' : World) (v : Value) (ev : List Ev) (T : List Tv) (now : List (Int × Nat)) (e : Int) (c : Bool) : Prop where
  re : Re W' v ev
  ex : ∃ U' vL vN, DP U' W' g T now e c vL vN ∧ (∀ k, U k → U' k) ∧ (∀ k, U' k → U k ∨ (W.heap.size ≤ k ∧ k < W'.heap.size)) ∧ (∀ k, v.ownBlock = some k → W.heap.size ≤ k ∧ ¬ U' k)
  kp : Kp (fun k => k = g) W W'
theorem da_nil {U : Nat → Prop} {g : Nat} {W W' : World} {T : List Tv} {now : List (Int × Nat)} {e : Int} {c : Bool} {vL vN : Value} (h : DP U W' g T now e c vL vN) (hk : Kp (fun k => k = g) W W') : DA U g W W' nilS [] T now e c :=
  ⟨re_nil _, ⟨U, vL, vN, h, fun _ h => h, fun _ h => .inl h, fun k e => by cases e⟩, hk⟩
theorem rnew_any (w : World) : Calls Tryz.prog 6 #[] w fun r w' => r = .returned (pt w.heap.size) ∧ w' = w.alloc (.cells #[nilS, nilS, .int .i64 0, .bool false] 49) := by
  go_enter Tryz.func6, Tryz.ntmps6
  go_wp2_with fail
  go_ret
  exact ⟨rfl, rfl⟩
theorem rdepth_any {U : Nat → Prop} {W : World} {g : Nat} {T : List Tv} {now : List (Int × Nat)} {e : Int} {c : Bool} {vL vN : Value} (h : DP U W g T now e c vL vN) (hn : now.length ≤ 100000) :
    Calls Tryz.prog 18 #[pt g] W fun r w' => r = .returned (.int .i64 (if c then 0 else (now.length : Int))) ∧ w' = W := by
  obtain ⟨c0, c1, c2, c3⟩ := h.fb.cells
  obtain ⟨pn, cn, rfl, _⟩ := h.rp.shape
  clear h
  cases c
  · go_enter Tryz.func18, Tryz.ntmps18
    go_wp2_with fail
    go_ret
    exact ⟨rfl, rfl⟩
  · go_enter Tryz.func18, Tryz.ntmps18
    go_wp2_with fail
    go_ret
    exact ⟨rfl, rfl⟩
theorem rcomment_any (t : Tv) (W : World) : Calls Tryz.prog 24 #[t.v] W fun r w' => r = .returned (.bool (t.k == 7 || t.k == 8)) ∧ Below W.heap.size W w' := by
  dsimp only [Tv.v]
  obtain ⟨b7, e7⟩ : ∃ b, (t.k == 7) = b := ⟨_, rfl⟩
  obtain ⟨b8, e8⟩ : ∃ b, (t.k == 8) = b := ⟨_, rfl⟩
  rw [e7, e8]
  cases b7
  · cases b8
    · go_enter Tryz.func24, Tryz.ntmps24
      go_wp2_with fail
      go_ret
      exact ⟨rfl, below_new _ _⟩
    · go_enter Tryz.func24, Tryz.ntmps24
      go_wp2_with fail
      go_ret
      exact ⟨rfl, below_new _ _⟩
  · go_enter Tryz.func24, Tryz.ntmps24
    go_wp2_with fail
    go_ret
    exact ⟨rfl, below_new _ _⟩

end Go.Proofs.YtkglkhijngpgiaaGreat
