import Derived.Test.YtkglkhijngpgiaaGreatZr
set_option linter.unusedVariables false
set_option linter.unusedSimpArgs false
namespace Go.Proofs.YtkglkhijngpgiaaGreat
open Go.RowKit

theorem rp_new (W : World) (x : Int × Nat) : Rp (W.alloc (.cells #[.int .u8 x.1, .int .i64 (x.2 : Int)] 74)) (.slice (some ⟨W.heap.size, 0, none⟩) 1 1) [x] := by
  refine ⟨rfl, .inr ⟨_, 1, _, rfl, Nat.zero_le _, new_at W _, Nat.le_refl _, by unfold maxLen; omega, rfl, ?_⟩⟩
  simp [scs, flat]
theorem DA.fresh {U : Nat → Prop} {g : Nat} {W W1 W2 : World} {v : Value} {ev : List Ev} {T : List Tv} {now : List (Int × Nat)} {e : Int} {c : Bool} (hb : Below W.heap.size W W1) (h : DA U g W1 W2 v ev T now e c) : DA U g W W2 v ev T now e c := by
  obtain ⟨U', vL, vN, h1, h2, h3, h4⟩ := h.ex
  exact ⟨h.re, ⟨U', vL, vN, h1, h2, fun k hk => (h3 k hk).imp id (fun h => ⟨Nat.le_trans hb.size h.1, h.2⟩), fun k hk => ⟨Nat.le_trans hb.size (h4 k hk).1, (h4 k hk).2⟩⟩, (Kp.of_below hb).step h.kp (fun k _ e => e)⟩
theorem DA.push {U : Nat → Prop} {g : Nat} {W V V1 w3 : World} {v v' : Value} {E ds : List Ev} {T : List Tv} {now : List (Int × Nat)} {e : Int} {c : Bool} (hU : ∀ k, U k → k < W.heap.size) (h : DA U g W V v E T now e c) (hb : Below V.heap.size V V1) (hr : Re w3 v' (E ++ ds)) (hk : Kp (fun k => v.ownBlock = some k) V1 w3) (hn : Nb V1 v v') : DA U g W w3 v' (E ++ ds) T now e c := by
  obtain ⟨U', vL, vN, h1, h2, h3, h4⟩ := h.ex
  have hV : ∀ k, U' k → k < V.heap.size := fun k hk => by
    rcases h3 k hk with a | a
    · exact Nat.lt_of_lt_of_le (hU k a) h.kp.size
    · exact a.2
  refine ⟨hr, ⟨U', vL, vN, (h1.below hb).kp hk (fun k hu e => (h4 k e).2 hu), h2, fun k hu => ?_, fun k e => ?_⟩, (h.kp.step (Kp.of_below (S := fun _ => False) hb) (fun _ _ h => h.elim)).step hk (fun k hlt e => ?_)⟩
  · rcases h3 k hu with a | a
    · exact .inl a
    · exact .inr ⟨a.1, Nat.lt_of_lt_of_le a.2 (Nat.le_trans hb.size hk.size)⟩
  · rcases hn with e1 | ⟨q, e1, hq⟩
    · exact h4 k (by rw [← e1]; exact e)
    · rw [e1] at e
      simp at e
      subst e
      exact ⟨Nat.le_trans h.kp.size (Nat.le_trans hb.size hq), fun hu => by have := hV _ hu; have := hb.size; omega⟩
  · have := (h4 k e).1
    omega
theorem DA.below {U : Nat → Prop} {g : Nat} {W V V1 : World} {v : Value} {E : List Ev} {T : List Tv} {now : List (Int × Nat)} {e : Int} {c : Bool} (h : DA U g W V v E T now e c) (hb : Below V.heap.size V V1) : DA U g W V1 v E T now e c := by
  obtain ⟨U', vL, vN, h1, h2, h3, h4⟩ := h.ex
  exact ⟨h.re.below hb, ⟨U', vL, vN, h1.below hb, h2, fun k hu => (h3 k hu).imp id (fun a => ⟨a.1, Nat.lt_of_lt_of_le a.2 hb.size⟩), h4⟩, h.kp.step (Kp.of_below (S := fun _ => False) hb) (fun _ _ h => h.elim)⟩
def begV (now : List (Int × Nat)) : List Ev := if now = [] then [⟨1, 1, tv0⟩] else []
def begP (now : List (Int × Nat)) : List (Int × Nat) := if now = [] then [(1, 1)] else now
set_option maxHeartbeats 1000000 in
theorem begin_any {U : Nat → Prop} {W : World} {g : Nat} {T : List Tv} {now : List (Int × Nat)} {e : Int} {c : Bool} {vL vN : Value} (h : DP U W g T now e c vL vN) (hU : ∀ k, U k → k < W.heap.size) (hl : now.length ≤ 100000) :
    Calls Tryz.prog 25 #[pt g] W fun r w' => ∃ v, r = .returned v ∧ DA U g W w' v (begV now) T (begP now) e c := by
  obtain ⟨c0, c1, c2, c3⟩ := h.fb.cells
  have hgl := h.fb.lt
  have hf1 := h.fb.frozen 1
  by_cases hn : now = []
  · have HX : Hid (DA U g W (((W.setCell ⟨g, 1, none⟩ (.slice (some ⟨W.heap.size, 0, none⟩) 1 1)).alloc (.cells #[.int .u8 1, .int .i64 1] 74)).alloc (.cells #[.int .u8 1, .int .u8 1, .int .u8 0, .string ⟨#[]⟩, .int .i64 0, .int .i64 0, .int .i64 0, .int .i64 0] 59)) (.slice (some ⟨W.heap.size + 1, 0, none⟩) 1 1) (begV now) T (begP now) e c) := by
      have e1 : begV now = [⟨1, 1, tv0⟩] := if_pos hn
      have e2 : begP now = [(1, 1)] := if_pos hn
      rw [e1, e2]
      have k1 := Kp.set W g 1 (.slice (some ⟨W.heap.size, 0, none⟩) 1 1)
      obtain ⟨Wa, eA⟩ : ∃ Wa, (W.setCell ⟨g, 1, none⟩ (.slice (some ⟨W.heap.size, 0, none⟩) 1 1)) = Wa := ⟨_, rfl⟩
      have hs1 : Wa.heap.size = W.heap.size := by rw [← eA]; exact World.size_setCell _ _ _
      have f1 : Wa.heap[g]? = some (.cells #[vL, (.slice (some ⟨W.heap.size, 0, none⟩) 1 1), .int .i64 e, .bool c] 49 (0, 0)) := by rw [← eA]; exact blk_set h.fb 1 _
      rw [eA] at k1 ⊢
      have hb2 := below_new Wa (.cells #[.int .u8 1, .int .i64 1] 74)
      have r2 := rp_new Wa (1, 1)
      rw [hs1] at r2
      have hs2 : (Wa.alloc (.cells #[.int .u8 1, .int .i64 1] 74)).heap.size = W.heap.size + 1 := by rw [World.size_alloc, hs1]
      have hb3 := below_new (Wa.alloc (.cells #[.int .u8 1, .int .i64 1] 74)) (.cells #[.int .u8 1, .int .u8 1, .int .u8 0, .string ⟨#[]⟩, .int .i64 0, .int .i64 0, .int .i64 0, .int .i64 0] 59)
      have r3 := re_new (Wa.alloc (.cells #[.int .u8 1, .int .i64 1] 74)) ⟨1, 1, tv0⟩
      rw [hs2] at r3
      have hb := hb2.trans (hb3.mono hb2.size)
      refine ⟨r3, ⟨fun k => U k ∨ k = W.heap.size, vL, (.slice (some ⟨W.heap.size, 0, none⟩) 1 1), ⟨blk_below f1 hb, (h.rt.kp k1 (h.rt.ne h.fb (by decide))).below hb, r2.below hb3, .inl h.ug, fun k e => .inl (h.ul k e), fun k e => ?_⟩, fun k hk => .inl hk, fun k hk => ?_, fun k e => ?_⟩, ?_⟩
      · simp only [Value.ownBlock, Option.some.injEq] at e
        exact .inr e.symm
      · rcases hk with hk | rfl
        · exact .inl hk
        · refine .inr ⟨Nat.le_refl _, ?_⟩
          have := hb3.size
          omega
      · simp only [Value.ownBlock, Option.some.injEq] at e
        subst e
        refine ⟨by omega, fun hu => ?_⟩
        rcases hu with hu | hu
        · have := hU _ hu
          omega
        · omega
      · exact k1.step (Kp.of_below (S := fun _ => False) hb) (fun _ _ h => h.elim)
    subst hn
    obtain ⟨pn, cn, rfl, _⟩ := h.rp.shape
    clear h
    go_enter Tryz.func25, Tryz.ntmps25
    go_wp2_with fail
    go_ret
    exact ⟨_, rfl, HX.out⟩
  · have e1 : begV now = [] := if_neg hn
    have e2 : begP now = now := if_neg hn
    have HX : Hid (DA U g W W nilS (begV now) T (begP now) e c) := by
      rw [e1, e2]
      exact da_nil h (Kp.refl _ _)
    have q1 : (now.length : Int) > 0 := by
      have : now.length ≠ 0 := fun e => hn (List.eq_nil_of_length_eq_zero e)
      omega
    obtain ⟨pn, cn, rfl, _⟩ := h.rp.shape
    clear h e1 e2
    go_enter Tryz.func25, Tryz.ntmps25
    go_wp2_with fail
    go_ret
    exact ⟨_, rfl, HX.out⟩

end Go.Proofs.YtkglkhijngpgiaaGreat
