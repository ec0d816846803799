import Derived.Test.YtlpmnkiieibipaaDoorDg
set_option linter.unusedVariables false
set_option linter.unusedSimpArgs false
namespace Go.Proofs.YtlpmnkiieibipaaDoor
open Go.RowKit

set_option maxHeartbeats 1000000 in
theorem form_any (c : UInt8) (w : World) (hG : Gl w) : Calls Tryd.prog 40 #[.int .u8 (c.toNat : Int)] w fun e w' => e = .returned (.int .u8 (fm c : Nat)) ∧ w' = w := by
  have hc := c.toNat_lt
  obtain ⟨z, hz⟩ : ∃ z : Nat, c.toNat = z := ⟨_, rfl⟩
  have HF : Hid (fm c = if z ≤ 31 then 4 else if z ≤ 91 then 1 else if z ≤ 92 then 2 else if z ≤ 126 then 1 else 4) := by show _ = _; unfold fm; rw [hz]
  rw [hz] at hc ⊢
  clear hz
  generalize fm c = r at *
  have hT := hG.forms
  clear hG
  go_enter Tryd.func40, Tryd.ntmps40
  go_wp2_with fail
  go_loopw [3] (fun i wr => wr = w ∧ ∃ k : Nat, k < 5 ∧ i = .int .i64 k ∧ ∀ j, j < k → (frmL.getD j (0, 0)).1 < z) (fun i _ => 5 - (intOf i).toNat)
  case atStart => exact ⟨rfl, 0, by omega, rfl, fun j hj => by omega⟩
  case round =>
    obtain ⟨rfl, k, hk, rfl, hall⟩ := hrel
    obtain ⟨c0, c1⟩ := hT k hk
    have HN : Hid ((frmL.getD k (0, 0)).1 < z → k + 1 < 5 ∧ ∀ j, j < k + 1 → (frmL.getD j (0, 0)).1 < z) := fun h => by
      refine ⟨?_, fun j hj => ?_⟩
      · by_cases h4 : k = 4
        · subst h4; exact absurd (show (255 : Int) < z from h) (by omega)
        · omega
      · by_cases e : j = k
        · subst e; exact h
        · exact hall j (by omega)
    have HD : Hid (¬ (frmL.getD k (0, 0)).1 < z → (frmL.getD k (0, 0)).2 = r) := fun h => by
      have HF := HF.out
      have h0 : k ≤ 0 ∨ (31 : Int) < z := by by_cases h : 0 < k; exact .inr (hall 0 h); exact .inl (by omega)
      have h1 : k ≤ 1 ∨ (91 : Int) < z := by by_cases h : 1 < k; exact .inr (hall 1 h); exact .inl (by omega)
      have h2 : k ≤ 2 ∨ (92 : Int) < z := by by_cases h : 2 < k; exact .inr (hall 2 h); exact .inl (by omega)
      have h3 : k ≤ 3 ∨ (126 : Int) < z := by by_cases h : 3 < k; exact .inr (hall 3 h); exact .inl (by omega)
      have hk' : k = 0 ∨ k = 1 ∨ k = 2 ∨ k = 3 ∨ k = 4 := by omega
      rcases hk' with rfl | rfl | rfl | rfl | rfl
      · have h : ¬ (31 : Int) < z := h
        rw [HF, if_pos (by omega)]; rfl
      · have h : ¬ (91 : Int) < z := h
        rw [HF, if_neg (by omega), if_pos (by omega)]; rfl
      · have h : ¬ (92 : Int) < z := h
        rw [HF, if_neg (by omega), if_neg (by omega), if_pos (by omega)]; rfl
      · have h : ¬ (126 : Int) < z := h
        rw [HF, if_neg (by omega), if_neg (by omega), if_neg (by omega), if_pos (by omega)]; rfl
      · rw [HF, if_neg (by omega), if_neg (by omega), if_neg (by omega), if_neg (by omega)]; rfl
    clear hall hT HF
    generalize (frmL.getD k (0, 0)).1 = x at *
    generalize (frmL.getD k (0, 0)).2 = y at *
    by_cases hx : x < z
    · obtain ⟨h5, h6⟩ := HN.out hx
      have H6 : Hid (∀ j, j < k + 1 → (frmL.getD j (0, 0)).1 < z) := h6
      clear h6 HN HD
      go_wp2_with fail
      exact ⟨⟨trivial, k + 1, h5, by go_num, H6.out⟩, by simp [intOf]; omega⟩
    · have HY : Hid (y = (r : Int)) := HD.out hx
      clear HN HD
      go_wp2_with fail
      go_ret
      exact ⟨by rw [← HY.out]; rfl, rfl⟩

/-! A row of bytes of the call's own. -/
def Br (B : Nat) (w : World) (v : Value) (l : List UInt8) : Prop := w.ownsRow B 5 1 v l.length (bc l)
theorem br_nil (B : Nat) (w : World) : Br B w (.slice none 0 0) [] := World.ownsRow_nil w B 5 1
theorem Br.shape {B : Nat} {w : World} {v : Value} {l : List UInt8} (h : Br B w v l) : ∃ p cap, v = .slice p l.length cap ∧ l.length ≤ cap ∧ cap ≤ maxLen := by
  rcases h.2 with ⟨rfl, h0⟩ | ⟨b, cap, cur, rfl, _, h3, h4, h5, _⟩
  · exact ⟨none, 0, by rw [h0], by omega, Nat.zero_le _⟩
  · exact ⟨_, cap, rfl, h4, h5⟩
theorem Br.own {B : Nat} {w : World} {v : Value} {l : List UInt8} (h : Br B w v l) : ∀ k, v.ownBlock = some k → B ≤ k := by
  intro k hk
  rcases h.2 with ⟨rfl, h0⟩ | ⟨b, cap, cur, rfl, hb, _⟩
  · cases hk
  · simp only [Value.ownBlock, Option.some.injEq] at hk
    omega
theorem Br.below {B : Nat} {w w' : World} {v : Value} {l : List UInt8} (h : Br B w v l) (hb : Below w.heap.size w w') : Br B w' v l := by
  refine ⟨h.1, ?_⟩
  rcases h.2 with h1 | ⟨g, cap, cur, rfl, h2, h3, h4⟩
  · exact .inl h1
  · exact .inr ⟨g, cap, cur, rfl, h2, blk_below h3 hb, h4⟩
theorem below_of_grown {B : Nat} {w w' : World} {v : Value} {l : List UInt8} (h : Br B w v l) (hg : w.grownBy w' v.ownBlock) (hB : B ≤ w.heap.size) : Below B w w' :=
  (Below.refl B w).grown hg hB h.own

/-- Nothing below B has turned, and no block but rows of bytes. -/
structure Bk (B : Nat) (w w' : World) : Prop where
  bel : Below B w w'
  oth : Lib.OthersKept 5 none w w'
theorem Bk.refl (B : Nat) (w : World) : Bk B w w := ⟨Below.refl _ _, Lib.OthersKept.refl _ _ _⟩
theorem Bk.trans {B : Nat} {a b c : World} (h : Bk B a b) (k : Bk B b c) : Bk B a c := ⟨h.bel.trans k.bel, h.oth.trans k.oth⟩
theorem Bk.of_below {B : Nat} {w w' : World} (h : Below w.heap.size w w') (hB : B ≤ w.heap.size) : Bk B w w' :=
  ⟨h.mono hB, fun k o hk _ _ => (h.block k (Array.getElem?_eq_some_iff.1 hk).1).trans hk⟩
theorem Bk.of_grown {B : Nat} {w w' : World} {v : Value} {l : List UInt8} (h : Br B w v l) (hg : w.grownBy w' v.ownBlock) (hB : B ≤ w.heap.size) : Bk B w w' := by
  refine ⟨below_of_grown h hg hB, fun k o hk _ ho => ?_⟩
  refine (hg.block k (Array.getElem?_eq_some_iff.1 hk).1 ?_).trans hk
  intro e
  rcases h.2 with ⟨rfl, _⟩ | ⟨b, cap, cur, rfl, _, h3, _⟩
  · cases e
  · simp only [Value.ownBlock, Option.some.injEq] at e
    subst e
    rw [hk] at h3
    cases h3
    exact ho _ _ rfl
theorem Bk.alloc {B : Nat} {a w : World} (h : Bk B a w) (hB : B ≤ a.heap.size) (o : Obj) : Bk B a (w.alloc o) := h.trans (Bk.of_below ((Below.refl _ _).alloc (Nat.le_refl _) _) (Nat.le_trans hB h.bel.size))
theorem Bk.drew {B : Nat} {a w : World} (h : Bk B a w) : Bk B a w.drew := ⟨h.bel.drew, h.oth.drew⟩
theorem Bk.blk {B : Nat} {w w' : World} (h : Bk B w w') {g : Nat} {cs : Array Value} {T : TypeId} {f : Nat × Nat} (hg : w.heap[g]? = some (.cells cs T f)) (hT : T ≠ 5) : w'.heap[g]? = some (.cells cs T f) :=
  h.oth g _ hg (by simp) (fun c fz e => by cases e; exact hT rfl)

theorem Tryd.info5 : (Tryd.prog.info? 5).map (fun i => (i.zero, i.size, i.bytes)) = some (some (.int .u8 0), 1, 1) := by kernel_rfl
theorem Tryd.info36 : (Tryd.prog.info? 36).map (fun i => (i.zero, i.size, i.bytes)) = some (some (.agg #[.int .u8 0, .string ⟨#[]⟩, .int .i64 0, .int .i64 0, .bool false]), 5, 48) := by kernel_rfl

/-- Bytes behind a row of the call's own. -/
theorem app_bytes {W : World} {ops : Array Oper} {rest : List Oper} {o : Oper} {a : Act} {Q : Exit → Act → World → Prop} (hgd : o.guard = none) (s x : Operand)
    (ho : o.op = .call { callee := .builtin .append, args := #[s, x], argTypes := #[40, 40] }) (B : Nat) (v : Value) (l new : List UInt8) (hs : a.eval s = v) (hr : Br B W v l)
    (g m c : Nat) (hx : a.eval x = .slice (some ⟨g, 0, none⟩) m c) (hm : new.length = m) (hg : W.heap[g]? = some (.cells (bc new).toArray 5 (0, 0))) (hl : l.length + new.length ≤ 1073741824) (hB : B ≤ W.heap.size)
    (h : ∀ v' w', Br B w' v' (l ++ new) → Bk B W w' → wpList Tryd.prog ops Q rest (a.put o.dst v') w') : wpList Tryd.prog ops Q (o :: rest) a W := by
  subst hm
  obtain ⟨i0, hi, hz0, hz1, hz2⟩ := info_parts Tryd.info5
  refine wpList_append_own_at (P := Tryd.prog) (w := W) hgd s x 40 ho B 5 i0 (.int .u8 0) 1 1 Tryd.underlying40 hi hz0 hz1 hz2 rfl (by decide) v _ _ hs hr ⟨g, 0, none⟩ new.length c (bc new) hx (by rw [bc_len]; omega) ?_ (bc_one new) (by unfold maxLen; omega) (by omega) hB ?_
  · intro j u hu
    exact World.news_of_block hg j u (by simpa using hu)
  · intro v' w' h1 h2 _ _
    refine h v' w' ?_ (Bk.of_grown hr h2 hB)
    unfold Br
    rw [List.length_append, bc_app]
    exact h1
theorem app_str {W : World} {ops : Array Oper} {rest : List Oper} {o : Oper} {a : Act} {Q : Exit → Act → World → Prop} (hgd : o.guard = none) (s x : Operand)
    (ho : o.op = .call { callee := .builtin .append, args := #[s, x], argTypes := #[40, 9] }) (B : Nat) (v : Value) (l : List UInt8) (t : ByteArray) (hs : a.eval s = v) (hr : Br B W v l)
    (hx : a.eval x = .string t) (hl : l.length + t.size ≤ 1073741824) (hB : B ≤ W.heap.size)
    (h : ∀ v' w', Br B w' v' (l ++ ls t) → Bk B W w' → wpList Tryd.prog ops Q rest (a.put o.dst v') w') : wpList Tryd.prog ops Q (o :: rest) a W := by
  obtain ⟨i0, hi, hz0, hz1, hz2⟩ := info_parts Tryd.info5
  refine wpList_append_string_at (P := Tryd.prog) (w := W) hgd s x 40 9 ho B 5 i0 Tryd.underlying40 Tryd.underlying9 hi hz0 hz1 hz2 v _ _ hs hr t hx (by unfold maxLen; omega) (by omega) hB ?_
  intro v' w' h1 h2 _
  refine h v' w' ?_ (Bk.of_grown hr h2 hB)
  unfold Br
  rw [List.length_append, bc_app, ls_len]
  exact h1
/-- The same at a step of a region that draws its order. -/
theorem step_bytes {W : World} {ops : Array Oper} {o : Oper} {a : Act} {K : Act → World → Prop} {Q : Exit → Act → World → Prop} {E : Prop} (hgd : o.guard = none) (s x : Operand)
    (ho : o.op = .call { callee := .builtin .append, args := #[s, x], argTypes := #[40, 40] }) (B : Nat) (v : Value) (l new : List UInt8) (hs : a.eval s = v) (hr : Br B W v l)
    (g m c : Nat) (hx : a.eval x = .slice (some ⟨g, 0, none⟩) m c) (hm : new.length = m) (h0 : 0 < new.length) (hg : W.heap[g]? = some (.cells (bc new).toArray 5 (0, 0))) (hl : l.length + new.length ≤ 1073741824) (hB : B ≤ W.heap.size)
    (h : ∀ g cap w', Br B w' (.slice (some ⟨g, 0, none⟩) (l.length + m) cap) (l ++ new) → Bk B W w' → K (a.put o.dst (.slice (some ⟨g, 0, none⟩) (l.length + m) cap)) w') : if Region.wanted o (yielded ops a.tmps) = true then Oper.wp Tryd.prog o a W K Q else E := by
  subst hm
  obtain ⟨i0, hi, hz0, hz1, hz2⟩ := info_parts Tryd.info5
  refine step_append_lies (P := Tryd.prog) W hgd s x 40 ho B 5 i0 (.int .u8 0) 1 1 Tryd.underlying40 hi hz0 hz1 hz2 rfl (by decide) v _ _ hs hr ⟨g, 0, none⟩ new.length c (bc new) hx (by rw [bc_len]; omega) ?_ (bc_one new) h0 (by unfold maxLen; omega) (by omega) hB _ rfl ?_
  · intro j u hu
    exact World.news_of_block hg j u (by simpa using hu)
  · intro g' cap w' h1 h2 _ _
    refine h g' cap w' ?_ (Bk.of_grown hr h2 hB)
    unfold Br
    rw [List.length_append, bc_app]
    exact h1
end Go.Proofs.YtlpmnkiieibipaaDoor
