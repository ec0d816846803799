import Derived.Test.YtkigadnkclkopaaGreatQo
import Derived.Test.YtkigadnkclkopaaGreatG3
import Derived.ScopeJumps
import Derived.Defers
set_option linter.unusedVariables false
set_option linter.unusedSimpArgs false
namespace Go.Proofs.YtkigadnkclkopaaGreat
open Go.RowKit

/-! One state's call. -/
def Stp (g : Nat) (D : Nat → Prop) (vs vt : Value) (W : World) (n : Int) (K : List It) (E : List Ev) (e : Ending) (w' : World) : Sr → Prop
  | .tk => e = .returned (.int .i64 2) ∧ Below W.heap.size W w'
  | .ref => e = .returned (.int .i64 0) ∧ Below W.heap.size W w'
  | .go d o r => e = .returned (.int .i64 1) ∧ Gone g D vs vt W w' (n + d) (r ++ K) (E ++ o)
theorem aft_stp {g : Nat} {D : Nat → Prop} {vs vt : Value} {W : World} {n : Int} {K : List It} {E : List Ev} {e : Ending} {w' : World} {t : Tv} {m : M} (h : PAft g D vs vt W n K E e w' (M.row t m)) : Stp g D vs vt W n K E e w' (It.step t (.fl (.mt m))) := by
  show Stp g D vs vt W n K E e w' (M.row t m).sr
  cases hr : M.row t m with
  | ref => rw [hr] at h; exact h
  | ex r => rw [hr] at h; simpa [Stp, PAft, Gw.sr] using h
  | op nd r => rw [hr] at h; simpa [Stp, PAft, Gw.sr] using h
theorem dd_stp {g : Nat} {D : Nat → Prop} {vs vt : Value} {W : World} {n : Int} {K : List It} {E : List Ev} {w' : World} {b : Bool} (hb : Below W.heap.size W w') : Stp g D vs vt W n K E (.returned (.int .i64 (dd b))) w' (if b then .tk else .ref) := by
  cases b
  · exact ⟨rfl, hb⟩
  · exact ⟨rfl, hb⟩

/-- A state is called, whichever it is. -/
theorem state_any {g : Nat} {D : Nat → Prop} {W : World} {n : Int} {K : List It} {E : List Ev} {vs vt : Value} (h : Psz g D W n K E vs vt) {v : Value} {i : It} (hv : Rep g D W v i) (t : Tv) :
    ∃ f fi ca, v = .func (.func f) fi ca ∧ Ent f ∧ Calls Tryz.prog f (fi.push t.v ++ ca) W fun e w' => Stp g D vs vt W n K E e w' (It.step t i) := by
  cases hv with
  | fl hx =>
    cases hx with
    | wd hl hd hn =>
      refine ⟨_, _, _, rfl, enters_of Tryz.func63 (by kernel_rfl) rfl, (stand_any _ _ _ _ t W hl hn).mono ?_⟩
      rintro e w' ⟨rfl, hb⟩
      exact dd_stp hb
    | nm =>
      refine ⟨_, _, _, rfl, enters_of Tryz.func44 (by kernel_rfl) rfl, (name_any t W).mono ?_⟩
      rintro e w' ⟨rfl, hb⟩
      exact dd_stp hb
    | cs =>
      refine ⟨_, _, _, rfl, enters_of Tryz.func165 (by kernel_rfl) rfl, (constant_any t W).mono ?_⟩
      rintro e w' ⟨rfl, hb⟩
      exact dd_stp hb
    | mt m =>
      cases m with
      | block => exact ⟨_, _, _, rfl, enters_of Tryz.func46 (by kernel_rfl) rfl, (block_ps h t).mono (fun e w' ha => aft_stp (m := .block) ha)⟩
      | variables => exact ⟨_, _, _, rfl, enters_of Tryz.func88 (by kernel_rfl) rfl, (variables_ps h t).mono (fun e w' ha => aft_stp (m := .variables) ha)⟩
      | constants => exact ⟨_, _, _, rfl, enters_of Tryz.func89 (by kernel_rfl) rfl, (constants_ps h t).mono (fun e w' ha => aft_stp (m := .constants) ha)⟩
      | procedure => exact ⟨_, _, _, rfl, enters_of Tryz.func90 (by kernel_rfl) rfl, (procedure_ps h t).mono (fun e w' ha => aft_stp (m := .procedure) ha)⟩
      | params => exact ⟨_, _, _, rfl, enters_of Tryz.func136 (by kernel_rfl) rfl, (params_ps h t).mono (fun e w' ha => aft_stp (m := .params) ha)⟩
      | param => exact ⟨_, _, _, rfl, enters_of Tryz.func149 (by kernel_rfl) rfl, (param_ps h t).mono (fun e w' ha => aft_stp (m := .param) ha)⟩
      | typed => exact ⟨_, _, _, rfl, enters_of Tryz.func115 (by kernel_rfl) rfl, (typed_ps h t).mono (fun e w' ha => aft_stp (m := .typed) ha)⟩
      | kind => exact ⟨_, _, _, rfl, enters_of Tryz.func120 (by kernel_rfl) rfl, (kind_ps h t).mono (fun e w' ha => aft_stp (m := .kind) ha)⟩
      | member => exact ⟨_, _, _, rfl, enters_of Tryz.func137 (by kernel_rfl) rfl, (member_ps h t).mono (fun e w' ha => aft_stp (m := .member) ha)⟩
      | body => exact ⟨_, _, _, rfl, enters_of Tryz.func67 (by kernel_rfl) rfl, (body_ps h t).mono (fun e w' ha => aft_stp (m := .body) ha)⟩
      | statement => exact ⟨_, _, _, rfl, enters_of Tryz.func91 (by kernel_rfl) rfl, (statement_ps h t).mono (fun e w' ha => aft_stp (m := .statement) ha)⟩
      | expr => exact ⟨_, _, _, rfl, enters_of Tryz.func116 (by kernel_rfl) rfl, (expr_ps h t).mono (fun e w' ha => aft_stp (m := .expr) ha)⟩
      | rel => exact ⟨_, _, _, rfl, enters_of Tryz.func135 (by kernel_rfl) rfl, (rel_ps h t).mono (fun e w' ha => aft_stp (m := .rel) ha)⟩
      | sum => exact ⟨_, _, _, rfl, enters_of Tryz.func148 (by kernel_rfl) rfl, (sum_ps h t).mono (fun e w' ha => aft_stp (m := .sum) ha)⟩
      | term => exact ⟨_, _, _, rfl, enters_of Tryz.func163 (by kernel_rfl) rfl, (term_ps h t).mono (fun e w' ha => aft_stp (m := .term) ha)⟩
      | factor => exact ⟨_, _, _, rfl, enters_of Tryz.func168 (by kernel_rfl) rfl, (factor_ps h t).mono (fun e w' ha => aft_stp (m := .factor) ha)⟩
      | object => exact ⟨_, _, _, rfl, enters_of Tryz.func121 (by kernel_rfl) rfl, (object_ps h t).mono (fun e w' ha => aft_stp (m := .object) ha)⟩
      | index => exact ⟨_, _, _, rfl, enters_of Tryz.func150 (by kernel_rfl) rfl, (index_ps h t).mono (fun e w' ha => aft_stp (m := .index) ha)⟩
      | selection => exact ⟨_, _, _, rfl, enters_of Tryz.func151 (by kernel_rfl) rfl, (selection_ps h t).mono (fun e w' ha => aft_stp (m := .selection) ha)⟩
      | args => exact ⟨_, _, _, rfl, enters_of Tryz.func152 (by kernel_rfl) rfl, (args_ps h t).mono (fun e w' ha => aft_stp (m := .args) ha)⟩
      | list => exact ⟨_, _, _, rfl, enters_of Tryz.func164 (by kernel_rfl) rfl, (list_ps h t).mono (fun e w' ha => aft_stp (m := .list) ha)⟩
  | lv nd =>
    refine ⟨_, _, _, rfl, enters_of Tryz.func62 (by kernel_rfl) rfl, (leave_ps h.1 nd t h.2.1 h.2.2.1 h.2.2.2.2).mono ?_⟩
    rintro e w' ⟨rfl, hG⟩
    exact ⟨rfl, hG⟩
  | once hp =>
    refine ⟨_, _, _, rfl, enters_of Tryz.func118 (by kernel_rfl) rfl, (once_ps h.1 hp t h.2.2.2.1).mono ?_⟩
    rintro e w' ⟨rfl, hG⟩
    exact ⟨rfl, by simpa using hG⟩
  | again hp =>
    refine ⟨_, _, _, rfl, enters_of Tryz.func66 (by kernel_rfl) rfl, (again_ps h.1 hp t h.2.2.2.1).mono ?_⟩
    rintro e w' ⟨rfl, hG⟩
    exact ⟨rfl, by simpa using hG⟩
  | all hr =>
    refine ⟨_, _, _, rfl, enters_of Tryz.func140 (by kernel_rfl) rfl, (all_ps h.1 hr t h.2.2.2.1).mono ?_⟩
    rintro e w' ⟨rfl, hG⟩
    exact ⟨rfl, by simpa using hG⟩

end Go.Proofs.YtkigadnkclkopaaGreat

set_option linter.unusedVariables false
set_option linter.unusedSimpArgs false
namespace Go.Proofs.YtkigadnkclkopaaGreat
open Go.RowKit

theorem Rs.last {W : World} {v : Value} {ys : List Value} {x : Value} (h : Rs W v (ys ++ [x])) : ∃ b cap, v = .slice (some ⟨b, 0, none⟩) (ys.length + 1) cap ∧ ys.length + 1 ≤ cap ∧ W.cell? ⟨b, ys.length, none⟩ = some x ∧ (∀ j, W.frozen? ⟨b, j, none⟩ = false) ∧ b < W.heap.size ∧
    Rs (W.setCell ⟨b, ys.length, none⟩ .nilFunc) (.slice (some ⟨b, 0, none⟩) ys.length cap) ys := by
  rcases h.2 with ⟨_, h0⟩ | ⟨b, cap, cur, hv, h1, h2, h3, h4, h5, h6⟩
  · simp at h0
  · have hl : (ys ++ [x]).length = ys.length + 1 := by simp
    rw [hl] at hv h3
    have hc := h.cells (g := b) (by rw [hv]; rfl) ys.length x (by simp)
    rw [Addr.add_lit, Nat.zero_add] at hc
    refine ⟨b, cap, hv, h3, hc, fun j => blk_frozen h2, blk_lt h2, by simp, .inr ⟨b, cap, cur.setIfInBounds ys.length .nilFunc, rfl, h1, blk_set h2 _ _, by omega, h4, by simpa using h5, ?_⟩⟩
    rw [hl] at h6
    have e : cur.toList.take (ys.length * 1) = ys := by
      have := congrArg (List.take ys.length) h6
      rw [List.take_take] at this
      simpa [Nat.min_eq_left] using this
    rw [Array.toList_setIfInBounds]
    rw [List.take_set_of_le (by omega)]
    exact e
theorem Al.snoc {α : Type} {R : Value → α → Prop} {vs : List Value} {xs : List α} {x : α} (h : Al R vs (xs ++ [x])) : ∃ us u, vs = us ++ [u] ∧ Al R us xs ∧ R u x := by
  induction xs generalizing vs with
  | nil =>
    cases h with
    | cons h1 h2 => cases h2; exact ⟨[], _, rfl, .nil, h1⟩
  | cons y r ih =>
    cases h with
    | cons h1 h2 =>
      obtain ⟨us, u, rfl, a, b⟩ := ih h2
      exact ⟨_ :: us, u, rfl, .cons h1 a, b⟩

/-- Behind next. -/
structure Nx (g : Nat) (D : Nat → Prop) (vs vt : Value) (W W' : World) (n : Int) (K : List It) (E : List Ev) (v : Value) (i : It) : Prop where
  ps : ∃ vs', Ps g D W' n K E vs' vt ∧ vs'.ownBlock = vs.ownBlock
  rp : Rep g D W' v i
  kp : Kp (fun k => k = g ∨ vs.ownBlock = some k ∨ vt.ownBlock = some k) W W'

set_option maxHeartbeats 400000 in
theorem next_any {g : Nat} {D : Nat → Prop} {W : World} {n : Int} {K : List It} {E : List Ev} {vs vt : Value} {i : It} (h : Ps g D W n (i :: K) E vs vt) (hK : K.length ≤ 10000000) :
    Calls Tryz.prog 48 #[pt g] W fun e w' => ∃ v, e = .returned v ∧ Nx g D vs vt W w' n K E v i := by
  obtain ⟨xs, h1, h2⟩ := h.st
  rw [List.reverse_cons] at h2
  obtain ⟨ys, v, rfl, h3, h4⟩ := h2.snoc
  obtain ⟨b, cap, rfl, hcap, hc, hf, hb, hR⟩ := h1.last
  have hyl : ys.length ≤ 10000000 := by rw [h3.len, List.length_reverse]; exact hK
  have hbg : b ≠ g := h1.ne h.pb (by decide) b rfl
  have hN : ∀ k, D k → ¬ (k = b) := fun k hk e => h.ds b rfl (e ▸ hk)
  have pb1 : PB (W.setCell ⟨b, ys.length, none⟩ .nilFunc) g false 0 n (.slice (some ⟨b, 0, none⟩) (ys.length + 1) cap) vt := h.pb.kp (Kp.set W b _ _) (fun e => hbg e.symm)
  obtain ⟨fn, fi, ca, rfl⟩ := h4.isFn
  have HX : Hid (Nx g D (.slice (some ⟨b, 0, none⟩) (ys.length + 1) cap) vt W ((W.setCell ⟨b, ys.length, none⟩ .nilFunc).setCell ⟨g, 3, none⟩ (.slice (some ⟨b, 0, none⟩) ys.length cap)) n K E (.func fn fi ca) i) := by
    have k1 := Kp.set W b ys.length .nilFunc
    have k2 := Kp.set (W.setCell ⟨b, ys.length, none⟩ .nilFunc) g 3 (.slice (some ⟨b, 0, none⟩) ys.length cap)
    have hW : ∀ k o, D k → W.heap[k]? = some o → ((W.setCell ⟨b, ys.length, none⟩ .nilFunc).setCell ⟨g, 3, none⟩ (.slice (some ⟨b, 0, none⟩) ys.length cap)).heap[k]? = some o := fun k o hk ho => k2.blk (k1.blk ho (hN k hk)) (fun e => h.dg (e ▸ hk))
    refine ⟨⟨_, ⟨blk_set pb1 3 _, ⟨ys, hR.kp k2 (hR.ne pb1 (by decide)), h3.mono (fun v x hx => hx.turn (fun _ h => h) hW)⟩, (h.ev.kp k1 (fun k hk e => ?_)).kp k2 ?_, h.dg, h.ds, h.dt, fun k hk => Nat.lt_of_lt_of_le (Nat.lt_of_lt_of_le (h.dl k hk) k1.size) k2.size⟩, rfl⟩, h4.turn (fun _ h => h) hW, ?_⟩
    · rcases h1.2 with ⟨e1, _⟩ | ⟨b', cap', cur, e1, _, e3, _⟩
      · cases e1
      · have e4 := congrArg Value.ownBlock e1
        simp only [Value.ownBlock, Option.some.injEq] at e4
        exact h.ev.ne e3 (by decide) k hk (e.trans e4)
    · exact fun k hk e => h.ev.ne h.pb (by decide) k hk e
    · exact (k1.sub (fun k e => .inr (.inl (by rw [e]; rfl)))).step k2 (fun k _ e => .inl e)
  obtain ⟨c0, c1, c2, c3, c4⟩ := h.pb.cells
  have hfg := h.pb.frozen 3
  have hgl := h.pb.lt
  have d3 : (W.setCell ⟨b, ys.length, none⟩ .nilFunc).cell? ⟨g, 3, none⟩ = some (.slice (some ⟨b, 0, none⟩) (ys.length + 1) cap) := blk_cell pb1 rfl
  have f3 : (W.setCell ⟨b, ys.length, none⟩ .nilFunc).frozen? ⟨g, 3, none⟩ = false := pb1.frozen 3
  have fb := hf ys.length
  have q0 : (0 : Int) ≤ ys.length := by omega
  have q1 : (ys.length : Int) < (ys.length + 1 : Nat) := by omega
  have q2 : ((ys.length + 1 : Nat) : Int) - 1 = ys.length := by omega
  have q3 : IntKind.i64.wrap (((ys.length + 1 : Nat) : Int) - 1) = (ys.length : Int) := by rw [IntKind.wrap_i64]; omega
  have q4 : ys.length ≤ cap := by omega
  clear h h1 h2 h3 h4 hR hf hN pb1 hK
  go_enter Tryz.func48, Tryz.ntmps48
  go_wp2_with fail
  go_ret
  exact ⟨_, rfl, HX.out⟩

end Go.Proofs.YtkigadnkclkopaaGreat

set_option linter.unusedVariables false
set_option linter.unusedSimpArgs false
namespace Go.Proofs.YtkigadnkclkopaaGreat
open Go.RowKit

theorem least (p : Nat → Prop) : ∀ k, p k → ∃ m, p m ∧ ∀ j, p j → m ≤ j := by
  intro k
  induction k using Nat.strongRecOn with
  | _ k ih =>
    intro h
    by_cases hs : ∃ j, j < k ∧ p j
    · obtain ⟨j, hj, hp⟩ := hs
      exact ih j hj hp
    · exact ⟨k, h, fun j hp => Nat.le_of_not_lt (fun hlt => hs ⟨j, hlt, hp⟩)⟩
open Classical in
/-- The least number with which it holds. -/
noncomputable def lst (J : Nat → Act → World → Prop) (a : Act) (w : World) : Nat := if h : ∃ k, J k a w then Classical.choose (least (fun k => J k a w) _ (Classical.choose_spec h)) else 0
theorem lst_is {J : Nat → Act → World → Prop} {a : Act} {w : World} (h : ∃ k, J k a w) : J (lst J a w) a w ∧ ∀ j, J j a w → lst J a w ≤ j := by
  unfold lst
  rw [dif_pos h]
  exact Classical.choose_spec (least (fun k => J k a w) _ (Classical.choose_spec h))
/-- A scope with a label in it to which the run jumps back; how often it will is a number that nothing in memory tells. -/
theorem wp_scope_n {P : Program} {a : Act} {w : World} {Q : Exit → Act → World → Prop} {r rest : Code} (l : Nat) (J : Nat → Act → World → Prop) (hf : findLabel (r.seq ((Code.label l).seq rest)) l = some (Code.skip.seq rest))
    (first : r.wp P (Exit.then (fun a w => ∃ k, J k a w) (fun _ _ _ => False)) a w)
    (pass : ∀ k a w, J k a w → rest.wp P (Exit.jump l (fun a' w' => ∃ k', k' < k ∧ J k' a' w') Q) a w) : (Code.scope (r.seq ((Code.label l).seq rest))).wp P Q a w := by
  have pass' : ∀ a w, (∃ k, J k a w) → rest.wp P (Exit.jump l (fun a' w' => (∃ k, J k a' w') ∧ lst J a' w' < lst J a w) Q) a w := by
    intro a w h
    refine wp_mono (pass _ a w (lst_is h).1) ?_
    intro e a' w' he
    cases e with
    | goto l' =>
      obtain ⟨rfl, k', hk, hJ⟩ := he
      exact ⟨rfl, ⟨k', hJ⟩, Nat.lt_of_le_of_lt ((lst_is ⟨k', hJ⟩).2 k' hJ) hk⟩
    | normal => exact he
    | exit id => exact he
    | ret => exact he
    | panic ch => exact he
    | outgrown => exact he
  refine wp_scope_jumps l _ _ hf ?_ (fun a w h => wp_seq (wp_skip (pass' a w h)))
  refine wp_seq (wp_mono first ?_)
  intro e a' w' h
  cases e with
  | normal =>
    refine wp_seq (wp_label ?_)
    refine wp_mono (pass' a' w' h) ?_
    intro e2 a2 w2 h2
    cases e2 with
    | goto l' => exact ⟨h2.1, h2.2.1⟩
    | normal => exact h2
    | exit id => exact h2
    | ret => exact h2
    | panic ch => exact h2
    | outgrown => exact h2
  | goto l' => exact h.elim
  | exit id => exact h.elim
  | ret => exact h.elim
  | panic ch => exact h.elim
  | outgrown => exact h.elim

/-- Of a size for so many steps. -/
structure Bd (k : Nat) (K : List It) (n : Int) (E : List Ev) : Prop where
  wf : wfs K
  lv : ((lvs K).length : Int) = n
  sn : (lvs K).length + k ≤ 10000000
  sk : K.length + 12 * k ≤ 9000000
  se : E.length + k ≤ 900000000
theorem Bd.psz {k : Nat} {K : List It} {n : Int} {E : List Ev} (h : Bd k K n E) {i : It} {K' : List It} (hK : K = i :: K') {g : Nat} {D : Nat → Prop} {W : World} {vs vt : Value} (hp : Ps g D W n K' E vs vt) : Psz g D W n K' E vs vt := by
  have h1 := h.lv
  have h2 := h.sn
  have h3 := h.sk
  have h4 := h.se
  rw [hK] at h3
  simp at h3
  exact ⟨hp, by omega, by omega, by omega, by omega⟩
theorem Bd.go {k : Nat} {K : List It} {n d : Int} {E o : List Ev} {t : Tv} {i : It} {r : List It} (h : Bd (k + 1) (i :: K) n E) (hs : It.step t i = .go d o r) : Bd k (r ++ K) (n + d) (E ++ o) := by
  obtain ⟨a1, a2, a3, a4⟩ := step_ok (K := K) hs (h.wf i (List.mem_cons_self ..))
  have h1 := h.lv
  have h2 := h.sn
  have h3 := h.sk
  have h4 := h.se
  simp at h3
  refine ⟨wfs_app a1 (fun j hj => h.wf j (List.mem_cons_of_mem _ hj)), by omega, ?_, by simp; omega, by simp; omega⟩
  have hd : d ≤ 1 := by
    cases i with
    | fl x =>
      cases x with
      | mt m =>
        simp only [It.step, Fl.step] at hs
        cases hr : M.row t m with
        | ref => rw [hr] at hs; cases hs
        | ex r' => rw [hr] at hs; cases hs; omega
        | op nd r' => rw [hr] at hs; cases hs; omega
      | _ => simp only [It.step, Fl.step] at hs; split at hs <;> cases hs
    | lv nd => cases hs; omega
    | once p => cases hs; omega
    | again p => cases hs; omega
    | all r' => cases hs; omega
  omega

theorem Ru.inv {t : Tv} {k : Nat} {K : List It} {n : Int} {E : List Ev} {R : Ro} (h : Ru t k K n E R) : (K = [] ∧ R = .no) ∨ ∃ i L, K = i :: L ∧ ((It.step t i = .ref ∧ R = .no) ∨ (∃ k' d o r, k = k' + 1 ∧ It.step t i = .go d o r ∧ Ru t k' (r ++ L) (n + d) (E ++ o) R) ∨ (It.step t i = .tk ∧ R = .yes L n E)) := by
  cases h with
  | nil => exact .inl ⟨rfl, rfl⟩
  | ref h => exact .inr ⟨_, _, rfl, .inl ⟨h, rfl⟩⟩
  | tk h => exact .inr ⟨_, _, rfl, .inr (.inr ⟨h, rfl⟩)⟩
  | go h h' => exact .inr ⟨_, _, rfl, .inr (.inl ⟨_, _, _, _, rfl, h, h'⟩)⟩
/-- What read leaves. -/
def Rdp (g : Nat) (D : Nat → Prop) (vs vt : Value) (W : World) (t : Tv) (e : Ending) (w' : World) : Ro → Prop
  | .no => e = .returned (.int .i64 120) ∧ ∃ n K E, Gone g D vs vt W w' n K E
  | .yes K n E => (1000 < n → e = .returned (.int .i64 122) ∧ ∃ n K E, Gone g D vs vt W w' n K E) ∧ (n ≤ 1000 → e = .returned (.int .i64 0) ∧ Gone g D vs vt W w' n K (E ++ [⟨2, 0, t⟩]))

/-- At the label. -/
def Jr (g : Nat) (D : Nat → Prop) (vs vt : Value) (W : World) (tb : Nat) (t : Tv) (R : Ro) (k : Nat) (a : Act) (w : World) : Prop :=
  ∃ n K E, Gone g D vs vt W w n K E ∧ Ru t k K n E R ∧ Bd k K n E ∧ ∃ u5 u6 u7 u8 u9 u10 u11 u12 u13 u14 u15 u16 u17 u18 u19 u20 u21 u22 u23 u24 u25 u26 u27 u28 u29 u30 u31 u32 u33 u34 u35 u36 u37 u38 u39, a = { tmps := #[pt g, .agg #[.int .u8 t.k, .string t.t, .int .i64 t.a, .int .i64 t.l, .int .i64 t.c, .int .i64 t.f], undef, .pointer (some ⟨tb, 0, none⟩), .int .i64 0, u5, u6, u7, u8, u9, u10, u11, u12, u13, u14, u15, u16, u17, u18, u19, u20, u21, u22, u23, u24, u25, u26, u27, u28, u29, u30, u31, u32, u33, u34, u35, u36, u37, u38, u39], defers := [] }
/-- What the token's block is. -/
def Tb (W : World) (tb : Nat) (t : Tv) : Prop := W.heap[tb]? = some (.cells #[.int .u8 t.k, .string t.t, .int .i64 t.a, .int .i64 t.l, .int .i64 t.c, .int .i64 t.f] 28 (0, 0))
theorem Tb.cells {W : World} {tb : Nat} {t : Tv} (h : Tb W tb t) : W.cell? ⟨tb, 0, none⟩ = some (.int .u8 t.k) ∧ W.cell? ⟨tb, 1, none⟩ = some (.string t.t) ∧ W.cell? ⟨tb, 2, none⟩ = some (.int .i64 t.a) ∧ W.cell? ⟨tb, 3, none⟩ = some (.int .i64 t.l) ∧ W.cell? ⟨tb, 4, none⟩ = some (.int .i64 t.c) ∧ W.cell? ⟨tb, 5, none⟩ = some (.int .i64 t.f) :=
  ⟨blk_cell h rfl, blk_cell h rfl, blk_cell h rfl, blk_cell h rfl, blk_cell h rfl, blk_cell h rfl⟩
/-- The token's block is none of the parser's own. -/
theorem Tb.kp {W W' : World} {tb : Nat} {t : Tv} (h : Tb W tb t) {g : Nat} {D : Nat → Prop} {n : Int} {K : List It} {E : List Ev} {vs vt : Value} (hp : Ps g D W n K E vs vt) (hk : Kp (fun k => k = g ∨ vs.ownBlock = some k ∨ vt.ownBlock = some k) W W') : Tb W' tb t := by
  refine hk.blk h ?_
  obtain ⟨xs, h1, _⟩ := hp.st
  rintro (e | e | e)
  · subst e
    have := h.symm.trans hp.pb
    injection this with e
    injection e with _ e
    exact absurd e (by decide)
  · exact h1.ne h (by decide) tb e rfl
  · exact hp.ev.ne h (by decide) tb e rfl
theorem Nx.gone {g : Nat} {D : Nat → Prop} {vs vt : Value} {W W' : World} {n : Int} {K : List It} {E : List Ev} {v : Value} {i : It} (h : Nx g D vs vt W W' n K E v i) : Gone g D vs vt W W' n K E := by
  obtain ⟨vs', p, e⟩ := h.ps
  exact ⟨D, vs', vt, p, h.kp, .inl e, Nb.refl _ _, fun _ h => h, fun _ h => .inl h⟩


/-- One state is asked, at the label: what next and the state's call leave. -/
theorem ask_any {g : Nat} {D : Nat → Prop} {vs vt : Value} {W w : World} {t : Tv} {n : Int} {K : List It} {E : List Ev} {i : It} {k : Nat} (hG : Gone g D vs vt W w n (i :: K) E) (hB : Bd k (i :: K) n E) {tb : Nat} (hT : Tb w tb t) :
    Calls Tryz.prog 48 #[pt g] w fun e w1 => ∃ f fi ca, e = .returned (.func (.func f) fi ca) ∧ Ent f ∧ Tb w1 tb t ∧
      Calls Tryz.prog f (fi.push t.v ++ ca) w1 fun e2 w2 => Tb w2 tb t ∧ (match It.step t i with
        | .tk => e2 = .returned (.int .i64 2) ∧ Gone g D vs vt W w2 n K E
        | .ref => e2 = .returned (.int .i64 0) ∧ Gone g D vs vt W w2 n K E
        | .go d o r => e2 = .returned (.int .i64 1) ∧ Gone g D vs vt W w2 (n + d) (r ++ K) (E ++ o)) := by
  obtain ⟨D1, vs1, vt1, p1, k1, ns1, nt1, d1, d2⟩ := hG
  have hz := hB.sk
  simp at hz
  refine (next_any p1 (by omega)).mono ?_
  rintro e w1 ⟨v, rfl, hx⟩
  have hT1 := hT.kp p1 hx.kp
  obtain ⟨vs2, p2, e2⟩ := hx.ps
  obtain ⟨f, fi, ca, rfl, eg, hc⟩ := state_any (hB.psz rfl p2) hx.rp t
  refine ⟨f, fi, ca, rfl, eg, hT1, hc.mono ?_⟩
  intro e3 w3 hs
  have gg : ∀ {n' K' E'}, Gone g D1 vs2 vt1 w1 w3 n' K' E' → Tb w3 tb t ∧ Gone g D vs vt W w3 n' K' E' := by
    intro n' K' E' h
    have h2 : Gone g D1 vs1 vt1 w w3 n' K' E' := Gone.go hx.kp (.inl e2) (Nb.refl _ _) (fun _ h => h) (fun _ h => .inl h) h
    refine ⟨?_, Gone.go k1 ns1 nt1 d1 d2 h2⟩
    obtain ⟨_, _, _, _, k5, _⟩ := h
    exact hT1.kp p2 k5
  cases hst : It.step t i with
  | tk =>
    rw [hst] at hs
    obtain ⟨a, b⟩ := gg (p2.quiet hs.2)
    exact ⟨a, hs.1, b⟩
  | ref =>
    rw [hst] at hs
    obtain ⟨a, b⟩ := gg (p2.quiet hs.2)
    exact ⟨a, hs.1, b⟩
  | go d o r =>
    rw [hst] at hs
    obtain ⟨a, b⟩ := gg hs.2
    exact ⟨a, hs.1, b⟩
theorem Gone.drew {g : Nat} {D : Nat → Prop} {vs vt : Value} {W w w' : World} {n : Int} {K : List It} {E : List Ev} (h : Gone g D vs vt W w n K E) (hb : Below w.heap.size w w') : Gone g D vs vt W w' n K E := by
  obtain ⟨D1, vs1, vt1, p1, k1, ns1, nt1, d1, d2⟩ := h
  exact Gone.go k1 ns1 nt1 d1 d2 (p1.quiet hb)
theorem tell_gone {g : Nat} {D : Nat → Prop} {vs vt : Value} {W w : World} {n : Int} {K : List It} {E : List Ev} (h : Gone g D vs vt W w n K E) (d : Ev) (hl : E.length ≤ 1000000000) :
    Calls Tryz.prog 47 #[pt g, d.v] w fun e w' => e = .returned (.tuple #[]) ∧ Gone g D vs vt W w' n K (E ++ [d]) := by
  obtain ⟨D1, vs1, vt1, p1, k1, ns1, nt1, d1, d2⟩ := h
  refine (tell_ps p1 d hl).mono ?_
  rintro e w' ⟨rfl, ⟨vt2, p2, n2⟩, k2⟩
  exact ⟨rfl, Gone.go k1 ns1 nt1 d1 d2 ⟨D1, vs1, vt2, p2, k2.sub (fun k h => h.elim .inl (fun h => .inr (.inr h))), Nb.refl _ _, n2, fun _ h => h, fun _ h => .inl h⟩⟩
theorem Tb.below {W W' : World} {tb : Nat} {t : Tv} (h : Tb W tb t) (hb : Below W.heap.size W W') : Tb W' tb t := blk_below h hb

set_option maxRecDepth 100000 in
set_option maxHeartbeats 4000000 in
theorem pread_any {g : Nat} {D : Nat → Prop} {W : World} {n : Int} {K : List It} {E : List Ev} {vs vt : Value} (h : Ps g D W n K E vs vt) (t : Tv) (h7 : (t.k == 7) = false) (h8 : (t.k == 8) = false) {k : Nat} {R : Ro} (hR : Ru t k K n E R) (hB : Bd k K n E) :
    Calls Tryz.prog 27 #[pt g, t.v] W fun e w' => Rdp g D vs vt W t e w' R := by
  have hG0 : Gone g D vs vt W (W.alloc (.cells #[.int .u8 t.k, .string t.t, .int .i64 t.a, .int .i64 t.l, .int .i64 t.c, .int .i64 t.f] 28)) n K E := h.quiet (pbelow_new _ _)
  have hT0 : Tb (W.alloc (.cells #[.int .u8 t.k, .string t.t, .int .i64 t.a, .int .i64 t.l, .int .i64 t.c, .int .i64 t.f] 28)) W.heap.size t := new_at _ _
  have HJ : Hid (Gone g D vs vt W (W.alloc (.cells #[.int .u8 t.k, .string t.t, .int .i64 t.a, .int .i64 t.l, .int .i64 t.c, .int .i64 t.f] 28)) n K E ∧ Tb (W.alloc (.cells #[.int .u8 t.k, .string t.t, .int .i64 t.a, .int .i64 t.l, .int .i64 t.c, .int .i64 t.f] 28)) W.heap.size t ∧ Ru t k K n E R ∧ Bd k K n E) := ⟨hG0, hT0, hR, hB⟩
  clear hG0 hT0 hR hB h
  dsimp only [Tv.v]
  go_enter Tryz.func27, Tryz.ntmps27
  go_wp2_with fail
  refine wp_scope_n 0 (fun k a w => Jr g D vs vt W W.heap.size t R k a w ∧ Tb w W.heap.size t) (by rfl) ?_ ?_
  · go_wp2_with fail
    exact ⟨k, ⟨n, K, E, HJ.out.1, HJ.out.2.2.1, HJ.out.2.2.2, _, _, _, _, _, _, _, _, _, _, _, _, _, _, _, _, _, _, _, _, _, _, _, _, _, _, _, _, _, _, _, _, _, _, _, rfl⟩, HJ.out.2.1⟩
  · rintro k a w ⟨⟨n, K, E, hG, hR, hB, u5, u6, u7, u8, u9, u10, u11, u12, u13, u14, u15, u16, u17, u18, u19, u20, u21, u22, u23, u24, u25, u26, u27, u28, u29, u30, u31, u32, u33, u34, u35, u36, u37, u38, u39, rfl⟩, hT⟩
    have hG' := hG
    obtain ⟨D1, vs1, vt1, p1, _⟩ := hG'
    obtain ⟨xs, r1, r2⟩ := p1.st
    have hxl : xs.length = K.length := by rw [r2.len, List.length_reverse]
    obtain ⟨pp, cp, rfl, _⟩ := r1.shape
    have c3 : w.cell? ⟨g, 3, none⟩ = some (.slice pp xs.length cp) := blk_cell p1.pb rfl
    have HE : Hid (∃ n K E, Gone g D vs vt W w n K E) := ⟨n, K, E, hG⟩
    obtain ⟨tb, htb⟩ : ∃ tb, tb = W.heap.size := ⟨_, rfl⟩
    rw [← htb] at hT ⊢
    have HTB : Hid (tb = W.heap.size) := htb
    clear p1 r1 r2 h7 h8 HJ htb
    rcases hR.inv with ⟨rfl, rfl⟩ | ⟨i, L, rfl, ⟨hs, rfl⟩ | ⟨k', d, o, r, rfl, hs, hR'⟩ | ⟨hs, rfl⟩⟩
    · clear hR
      have q1 : ((xs.length : Int) == 0) = true := by simp at hxl; simp [hxl]
      clear hxl hG hB hT
      go_wp2_with fail
      simp only [Exit.jump]
      go_ret
      exact ⟨rfl, HE.out⟩
    · clear hR
      have q1 : ((xs.length : Int) == 0) = false := by rw [beq_eq_false_iff_ne]; have : xs.length = L.length + 1 := (by simpa using hxl); omega
      have HA : Hid (∀ V, Below w.heap.size w V → Calls Tryz.prog 48 #[pt g] V fun e w1 => ∃ f fi ca, e = .returned (.func (.func f) fi ca) ∧ Ent f ∧ Tb w1 tb t ∧ Calls Tryz.prog f (fi.push (.agg #[.int .u8 t.k, .string t.t, .int .i64 t.a, .int .i64 t.l, .int .i64 t.c, .int .i64 t.f]) ++ ca) w1 fun e2 w2 => Tb w2 tb t ∧ e2 = .returned (.int .i64 0) ∧ Gone g D vs vt W w2 n L E) := fun V hb => by
        have := ask_any (hG.drew hb) hB (hT.below hb)
        rw [hs] at this
        exact this
      obtain ⟨m0, m1, m2, m3, m4, m5⟩ := hT.cells
      clear hxl hG hB hT hs HE
      go_wp2_with fail
      go_region_with (first
        | (go_at_call 48; refine (HA.out _ (Below.refl _ _).drew).mono ?_; rintro e w1 ⟨f, fi, ca, rfl, eg, hT1, hc⟩; obtain ⟨m0, m1, m2, m3, m4, m5⟩ := hT1.cells; have HC : Hid (Calls Tryz.prog f (fi.push (.agg #[.int .u8 t.k, .string t.t, .int .i64 t.a, .int .i64 t.l, .int .i64 t.c, .int .i64 t.f]) ++ ca) w1 fun e2 w2 => Tb w2 tb t ∧ e2 = .returned (.int .i64 0) ∧ Gone g D vs vt W w2 n L E) := hc; clear hc hT1)
        | (refine HC.out.mono ?_; rintro e w2 ⟨hT2, rfl, hG2⟩; have HG2 : Hid (Tb w2 tb t ∧ Gone g D vs vt W w2 n L E) := ⟨hT2, hG2⟩; clear hT2 hG2))
      all_goals (
        go_wp2_with fail
        simp only [Exit.jump]
        go_ret
        exact ⟨rfl, _, _, _, HG2.out.2⟩)
    · clear hR
      have q1 : ((xs.length : Int) == 0) = false := by rw [beq_eq_false_iff_ne]; have : xs.length = L.length + 1 := (by simpa using hxl); omega
      have HA : Hid (∀ V, Below w.heap.size w V → Calls Tryz.prog 48 #[pt g] V fun e w1 => ∃ f fi ca, e = .returned (.func (.func f) fi ca) ∧ Ent f ∧ Tb w1 tb t ∧ Calls Tryz.prog f (fi.push (.agg #[.int .u8 t.k, .string t.t, .int .i64 t.a, .int .i64 t.l, .int .i64 t.c, .int .i64 t.f]) ++ ca) w1 fun e2 w2 => Tb w2 tb t ∧ e2 = .returned (.int .i64 1) ∧ Gone g D vs vt W w2 (n + d) (r ++ L) (E ++ o)) := fun V hb => by
        have := ask_any (hG.drew hb) hB (hT.below hb)
        rw [hs] at this
        exact this
      have HX : Hid (Ru t k' (r ++ L) (n + d) (E ++ o) R ∧ Bd k' (r ++ L) (n + d) (E ++ o)) := ⟨hR', hB.go hs⟩
      obtain ⟨m0, m1, m2, m3, m4, m5⟩ := hT.cells
      clear hxl hG hB hT hs HE hR'
      go_wp2_with fail
      go_region_with (first
        | (go_at_call 48; refine (HA.out _ (Below.refl _ _).drew).mono ?_; rintro e w1 ⟨f, fi, ca, rfl, eg, hT1, hc⟩; obtain ⟨m0, m1, m2, m3, m4, m5⟩ := hT1.cells; have HC : Hid (Calls Tryz.prog f (fi.push (.agg #[.int .u8 t.k, .string t.t, .int .i64 t.a, .int .i64 t.l, .int .i64 t.c, .int .i64 t.f]) ++ ca) w1 fun e2 w2 => Tb w2 tb t ∧ e2 = .returned (.int .i64 1) ∧ Gone g D vs vt W w2 (n + d) (r ++ L) (E ++ o)) := hc; clear hc hT1)
        | (refine HC.out.mono ?_; rintro e w2 ⟨hT2, rfl, hG2⟩; have HG2 : Hid (Tb w2 tb t ∧ Gone g D vs vt W w2 (n + d) (r ++ L) (E ++ o)) := ⟨hT2, hG2⟩; clear hT2 hG2))
      all_goals (
        go_wp2_with fail
        go_step3
        refine ⟨rfl, k', Nat.lt_succ_self _, ?_⟩
        exact ⟨⟨n + d, r ++ L, E ++ o, HG2.out.2, HX.out.1, HX.out.2, _, _, _, _, _, _, _, _, _, _, _, _, _, _, _, _, _, _, _, _, _, _, _, _, _, _, _, _, _, _, _, _, _, _, _, rfl⟩, HG2.out.1⟩)
    · clear hR
      have q1 : ((xs.length : Int) == 0) = false := by rw [beq_eq_false_iff_ne]; have : xs.length = L.length + 1 := (by simpa using hxl); omega
      have HA : Hid (∀ V, Below w.heap.size w V → Calls Tryz.prog 48 #[pt g] V fun e w1 => ∃ f fi ca, e = .returned (.func (.func f) fi ca) ∧ Ent f ∧ Tb w1 tb t ∧ Calls Tryz.prog f (fi.push (.agg #[.int .u8 t.k, .string t.t, .int .i64 t.a, .int .i64 t.l, .int .i64 t.c, .int .i64 t.f]) ++ ca) w1 fun e2 w2 => Tb w2 tb t ∧ e2 = .returned (.int .i64 2) ∧ Gone g D vs vt W w2 n L E) := fun V hb => by
        have := ask_any (hG.drew hb) hB (hT.below hb)
        rw [hs] at this
        exact this
      have HL : Hid (E.length ≤ 1000000000) := by have := hB.se; show E.length ≤ _; omega
      obtain ⟨m0, m1, m2, m3, m4, m5⟩ := hT.cells
      clear hxl hG hB hT hs HE
      by_cases hn : 1000 < n
      · go_wp2_with fail
        go_region_with (first
          | (go_at_call 48; refine (HA.out _ (Below.refl _ _).drew).mono ?_; rintro e w1 ⟨f, fi, ca, rfl, eg, hT1, hc⟩; obtain ⟨m0, m1, m2, m3, m4, m5⟩ := hT1.cells; have HC : Hid (Calls Tryz.prog f (fi.push (.agg #[.int .u8 t.k, .string t.t, .int .i64 t.a, .int .i64 t.l, .int .i64 t.c, .int .i64 t.f]) ++ ca) w1 fun e2 w2 => Tb w2 tb t ∧ e2 = .returned (.int .i64 2) ∧ Gone g D vs vt W w2 n L E) := hc; clear hc hT1)
          | (refine HC.out.mono ?_; rintro e w2 ⟨hT2, rfl, hG2⟩; have HG2 : Hid (Tb w2 tb t ∧ Gone g D vs vt W w2 n L E) := ⟨hT2, hG2⟩; have d2 : w2.cell? ⟨g, 2, none⟩ = some (.int .i64 n) := (by obtain ⟨_, _, _, p, _⟩ := hG2; exact blk_cell p.pb rfl); clear hT2 hG2))
        all_goals (
          go_wp2_with fail
          simp only [Exit.jump]
          go_ret
          exact ⟨fun _ => ⟨rfl, _, _, _, HG2.out.2⟩, fun hh => absurd hh (by omega)⟩)
      · go_wp2_with fail
        go_region_with (first
          | (go_at_call 48; refine (HA.out _ (Below.refl _ _).drew).mono ?_; rintro e w1 ⟨f, fi, ca, rfl, eg, hT1, hc⟩; obtain ⟨m0, m1, m2, m3, m4, m5⟩ := hT1.cells; have HC : Hid (Calls Tryz.prog f (fi.push (.agg #[.int .u8 t.k, .string t.t, .int .i64 t.a, .int .i64 t.l, .int .i64 t.c, .int .i64 t.f]) ++ ca) w1 fun e2 w2 => Tb w2 tb t ∧ e2 = .returned (.int .i64 2) ∧ Gone g D vs vt W w2 n L E) := hc; clear hc hT1)
          | (refine HC.out.mono ?_; rintro e w2 ⟨hT2, rfl, hG2⟩; have HG2 : Hid (Tb w2 tb t ∧ Gone g D vs vt W w2 n L E) := ⟨hT2, hG2⟩; have d2 : w2.cell? ⟨g, 2, none⟩ = some (.int .i64 n) := (by obtain ⟨_, _, _, p, _⟩ := hG2; exact blk_cell p.pb rfl); obtain ⟨z0, z1, z2, z3, z4, z5⟩ := hT2.cells; clear hT2 hG2))
        all_goals (
          have HT3 : Hid (Calls Tryz.prog 47 #[pt g, .agg #[.int .u8 2, .int .u8 0, .int .u8 t.k, .string t.t, .int .i64 t.a, .int .i64 t.l, .int .i64 t.c, .int .i64 t.f]] w2 fun e w' => e = .returned (.tuple #[]) ∧ Gone g D vs vt W w' n L (E ++ [⟨2, 0, t⟩])) := tell_gone HG2.out.2 ⟨2, 0, t⟩ HL.out
          go_wp2_with (go_at_call 47; refine HT3.out.mono ?_; rintro e w3 ⟨rfl, hG3⟩; have HG3 : Hid (Gone g D vs vt W w3 n L (E ++ [⟨2, 0, t⟩])) := hG3; clear hG3)
          simp only [Exit.jump]
          go_ret
          exact ⟨fun hh => absurd hh (by omega), fun _ => ⟨rfl, HG3.out⟩⟩)

end Go.Proofs.YtkigadnkclkopaaGreat

set_option linter.unusedVariables false
set_option linter.unusedSimpArgs false
namespace Go.Proofs.YtkigadnkclkopaaGreat
open Go.RowKit

/-! Put, Close, Depth, New. -/
theorem note_any {g : Nat} {D : Nat → Prop} {W : World} {n : Int} {K : List It} {E : List Ev} {vs vt : Value} (h : Ps g D W n K E vs vt) (t : Tv) (h7 : (t.k == 7 || t.k == 8) = true) (hE : E.length ≤ 1000000000) :
    Calls Tryz.prog 27 #[pt g, t.v] W fun e w' => e = .returned (.int .i64 0) ∧ Gone g D vs vt W w' n K (E ++ [⟨4, 0, t⟩]) := by
  have hb : Below W.heap.size W (W.alloc (.cells #[.int .u8 t.k, .string t.t, .int .i64 t.a, .int .i64 t.l, .int .i64 t.c, .int .i64 t.f] 28)) := pbelow_new _ _
  have HT : Hid (Calls Tryz.prog 47 #[pt g, .agg #[.int .u8 4, .int .u8 0, .int .u8 t.k, .string t.t, .int .i64 t.a, .int .i64 t.l, .int .i64 t.c, .int .i64 t.f]] (W.alloc (.cells #[.int .u8 t.k, .string t.t, .int .i64 t.a, .int .i64 t.l, .int .i64 t.c, .int .i64 t.f] 28)) fun e w' => e = .returned (.tuple #[]) ∧ Gone g D vs vt W w' n K (E ++ [⟨4, 0, t⟩])) := tell_gone (h.quiet hb) ⟨4, 0, t⟩ hE
  clear h hb hE
  dsimp only [Tv.v]
  by_cases h1 : (t.k == 7) = true
  · clear h7
    go_enter Tryz.func27, Tryz.ntmps27
    go_wp2_with fail
    refine wp_scope_jumps 0 (fun _ _ => False) (fun _ _ => 0) rfl ?_ (fun _ _ h => h.elim)
    go_wp2_with (go_at_call 47; refine HT.out.mono ?_; rintro e w3 ⟨rfl, hG3⟩; have HG3 : Hid (Gone g D vs vt W w3 n K (E ++ [⟨4, 0, t⟩])) := hG3; clear hG3)
    simp only [Exit.jump]
    go_ret
    exact ⟨rfl, HG3.out⟩
  · have h2 : (t.k == 7) = false := by simpa using h1
    have h3 : (t.k == 8) = true := by rw [h2] at h7; simpa using h7
    clear h7 h1
    go_enter Tryz.func27, Tryz.ntmps27
    go_wp2_with fail
    refine wp_scope_jumps 0 (fun _ _ => False) (fun _ _ => 0) rfl ?_ (fun _ _ h => h.elim)
    go_wp2_with (go_at_call 47; refine HT.out.mono ?_; rintro e w3 ⟨rfl, hG3⟩; have HG3 : Hid (Gone g D vs vt W w3 n K (E ++ [⟨4, 0, t⟩])) := hG3; clear hG3)
    simp only [Exit.jump]
    go_ret
    exact ⟨rfl, HG3.out⟩

theorem refusal_any {W : World} {g : Nat} {c : Bool} {e n : Int} {vs vt : Value} (h : PB W g c e n vs vt) : Calls Tryz.prog 25 #[pt g] W fun r w' => r = .returned (.int .i64 (if c then 4 else e)) ∧ w' = W := by
  obtain ⟨c0, c1, c2, c3, c4⟩ := h.cells
  clear h
  cases c
  · go_enter Tryz.func25, Tryz.ntmps25
    go_wp2_with fail
    go_ret
    exact ⟨rfl, rfl⟩
  · go_enter Tryz.func25, Tryz.ntmps25
    go_wp2_with fail
    go_ret
    exact ⟨rfl, rfl⟩
theorem refusal_nil (W : World) : Calls Tryz.prog 25 #[.pointer none] W fun r w' => r = .returned (.int .i64 3) ∧ w' = W := by
  go_enter Tryz.func25, Tryz.ntmps25
  go_wp2_with fail
  go_ret
  exact ⟨rfl, rfl⟩
abbrev nilS : Value := .slice none 0 0
theorem new_any (W : World) : Calls Tryz.prog 10 #[] W fun r w' => r = .returned (pt W.heap.size) ∧ w' = W.alloc (.cells #[.bool false, .int .i64 0, .int .i64 0, nilS, nilS] 73) := by
  go_enter Tryz.func10, Tryz.ntmps10
  go_wp2_with fail
  go_ret
  exact ⟨rfl, rfl⟩
theorem shut_any {W : World} {g : Nat} {c : Bool} {e n : Int} {vs vt : Value} (h : PB W g c e n vs vt) : Calls Tryz.prog 28 #[pt g] W fun r w' => r = .returned (.tuple #[]) ∧ PB w' g true 0 0 nilS nilS ∧ Kp (fun k => k = g) W w' := by
  obtain ⟨c0, c1, c2, c3, c4⟩ := h.cells
  have f0 := h.frozen 0
  have f1 := h.frozen 1
  have f2 := h.frozen 2
  have f3 := h.frozen 3
  have f4 := h.frozen 4
  have HP : Hid (PB W g c e n vs vt) := h
  have HX : Hid (PB (((((W.setCell ⟨g, 0, none⟩ (.bool true)).setCell ⟨g, 1, none⟩ (.int .i64 0)).setCell ⟨g, 2, none⟩ (.int .i64 0)).setCell ⟨g, 3, none⟩ nilS).setCell ⟨g, 4, none⟩ nilS) g true 0 0 nilS nilS ∧ Kp (fun k => k = g) W (((((W.setCell ⟨g, 0, none⟩ (.bool true)).setCell ⟨g, 1, none⟩ (.int .i64 0)).setCell ⟨g, 2, none⟩ (.int .i64 0)).setCell ⟨g, 3, none⟩ nilS).setCell ⟨g, 4, none⟩ nilS)) :=
    ⟨blk_set (blk_set (blk_set (blk_set (blk_set h 0 _) 1 _) 2 _) 3 _) 4 _, (((((Kp.set W g 0 _).trans (Kp.set _ g 1 _)).trans (Kp.set _ g 2 _)).trans (Kp.set _ g 3 _)).trans (Kp.set _ g 4 _))⟩
  clear h
  go_enter Tryz.func28, Tryz.ntmps28
  go_wp2_with fail
  go_end0
  exact ⟨rfl, HX.out⟩
theorem shut_nil (W : World) : Calls Tryz.prog 28 #[.pointer none] W fun r w' => r = .returned (.tuple #[]) ∧ w' = W := by
  go_enter Tryz.func28, Tryz.ntmps28
  go_wp2_with fail
  go_end0
  exact ⟨rfl, rfl⟩

end Go.Proofs.YtkigadnkclkopaaGreat

set_option linter.unusedVariables false
set_option linter.unusedSimpArgs false
namespace Go.Proofs.YtkigadnkclkopaaGreat
open Go.RowKit

/-! The parser as its caller sees it. -/
/-- In memory; S: all blocks of its own. -/
structure Lv1 (S : Nat → Prop) (W : World) (g : Nat) (K : List It) (n : Int) (D : Nat → Prop) (vs : Value) : Prop where
  ps : Ps g D W n K [] vs nilS
  sg : S g
  ss : ∀ k, vs.ownBlock = some k → S k
  sd : ∀ k, D k → S k
def Pq (S : Nat → Prop) (W : World) (g : Nat) : Pst → Prop
  | .live K n => ∃ D vs, Lv1 S W g K n D vs
  | .stuck e n => PB W g false e n nilS nilS ∧ S g
  | .shut => PB W g true 0 0 nilS nilS ∧ S g
theorem Pq.kp {S U : Nat → Prop} {W W' : World} {g : Nat} {st : Pst} (h : Pq S W g st) (hk : Kp U W W') (hU : ∀ k, S k → ¬ U k) : Pq S W' g st := by
  cases st with
  | live K n =>
    obtain ⟨D, vs, h⟩ := h
    obtain ⟨xs, h1, h2⟩ := h.ps.st
    exact ⟨D, vs, ⟨h.ps.pb.kp hk (hU g h.sg), ⟨xs, h1.kp hk (fun k e => hU k (h.ss k e)), h2.mono (fun v x hx => hx.turn (fun _ h => h) (fun k o hd ho => hk.blk ho (hU k (h.sd k hd))))⟩, h.ps.ev.kp hk (fun k e => by cases e), h.ps.dg, h.ps.ds, h.ps.dt, fun k hd => Nat.lt_of_lt_of_le (h.ps.dl k hd) hk.size⟩, h.sg, h.ss, h.sd⟩
  | stuck e n => exact ⟨h.1.kp hk (hU g h.2), h.2⟩
  | shut => exact ⟨h.1.kp hk (hU g h.2), h.2⟩
theorem Pq.below {S : Nat → Prop} {W W' : World} {g : Nat} {st : Pst} (h : Pq S W g st) (hb : Below W.heap.size W W') : Pq S W' g st := h.kp (Kp.of_below (S := fun _ => False) hb) (fun _ _ h => h)
theorem Pq.pb {S : Nat → Prop} {W : World} {g : Nat} {st : Pst} (h : Pq S W g st) : (∃ c e n vs, PB W g c e n vs nilS) ∧ S g := by
  cases st with
  | live K n => obtain ⟨D, vs, h⟩ := h; exact ⟨⟨_, _, _, _, h.ps.pb⟩, h.sg⟩
  | stuck e n => exact ⟨⟨_, _, _, _, h.1⟩, h.2⟩
  | shut => exact ⟨⟨_, _, _, _, h.1⟩, h.2⟩
/-- What a call leaves: its row is new, and not the parser's. -/
structure Pa (S : Nat → Prop) (g : Nat) (W W' : World) (v : Value) (ev : List Ev) (st : Pst) : Prop where
  re : Re W' v ev
  ex : ∃ S', Pq S' W' g st ∧ (∀ k, S k → S' k) ∧ (∀ k, S' k → S k ∨ (W.heap.size ≤ k ∧ k < W'.heap.size)) ∧ (∀ k, v.ownBlock = some k → W.heap.size ≤ k ∧ ¬ S' k)
  kp : Kp S W W'
theorem pa_nil {S : Nat → Prop} {g : Nat} {W W' : World} {st : Pst} (h : Pq S W' g st) (hk : Kp S W W') : Pa S g W W' nilS [] st :=
  ⟨re_nil _, ⟨S, h, fun _ h => h, fun _ h => .inl h, fun k e => by cases e⟩, hk⟩
/-- The told row is handed over. -/
theorem pa_told {S : Nat → Prop} {g : Nat} {W w : World} {K K' : List It} {n n' : Int} {D : Nat → Prop} {vs : Value} (h : Lv1 S W g K n D vs) (hl : ∀ k, S k → k < W.heap.size) {E : List Ev} (hG : Gone g D vs nilS W w n' K' E) :
    ∃ vs' vt', PB w g false 0 n' vs' vt' ∧ Pa S g W (w.setCell ⟨g, 4, none⟩ nilS) vt' E (.live K' n') := by
  obtain ⟨D1, vs1, vt1, p1, k1, ns1, nt1, d1, d2⟩ := hG
  have hk := Kp.set w g 4 nilS
  obtain ⟨xs, h1, h2⟩ := p1.st
  have hvt : ∀ k, vt1.ownBlock = some k → W.heap.size ≤ k := by
    intro k e
    rcases nt1 with e1 | ⟨q, e1, hq⟩
    · rw [e1] at e; cases e
    · rw [e1] at e; simp at e; omega
  have hvs : ∀ k, vs1.ownBlock = some k → S k ∨ W.heap.size ≤ k := by
    intro k e
    rcases ns1 with e1 | ⟨q, e1, hq⟩
    · exact .inl (h.ss k (by rw [← e1]; exact e))
    · rw [e1] at e; simp at e; exact .inr (by omega)
  have hsz : (w.setCell ⟨g, 4, none⟩ nilS).heap.size = w.heap.size := by show (w.heap.modify g _).size = _; rw [Array.size_modify]
  refine ⟨vs1, vt1, p1.pb, p1.ev.kp hk (p1.ev.ne p1.pb (by decide)), ⟨fun k => S k ∨ D1 k ∨ vs1.ownBlock = some k, ⟨D1, vs1, ⟨blk_set p1.pb 4 _, ⟨xs, h1.kp hk (h1.ne p1.pb (by decide)), h2.mono (fun v x hx => hx.turn (fun _ h => h) (fun k o hd ho => hk.blk ho (fun e => p1.dg (e ▸ hd))))⟩, re_nil _, p1.dg, p1.ds, (fun k e => by cases e), (fun k hd => by rw [hsz]; exact p1.dl k hd)⟩, .inl h.sg, fun k e => .inr (.inr e), fun k hd => .inr (.inl hd)⟩, fun k hk => .inl hk, ?_, ?_⟩, ?_⟩
  · rintro k (a | a | a)
    · exact .inl a
    · rcases d2 k a with b | b
      · exact .inl (h.sd k b)
      · exact .inr ⟨b, by rw [hsz]; exact p1.dl k a⟩
    · rcases hvs k a with b | b
      · exact .inl b
      · exact .inr ⟨b, by rw [hsz]; exact h1.lt k a⟩
  · intro k e
    refine ⟨hvt k e, ?_⟩
    rintro (a | a | a)
    · have := hl k a
      have := hvt k e
      omega
    · exact p1.dt k e a
    · obtain ⟨b, cap', cur, hv, hc⟩ : ∃ b cap' cur, vs1 = .slice (some ⟨b, 0, none⟩) xs.length cap' ∧ w.heap[b]? = some (.cells cur 89 (0, 0)) := by
        rcases h1.2 with ⟨e1, _⟩ | ⟨b, cap', cur, hv, _, h3, _⟩
        · rw [e1] at a; cases a
        · exact ⟨b, cap', cur, hv, h3⟩
      rw [hv] at a
      simp only [Value.ownBlock, Option.some.injEq] at a
      exact p1.ev.ne hc (by decide) k e a.symm
  · refine (k1.sub ?_).step hk (fun k _ e => by rw [e]; exact h.sg)
    rintro k (e | e | e)
    · rw [e]; exact h.sg
    · exact h.ss k e
    · cases e
/-- Behind an error. -/
theorem pa_err {S : Nat → Prop} {g : Nat} {W w : World} {K : List It} {n : Int} {D : Nat → Prop} {vs : Value} (h : Lv1 S W g K n D vs) {n' : Int} {K' : List It} {E : List Ev} (hG : Gone g D vs nilS W w n' K' E) (e m : Int) :
    (∃ vs' vt', PB w g false 0 n' vs' vt') ∧ PB (((((w.setCell ⟨g, 0, none⟩ (.bool false)).setCell ⟨g, 1, none⟩ (.int .i64 e)).setCell ⟨g, 2, none⟩ (.int .i64 m)).setCell ⟨g, 3, none⟩ nilS).setCell ⟨g, 4, none⟩ nilS) g false e m nilS nilS ∧
    Pa S g W ((((((w.setCell ⟨g, 0, none⟩ (.bool false)).setCell ⟨g, 1, none⟩ (.int .i64 e)).setCell ⟨g, 2, none⟩ (.int .i64 m)).setCell ⟨g, 3, none⟩ nilS).setCell ⟨g, 4, none⟩ nilS).setCell ⟨g, 4, none⟩ nilS) nilS [] (.stuck e m) := by
  obtain ⟨D1, vs1, vt1, p1, k1, _⟩ := hG
  have pb := blk_set (blk_set (blk_set (blk_set (blk_set p1.pb 0 (.bool false)) 1 (.int .i64 e)) 2 (.int .i64 m)) 3 nilS) 4 nilS
  refine ⟨⟨vs1, vt1, p1.pb⟩, pb, pa_nil ⟨blk_set pb 4 _, h.sg⟩ ?_⟩
  have k2 := ((((((Kp.set w g 0 (.bool false)).trans (Kp.set _ g 1 (.int .i64 e))).trans (Kp.set _ g 2 (.int .i64 m))).trans (Kp.set _ g 3 nilS)).trans (Kp.set _ g 4 nilS)).trans (Kp.set _ g 4 nilS))
  refine (k1.sub ?_).step k2 (fun k _ e => by rw [e]; exact h.sg)
  rintro k (e | e | e)
  · rw [e]; exact h.sg
  · exact h.ss k e
  · cases e

/-- Where the parser takes nothing any more. -/
theorem put_off {S : Nat → Prop} {W : World} {g : Nat} {st : Pst} (h : Pq S W g st) (hl : ∀ k, S k → k < W.heap.size) (t : Tv) {c : Bool} {e n : Int} (hp : PB W g c e n nilS nilS) (hc : (if c then 4 else e) ≠ 0) :
    Calls Tryz.prog 11 #[pt g, t.v] W fun r w' => r = .returned (.tuple #[nilS, .int .i64 (if c then 4 else e)]) ∧ Pa S g W w' nilS [] st := by
  obtain ⟨z, hz⟩ : ∃ z : Int, (if c then 4 else e) = z := ⟨_, rfl⟩
  rw [hz] at hc ⊢
  have hb : Below W.heap.size W (W.alloc (.cells #[.int .u8 t.k, .string t.t, .int .i64 t.a, .int .i64 t.l, .int .i64 t.c, .int .i64 t.f] 28)) := tok_below W t
  have HR : Hid (Calls Tryz.prog 25 #[pt g] (W.alloc (.cells #[.int .u8 t.k, .string t.t, .int .i64 t.a, .int .i64 t.l, .int .i64 t.c, .int .i64 t.f] 28)) fun r w' => r = .returned (.int .i64 z) ∧ w' = W.alloc (.cells #[.int .u8 t.k, .string t.t, .int .i64 t.a, .int .i64 t.l, .int .i64 t.c, .int .i64 t.f] 28)) := by
    have := refusal_any (hp.below hb)
    rw [hz] at this
    exact this
  have HX : Hid (Pa S g W (W.alloc (.cells #[.int .u8 t.k, .string t.t, .int .i64 t.a, .int .i64 t.l, .int .i64 t.c, .int .i64 t.f] 28)) nilS [] st) := pa_nil (h.below hb) (Kp.of_below hb)
  have hz1 : (z != 0) = true := by simpa using hc
  clear h hp hb hz hc hl
  dsimp only [Tv.v]
  go_enter Tryz.func11, Tryz.ntmps11
  go_wp2_with (go_at_call 25; refine HR.out.mono ?_; rintro r w1 ⟨rfl, rfl⟩)
  refine bodyPost_ret (v := .tuple #[nilS, .int .i64 z]) (by simp [results, Tryz.f11, go_sem]) rfl ?_
  exact ⟨rfl, HX.out⟩

end Go.Proofs.YtkigadnkclkopaaGreat

set_option linter.unusedVariables false
set_option linter.unusedSimpArgs false
namespace Go.Proofs.YtkigadnkclkopaaGreat
open Go.RowKit

theorem beg_bd {K : List It} {n : Int} (h : Lz K n) {k : Nat} (hk : k ≤ (beg K n).length + 20) : Bd k (beg K n) (begN n) (begE n) := by
  have h1 := h.lv
  have h2 := h.sn
  have h3 := h.sk
  by_cases h0 : n = 0
  · subst h0
    have hl : (beg K 0).length = K.length + 6 := by simp [beg, progR]
    have e : lvs (beg K 0) = 1 :: lvs K := by simp [beg, progR, lvs]
    have hlv : (lvs K).length = 0 := by omega
    refine ⟨?_, ?_, ?_, by omega, by simp [begE]; omega⟩
    · refine wfs_app ?_ (wfs_cons trivial h.wf)
      intro i hi
      simp [progR] at hi
      rcases hi with rfl | rfl | rfl | rfl | rfl <;> trivial
    · rw [e]; simp [begN, hlv]
    · rw [e]; simp; omega
  · have h0' : (n == 0) = false := by simpa using h0
    have e1 : beg K n = K := by simp [beg, h0]
    have e2 : begN n = n := by simp [begN, h0]
    have e3 : begE n = [] := by simp [begE, h0]
    rw [e1] at hk ⊢
    rw [e2, e3]
    exact ⟨h.wf, h1, by omega, by omega, by simp; omega⟩

/-- read, at whatever the first token begins with. -/
theorem read_put {g : Nat} {D : Nat → Prop} {vs vt : Value} {W w : World} {K : List It} {n : Int} (hG : Gone g D vs vt W w (begN n) (beg K n) (begE n)) (hz : Lz K n) {t : Tv} {ev : List Ev} {code : Int} {st : Pst} (hp : Putr t (.live K n) ev code st) :
    Calls Tryz.prog 27 #[pt g, t.v] w fun e w' => e = .returned (.int .i64 code) ∧ ((code = 0 ∧ ∃ L m, st = .live L m ∧ Gone g D vs vt W w' m L ev) ∨ (code ≠ 0 ∧ st = .stuck code n ∧ ev = [] ∧ ∃ m L E, Gone g D vs vt W w' m L E)) := by
  obtain ⟨D1, vs1, vt1, p1, k1, ns1, nt1, d1, d2⟩ := hG
  have up : ∀ {w' m L E}, Gone g D1 vs1 vt1 w w' m L E → Gone g D vs vt W w' m L E := fun h => Gone.go k1 ns1 nt1 d1 d2 h
  cases hp with
  | note h7 =>
    refine (note_any p1 t h7 (by unfold begE; split <;> simp)).mono ?_
    rintro e w' ⟨rfl, h⟩
    exact ⟨rfl, .inl ⟨rfl, _, _, rfl, up h⟩⟩
  | no h7 hR hk =>
    rw [Bool.or_eq_false_iff] at h7
    refine (pread_any p1 t h7.1 h7.2 hR (beg_bd hz hk)).mono ?_
    rintro e w' ⟨rfl, m, L, E, h⟩
    exact ⟨rfl, .inr ⟨by decide, rfl, rfl, m, L, E, up h⟩⟩
  | deep h7 hR hk hm =>
    rw [Bool.or_eq_false_iff] at h7
    refine (pread_any p1 t h7.1 h7.2 hR (beg_bd hz hk)).mono ?_
    intro e w' h
    obtain ⟨rfl, m, L, E, h2⟩ := h.1 hm
    exact ⟨rfl, .inr ⟨by decide, rfl, rfl, m, L, E, up h2⟩⟩
  | yes h7 hR hk hm =>
    rw [Bool.or_eq_false_iff] at h7
    refine (pread_any p1 t h7.1 h7.2 hR (beg_bd hz hk)).mono ?_
    intro e w' h
    obtain ⟨rfl, h2⟩ := h.2 hm
    exact ⟨rfl, .inl ⟨rfl, _, _, rfl, up h2⟩⟩

set_option maxHeartbeats 1000000 in
theorem put_live {S : Nat → Prop} {W : World} {g : Nat} {K : List It} {n : Int} {D : Nat → Prop} {vs : Value} (h : Lv1 S W g K n D vs) (hl : ∀ k, S k → k < W.heap.size) (hz : Lz K n) {t : Tv} {ev : List Ev} {code : Int} {st : Pst} (hp : Putr t (.live K n) ev code st) :
    Calls Tryz.prog 11 #[pt g, t.v] W fun r w' => ∃ v, r = .returned (.tuple #[v, .int .i64 code]) ∧ Pa S g W w' v ev st := by
  obtain ⟨V, hV⟩ : ∃ V, W.alloc (.cells #[.int .u8 t.k, .string t.t, .int .i64 t.a, .int .i64 t.l, .int .i64 t.c, .int .i64 t.f] 28) = V := ⟨_, rfl⟩
  have hb : Below W.heap.size W V := by rw [← hV]; exact tok_below W t
  have hT : Tb V W.heap.size t := by rw [← hV]; exact new_at _ _
  have pV := h.ps.below' hb
  have HV : Hid (W.alloc (.cells #[.int .u8 t.k, .string t.t, .int .i64 t.a, .int .i64 t.l, .int .i64 t.c, .int .i64 t.f] 28) = V) := hV
  have HR : Hid (Calls Tryz.prog 25 #[pt g] V fun r w' => r = .returned (.int .i64 0) ∧ w' = V) := refusal_any pV.pb
  have HRd : Hid (∀ w, Gone g D vs nilS W w (begN n) (beg K n) (begE n) → Calls Tryz.prog 27 #[pt g, .agg #[.int .u8 t.k, .string t.t, .int .i64 t.a, .int .i64 t.l, .int .i64 t.c, .int .i64 t.f]] w fun e w' => e = .returned (.int .i64 code) ∧ ((code = 0 ∧ ∃ L m, st = .live L m ∧ Gone g D vs nilS W w' m L ev) ∨ (code ≠ 0 ∧ st = .stuck code n ∧ ev = [] ∧ ∃ m L E, Gone g D vs nilS W w' m L E))) := fun w hw => read_put hw hz hp
  have HTold : Hid (∀ w L m, Gone g D vs nilS W w m L ev → ∃ vs' vt', PB w g false 0 m vs' vt' ∧ Pa S g W (w.setCell ⟨g, 4, none⟩ nilS) vt' ev (.live L m)) := fun w L m hG => pa_told h hl hG
  have HErr : Hid (∀ w L m E, Gone g D vs nilS W w m L E → (∃ vs' vt', PB w g false 0 m vs' vt') ∧ PB (((((w.setCell ⟨g, 0, none⟩ (.bool false)).setCell ⟨g, 1, none⟩ (.int .i64 code)).setCell ⟨g, 2, none⟩ (.int .i64 n)).setCell ⟨g, 3, none⟩ nilS).setCell ⟨g, 4, none⟩ nilS) g false code n nilS nilS ∧ Pa S g W ((((((w.setCell ⟨g, 0, none⟩ (.bool false)).setCell ⟨g, 1, none⟩ (.int .i64 code)).setCell ⟨g, 2, none⟩ (.int .i64 n)).setCell ⟨g, 3, none⟩ nilS).setCell ⟨g, 4, none⟩ nilS).setCell ⟨g, 4, none⟩ nilS) nilS [] (.stuck code n)) := fun w L m E hG => pa_err h hG code n
  obtain ⟨c0, c1, c2, c3, c4⟩ := pV.pb.cells
  have HG0 : Hid (Gone g D vs nilS W V n K [] ∧ Tb V W.heap.size t ∧ Ps g D V n K [] vs nilS) := ⟨h.ps.quiet hb, hT, pV⟩
  have HPr : Hid (n = 0 → Calls Tryz.prog 26 #[pt g] V fun e w' => e = .returned (.int .i64 1) ∧ Gone g D vs nilS W w' (begN n) (beg K n) (begE n) ∧ Tb w' W.heap.size t) := fun h0 => by
    subst h0
    have hz2 := hz.sk
    refine (program_ps (g := g) (D := D) (W := V) (n := 0) (K := K) (E := []) (vs := vs) (vt := nilS) ⟨pV, by omega, by omega, by omega, by simp⟩).mono ?_
    rintro e w' ⟨rfl, hG⟩
    refine ⟨rfl, Gone.go (Kp.of_below hb) (Nb.refl _ _) (Nb.refl _ _) (fun _ h => h) (fun _ h => .inl h) hG, ?_⟩
    obtain ⟨_, _, _, _, k5, _⟩ := hG
    exact hT.kp pV k5
  have hnn : 0 ≤ n := by have := hz.lv; omega
  clear h hl hz hp hV hb pV
  dsimp only [Tv.v]
  by_cases h0 : n = 0
  · have q0 : (n == 0) = true := by simpa using h0
    have HP0 : Hid (Calls Tryz.prog 26 #[pt g] V fun e w' => e = .returned (.int .i64 1) ∧ Gone g D vs nilS W w' (begN n) (beg K n) (begE n) ∧ Tb w' W.heap.size t) := HPr.out h0
    generalize begN n = n1 at *
    generalize beg K n = K1 at *
    generalize begE n = E1 at *
    clear HPr h0
    go_enter Tryz.func11, Tryz.ntmps11
    go_wp2_with fail
    rw [HV.out]
    refine HR.out.mono ?_
    rintro r w1 ⟨rfl, rfl⟩
    go_wp2_with fail
    refine HP0.out.mono ?_
    rintro r w3 ⟨rfl, hG3, hT3⟩
    obtain ⟨m0, m1, m2, m3, m4, m5⟩ := hT3.cells
    have HG3 : Hid (Gone g D vs nilS W w3 n1 K1 E1) := hG3
    clear hG3 hT3
    go_wp2_with fail
    refine (HRd.out _ HG3.out).mono ?_
    rintro r w2 ⟨rfl, h2⟩
    rcases h2 with ⟨rfl, L, m, rfl, hG2⟩ | ⟨hne, rfl, rfl, m, L, E2, hG2⟩
    · obtain ⟨vs', vt', pb2, hP⟩ := HTold.out _ _ _ hG2
      obtain ⟨x0, x1, x2, x3, x4⟩ := pb2.cells
      have f4 := pb2.frozen 4
      have HX : Hid (Pa S g W (w2.setCell ⟨g, 4, none⟩ nilS) vt' ev (.live L m)) := hP
      obtain ⟨pv, cv, hvt, _⟩ := hP.re.shape
      subst hvt
      clear hP pb2 hG2
      go_wp2_with fail
      refine bodyPost_ret (v := .tuple #[.slice pv ev.length cv, .int .i64 0]) (by simp [results, Tryz.f11, go_sem]) rfl ?_
      exact ⟨_, rfl, HX.out⟩
    · obtain ⟨⟨vs', vt', pb2⟩, pb3, hP⟩ := HErr.out _ _ _ _ hG2
      obtain ⟨x0, x1, x2, x3, x4⟩ := pb2.cells
      obtain ⟨y0, y1, y2, y3, y4⟩ := pb3.cells
      have f0 := pb2.frozen 0
      have f1 := pb2.frozen 1
      have f2 := pb2.frozen 2
      have f3 := pb2.frozen 3
      have f4 := pb2.frozen 4
      have g4 := pb3.frozen 4
      have HX := show Hid _ from hP
      have q5 : (code != 0) = true := by simpa using hne
      clear hP pb2 pb3 hG2 hne
      go_wp2_with fail
      refine bodyPost_ret (v := .tuple #[nilS, .int .i64 code]) (by simp [results, Tryz.f11, go_sem]) rfl ?_
      exact ⟨_, rfl, HX.out⟩
  · have q0 : (n == 0) = false := by simpa using h0
    have e1 : beg K n = K := by simp [beg, h0]
    have e2 : begN n = n := by simp [begN, h0]
    have e3 : begE n = [] := by simp [begE, h0]
    rw [e1, e2, e3] at HRd
    clear e1 e2 e3 HPr h0
    obtain ⟨m0, m1, m2, m3, m4, m5⟩ := hT.cells
    go_enter Tryz.func11, Tryz.ntmps11
    go_wp2_with fail
    rw [HV.out]
    refine HR.out.mono ?_
    rintro r w1 ⟨rfl, rfl⟩
    go_wp2_with fail
    refine (HRd.out _ HG0.out.1).mono ?_
    rintro r w2 ⟨rfl, h2⟩
    rcases h2 with ⟨rfl, L, m, rfl, hG2⟩ | ⟨hne, rfl, rfl, m, L, E2, hG2⟩
    · obtain ⟨vs', vt', pb2, hP⟩ := HTold.out _ _ _ hG2
      obtain ⟨x0, x1, x2, x3, x4⟩ := pb2.cells
      have f4 := pb2.frozen 4
      have HX : Hid (Pa S g W (w2.setCell ⟨g, 4, none⟩ nilS) vt' ev (.live L m)) := hP
      obtain ⟨pv, cv, hvt, _⟩ := hP.re.shape
      subst hvt
      clear hP pb2 hG2
      go_wp2_with fail
      refine bodyPost_ret (v := .tuple #[.slice pv ev.length cv, .int .i64 0]) (by simp [results, Tryz.f11, go_sem]) rfl ?_
      exact ⟨_, rfl, HX.out⟩
    · obtain ⟨⟨vs', vt', pb2⟩, pb3, hP⟩ := HErr.out _ _ _ _ hG2
      obtain ⟨x0, x1, x2, x3, x4⟩ := pb2.cells
      obtain ⟨y0, y1, y2, y3, y4⟩ := pb3.cells
      have f0 := pb2.frozen 0
      have f1 := pb2.frozen 1
      have f2 := pb2.frozen 2
      have f3 := pb2.frozen 3
      have f4 := pb2.frozen 4
      have g4 := pb3.frozen 4
      have HX := show Hid _ from hP
      have q5 : (code != 0) = true := by simpa using hne
      clear hP pb2 pb3 hG2 hne
      go_wp2_with fail
      refine bodyPost_ret (v := .tuple #[nilS, .int .i64 code]) (by simp [results, Tryz.f11, go_sem]) rfl ?_
      exact ⟨_, rfl, HX.out⟩

end Go.Proofs.YtkigadnkclkopaaGreat

set_option linter.unusedVariables false
set_option linter.unusedSimpArgs false
namespace Go.Proofs.YtkigadnkclkopaaGreat
open Go.RowKit

theorem shut_d (u : FrameMode) {W : World} {g : Nat} {c : Bool} {e n : Int} {vs vt : Value} (h : PB W g c e n vs vt) : CallsD Tryz.prog 28 #[pt g] u W fun r u' w' => u' = u ∧ (r = .returned (.tuple #[]) ∧ PB w' g true 0 0 nilS nilS ∧ Kp (fun k => k = g) W w') := by
  obtain ⟨c0, c1, c2, c3, c4⟩ := h.cells
  have f0 := h.frozen 0
  have f1 := h.frozen 1
  have f2 := h.frozen 2
  have f3 := h.frozen 3
  have f4 := h.frozen 4
  have HX : Hid (PB (((((W.setCell ⟨g, 0, none⟩ (.bool true)).setCell ⟨g, 1, none⟩ (.int .i64 0)).setCell ⟨g, 2, none⟩ (.int .i64 0)).setCell ⟨g, 3, none⟩ nilS).setCell ⟨g, 4, none⟩ nilS) g true 0 0 nilS nilS ∧ Kp (fun k => k = g) W (((((W.setCell ⟨g, 0, none⟩ (.bool true)).setCell ⟨g, 1, none⟩ (.int .i64 0)).setCell ⟨g, 2, none⟩ (.int .i64 0)).setCell ⟨g, 3, none⟩ nilS).setCell ⟨g, 4, none⟩ nilS)) :=
    ⟨blk_set (blk_set (blk_set (blk_set (blk_set h 0 _) 1 _) 2 _) 3 _) 4 _, (((((Kp.set W g 0 _).trans (Kp.set _ g 1 _)).trans (Kp.set _ g 2 _)).trans (Kp.set _ g 3 _)).trans (Kp.set _ g 4 _))⟩
  clear h
  go_enter_d Tryz.func28, Tryz.ntmps28
  go_wp2_with fail
  go_end0
  exact ⟨rfl, HX.out⟩
theorem shut_dnil (u : FrameMode) (W : World) : CallsD Tryz.prog 28 #[.pointer none] u W fun r u' w' => u' = u ∧ (r = .returned (.tuple #[]) ∧ w' = W) := by
  go_enter_d Tryz.func28, Tryz.ntmps28
  go_wp2_with fail
  go_end0
  exact ⟨rfl, rfl⟩
theorem close_off {S : Nat → Prop} {W : World} {g : Nat} {c : Bool} {e n : Int} {vs vt : Value} (h : PB W g c e n vs vt) (hS : S g) (hc : (if c then 4 else e) ≠ 0) :
    Calls Tryz.prog 12 #[pt g] W fun r w' => r = .returned (.tuple #[nilS, .int .i64 (if c then 4 else e)]) ∧ Pa S g W w' nilS [] .shut := by
  obtain ⟨z, hz⟩ : ∃ z : Int, (if c then 4 else e) = z := ⟨_, rfl⟩
  have HR : Hid (Calls Tryz.prog 25 #[pt g] W fun r w' => r = .returned (.int .i64 z) ∧ w' = W) := by
    have := refusal_any h
    rw [hz] at this
    exact this
  rw [hz] at hc ⊢
  have hz1 : (z != 0) = true := by simpa using hc
  have HD : Hid (CallsD Tryz.prog 28 #[pt g] .returning W fun r u' w' => u' = .returning ∧ (r = .returned (.tuple #[]) ∧ PB w' g true 0 0 nilS nilS ∧ Kp (fun k => k = g) W w')) := shut_d .returning h
  have HS : Hid (∀ w', PB w' g true 0 0 nilS nilS → Kp (fun k => k = g) W w' → Pa S g W w' nilS [] .shut) := fun w' hp hk => pa_nil ⟨hp, hS⟩ (hk.sub (fun k e => by rw [e]; exact hS))
  clear h hz hc hS
  go_enter_defers Tryz.func12, Tryz.ntmps12
  go_wp2_with (go_at_call 25; refine HR.out.mono ?_; rintro r w1 ⟨rfl, hw⟩; subst hw)
  refine leaves_cons (f := 28) (args := #[pt g]) (by simp) (by simp [go_sem]) ?_
  refine HD.out.mono ?_
  rintro r u' w2 ⟨rfl, rfl, hp, hk⟩
  exact ⟨_, (by simp [results, Tryz.f12, go_sem]), rfl, HS.out _ hp hk⟩
theorem re_new (W : World) (d : Ev) : Re (W.alloc (.cells #[.int .u8 d.k, .int .u8 d.n, .int .u8 d.d.k, .string d.d.t, .int .i64 d.d.a, .int .i64 d.d.l, .int .i64 d.d.c, .int .i64 d.d.f] 48)) (.slice (some ⟨W.heap.size, 0, none⟩) 1 1) [d] := by
  refine ⟨rfl, .inr ⟨_, 1, _, rfl, Nat.zero_le _, new_at W _, Nat.le_refl _, by unfold maxLen; omega, rfl, ?_⟩⟩
  simp [ecs, flat, Ev.cs]
set_option maxHeartbeats 1000000 in
theorem close_live {S : Nat → Prop} {W : World} {g : Nat} {K : List It} {n : Int} {D : Nat → Prop} {vs : Value} (h : Lv1 S W g K n D vs) (hl : ∀ k, S k → k < W.heap.size) (hK : K.length ≤ 1000000) {ev : List Ev} {code : Int} (hp : Clor (.live K n) ev code) :
    Calls Tryz.prog 12 #[pt g] W fun r w' => ∃ v, r = .returned (.tuple #[v, .int .i64 code]) ∧ Pa S g W w' v ev .shut := by
  have HR : Hid (Calls Tryz.prog 25 #[pt g] W fun r w' => r = .returned (.int .i64 0) ∧ w' = W) := refusal_any h.ps.pb
  obtain ⟨xs, r1, r2⟩ := h.ps.st
  have hxl : xs.length = K.length := by rw [r2.len, List.length_reverse]
  obtain ⟨pp, cp, rfl, _⟩ := r1.shape
  obtain ⟨c0, c1, c2, c3, c4⟩ := h.ps.pb.cells
  have HD : Hid (∀ V, Below W.heap.size W V → CallsD Tryz.prog 28 #[pt g] .returning V fun r u' w' => u' = .returning ∧ (r = .returned (.tuple #[]) ∧ PB w' g true 0 0 nilS nilS ∧ Kp (fun k => k = g) V w')) := fun V hb => shut_d .returning (h.ps.pb.below hb)
  have hS := h.sg
  have HS : Hid (∀ w', PB w' g true 0 0 nilS nilS → Kp (fun k => k = g) W w' → Pa S g W w' nilS [] .shut) := fun w' hp hk => pa_nil ⟨hp, hS⟩ (hk.sub (fun k e => by rw [e]; exact hS))
  have HT : Hid (∀ w', PB w' g true 0 0 nilS nilS → Kp (fun k => k = g) (W.alloc (.cells #[.int .u8 3, .int .u8 1, .int .u8 0, .string ⟨#[]⟩, .int .i64 0, .int .i64 0, .int .i64 0, .int .i64 0] 48)) w' → Pa S g W w' (.slice (some ⟨W.heap.size, 0, none⟩) 1 1) [⟨3, 1, tv0⟩] .shut) := fun w' hp hk => by
    have hg := h.ps.pb.lt
    refine ⟨(re_new W ⟨3, 1, tv0⟩).kp hk (fun k e => ?_), ⟨S, ⟨hp, hS⟩, fun _ h => h, fun _ h => .inl h, fun k e => ?_⟩, ((Kp.of_below (pbelow_new W _)).step hk (fun k _ e => by rw [e]; exact hS))⟩
    · cases e
      show ¬ W.heap.size = g
      omega
    · cases e
      exact ⟨Nat.le_refl _, fun h => absurd (hl _ h) (Nat.lt_irrefl _)⟩
  have HB : Hid (∀ o, Below W.heap.size W (W.alloc o)) := fun o => pbelow_new W o
  have hgl := h.ps.pb.lt
  have HL : Hid (xs.length = K.length ∧ K.length ≤ 1000000) := ⟨hxl, hK⟩
  clear h hl hS r1 r2 hxl hK
  cases hp with
  | all h1 =>
    have q1 : ((xs.length : Int) != 1) = false := by rw [HL.out.1, h1]; rfl
    clear h1
    go_enter_defers Tryz.func12, Tryz.ntmps12
    go_wp2_with (go_at_call 25; refine HR.out.mono ?_; rintro r w1 ⟨rfl, hw⟩; subst hw)
    refine leaves_cons (f := 28) (args := #[pt g]) (by simp) (by simp [go_sem]) ?_
    refine (HD.out _ (HB.out _)).mono ?_
    rintro r u' w2 ⟨rfl, rfl, hp, hk⟩
    exact ⟨_, (by simp [results, Tryz.f12, go_sem]), _, rfl, HT.out _ hp hk⟩
  | «open» h1 =>
    have q1 : ((xs.length : Int) != 1) = true := by rw [HL.out.1]; simp; omega
    clear h1
    go_enter_defers Tryz.func12, Tryz.ntmps12
    go_wp2_with (go_at_call 25; refine HR.out.mono ?_; rintro r w1 ⟨rfl, hw⟩; subst hw)
    refine leaves_cons (f := 28) (args := #[pt g]) (by simp) (by simp [go_sem]) ?_
    refine (HD.out _ (Below.refl _ _)).mono ?_
    rintro r u' w2 ⟨rfl, rfl, hp, hk⟩
    exact ⟨_, (by simp [results, Tryz.f12, go_sem]), _, rfl, HS.out _ hp hk⟩

/-! The interface. -/
/-- Put, whatever the parser's state. -/
theorem pput_any {S : Nat → Prop} {W : World} {g : Nat} {st : Pst} (h : Pq S W g st) (hl : ∀ k, S k → k < W.heap.size) (hz : st.ok) {t : Tv} {ev : List Ev} {code : Int} {st' : Pst} (hp : Putr t st ev code st') :
    Calls Tryz.prog 11 #[pt g, t.v] W fun r w' => ∃ v, r = .returned (.tuple #[v, .int .i64 code]) ∧ Pa S g W w' v ev st' := by
  cases st with
  | live K n => obtain ⟨D, vs, h⟩ := h; exact put_live h hl hz hp
  | stuck e n =>
    obtain ⟨rfl, rfl, rfl⟩ : ev = [] ∧ code = e ∧ st' = .stuck e n := by cases hp; exact ⟨rfl, rfl, rfl⟩
    refine (put_off (st := .stuck code n) h hl t (c := false) (e := code) (n := n) h.1 hz).mono ?_
    rintro r w' ⟨rfl, hP⟩
    exact ⟨_, rfl, hP⟩
  | shut =>
    cases hp
    refine (put_off (st := .shut) h hl t (c := true) (e := 0) (n := 0) h.1 (by decide)).mono ?_
    rintro r w' ⟨rfl, hP⟩
    exact ⟨_, rfl, hP⟩
theorem close_any {S : Nat → Prop} {W : World} {g : Nat} {st : Pst} (h : Pq S W g st) (hl : ∀ k, S k → k < W.heap.size) (hz : st.ok) {ev : List Ev} {code : Int} (hp : Clor st ev code) :
    Calls Tryz.prog 12 #[pt g] W fun r w' => ∃ v, r = .returned (.tuple #[v, .int .i64 code]) ∧ Pa S g W w' v ev .shut := by
  cases st with
  | live K n => obtain ⟨D, vs, h⟩ := h; exact close_live h hl (by have := hz.sk; omega) hp
  | stuck e n =>
    obtain ⟨rfl, rfl⟩ : ev = [] ∧ code = e := by cases hp; exact ⟨rfl, rfl⟩
    refine (close_off (c := false) (e := code) h.1 h.2 hz).mono ?_
    rintro r w' ⟨rfl, hP⟩
    exact ⟨_, rfl, hP⟩
  | shut =>
    cases hp
    refine (close_off (c := true) (e := 0) h.1 h.2 (by decide)).mono ?_
    rintro r w' ⟨rfl, hP⟩
    exact ⟨_, rfl, hP⟩
/-- How many nodes are open. -/
def Pst.depth : Pst → Int
  | .live K n => n
  | .stuck e n => n
  | .shut => 0
/-- A new parser. -/
theorem new_st (W : World) : Calls Tryz.prog 10 #[] W fun r w' => r = .returned (pt W.heap.size) ∧ Pq (fun k => k = W.heap.size) w' W.heap.size (.live [] 0) ∧ Below W.heap.size W w' ∧ w'.heap.size = W.heap.size + 1 := by
  refine (new_any W).mono ?_
  rintro r w' ⟨rfl, rfl⟩
  refine ⟨rfl, ⟨fun _ => False, nilS, ⟨new_at _ _, ⟨[], rs_nil _, .nil⟩, re_nil _, (fun h => h), (fun k e => by cases e), (fun k e => by cases e), (fun k h => False.elim h)⟩, rfl, (fun k e => by cases e), (fun k h => False.elim h)⟩, pbelow_new _ _, by rw [World.size_alloc]⟩

end Go.Proofs.YtkigadnkclkopaaGreat
