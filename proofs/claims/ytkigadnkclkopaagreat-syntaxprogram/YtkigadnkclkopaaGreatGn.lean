import Derived.Test.YtkigadnkclkopaaGreatGm
set_option linter.unusedVariables false
set_option linter.unusedSimpArgs false
namespace Go.Proofs.YtkigadnkclkopaaGreat
open Go.RowKit

/-! All rows together. -/
structure AllR (n : Nat) : Prop where
  r_block : RwC 37 gr_block 40 n
  r_variables : RwC 72 gr_variables 90 n
  r_constant : RwC 73 gr_constant 90 n
  r_procedure : RwC 74 gr_procedure 90 n
  r_params : RwC 98 gr_params 90 n
  r_typed : RwC 96 gr_typed 90 n
  r_array : RwC 125 gr_array 90 n
  r_record : RwC 126 gr_record 90 n
  r_body : RwC 54 gr_body 45 n
  r_skip : RwC 101 gr_skip 90 n
  r_act : RwC 100 gr_act 90 n
  r_branch : RwC 128 gr_branch 45 n
  r_done : RwC 129 gr_done 90 n
  r_branches : RwC 102 gr_branches 90 n
  r_while : RwC 103 gr_while 90 n
  r_count : RwC 104 gr_count 90 n
  r_repeat : RwC 105 gr_repeat 90 n
  r_answer : RwC 106 gr_answer 90 n
  r_compound : RwC 107 gr_compound 90 n
  r_expr : RwC 97 gr_expr 50 n
  r_rel : RwC 124 gr_rel 55 n
  r_sum : RwC 142 gr_sum 60 n
  r_term : RwC 155 gr_term 65 n
  r_minus : RwC 160 gr_minus 90 n
  r_not : RwC 159 gr_not 90 n
  r_group : RwC 161 gr_group 90 n
  r_object : RwC 127 gr_object 95 n
  r_list : RwC 166 gr_list 45 n
  r_index : RwC 156 gr_index 90 n
  r_selection : RwC 157 gr_selection 90 n
  r_args : RwC 158 gr_args 90 n
theorem all_rc (n : Nat) : AllR n := by
  induction n using Nat.strongRecOn with
  | ind n ih =>
    have FA : ∀ k, k < n → PC .factor 144 k := fun k hk => factor_pc k (ih k hk).r_minus (ih k hk).r_not (ih k hk).r_group (ih k hk).r_object
    have KA : ∀ k, k < n → PC .kind 99 k := fun k hk => kind_pc k (ih k hk).r_array (ih k hk).r_record
    have SA : ∀ k, k < n → PC .statement 76 k := fun k hk => statement_pc k (ih k hk).r_act (ih k hk).r_skip (ih k hk).r_branches (ih k hk).r_while (ih k hk).r_count (ih k hk).r_repeat (ih k hk).r_answer (ih k hk).r_compound
    have DA : ∀ k, k < n → PD .detail 143 k := fun k hk => detail_pd k (ih k hk).r_index (ih k hk).r_selection (ih k hk).r_args
    have object := object_rc n (hdetailA := DA)
    have minus := minus_rc n (hfactorA := FA)
    have not := not_rc n (hfactorA := FA)
    have group := group_rc n (hexprA := (fun k hk => (ih k hk).r_expr))
    have factorN := factor_pc n minus not group object
    have term := term_rc n (hfactor := factorN) (hfactorA := FA)
    have sum := sum_rc n (hterm := term) (htermA := (fun k hk => (ih k hk).r_term))
    have rel := rel_rc n (hsum := sum) (hsumA := (fun k hk => (ih k hk).r_sum))
    have expr := expr_rc n (hrel := rel) (hrelA := (fun k hk => (ih k hk).r_rel))
    have list := list_rc n (hexpr := expr) (hexprA := (fun k hk => (ih k hk).r_expr))
    have index := index_rc n (hlistA := (fun k hk => (ih k hk).r_list))
    have selection := selection_rc n
    have args := args_rc n (hlistA := (fun k hk => (ih k hk).r_list))
    have typed := typed_rc n (hkindA := KA)
    have array := array_rc n (hexprA := (fun k hk => (ih k hk).r_expr)) (hkindA := KA)
    have record := record_rc n (htypedA := (fun k hk => (ih k hk).r_typed))
    have params := params_rc n (htypedA := (fun k hk => (ih k hk).r_typed))
    have variables := variables_rc n (htypedA := (fun k hk => (ih k hk).r_typed))
    have constant := constant_rc n (hexprA := (fun k hk => (ih k hk).r_expr))
    have act := act_rc n (hobject := object) (hexprA := (fun k hk => (ih k hk).r_expr))
    have branch := branch_rc n (hexpr := expr) (hbodyA := (fun k hk => (ih k hk).r_body))
    have done := done_rc n (hbodyA := (fun k hk => (ih k hk).r_body))
    have branches := branches_rc n (hbranchA := (fun k hk => (ih k hk).r_branch)) (hbodyA := (fun k hk => (ih k hk).r_body))
    have «while» := while_rc n (hexprA := (fun k hk => (ih k hk).r_expr)) (hdoneA := (fun k hk => (ih k hk).r_done))
    have count := count_rc n (hexprA := (fun k hk => (ih k hk).r_expr)) (hdoneA := (fun k hk => (ih k hk).r_done))
    have «repeat» := repeat_rc n (hbodyA := (fun k hk => (ih k hk).r_body)) (hexprA := (fun k hk => (ih k hk).r_expr))
    have answer := answer_rc n (hexprA := (fun k hk => (ih k hk).r_expr))
    have compound := compound_rc n (hbodyA := (fun k hk => (ih k hk).r_body))
    have skip := skip_rc n
    have statementN := statement_pc n act skip branches «while» count «repeat» answer compound
    have body := body_rc n (hstatement := statementN) (hstatementA := SA)
    have procedure := procedure_rc n (hparamsA := (fun k hk => (ih k hk).r_params)) (hkindA := KA) (hblockA := (fun k hk => (ih k hk).r_block))
    have declarationN := declaration_pd n variables constant procedure
    have block := block_rc n (hdeclaration := declarationN) (hbodyA := (fun k hk => (ih k hk).r_body))
    exact ⟨block, variables, constant, procedure, params, typed, array, record, body, skip, act, branch, done, branches, «while», count, «repeat», answer, compound, expr, rel, sum, term, minus, not, group, object, list, index, selection, args⟩

/-! The program's row. -/
def Pr (X : Sx) (d : D) (e : Ending) (w : World) : Prop := (d.e = 0 ∧ d.i = (tks X.l).length ∧ e = .returned (.tuple #[]) ∧ SD X 0 d w) ∨ ((d.e = 0 → d.i < (tks X.l).length) ∧ e = .panicked (stop (if d.e = 0 then 120 else d.e) (ps X.l d.i)) ∧ Below X.w0.heap.size X.w0 w)
theorem pr_err {X : Sx} {d : D} {w : World} (hz : d.e ≠ 0) (hb : Below X.w0.heap.size X.w0 w) : Pr X d (.panicked (stop d.e (ps X.l d.i))) w := .inr ⟨fun h => absurd h hz, by rw [if_neg hz], hb⟩
def Nof (X : Sx) : Nat → List Ev := fun j => (nts X.l j).map ntE
theorem sd_start {X : Sx} {W : World} (h : SV X (0 + (lead (X.l.drop 0)).length) 1 ([⟨1, 1, tv0⟩] ++ (lead (X.l.drop 0)).map ntE) W) : SD X 1 (opD 1 (d00 (Nof X))) W := by
  rw [d1_is]
  rw [List.drop_zero, Nat.zero_add] at h
  refine ⟨?_, rfl, Nat.zero_le _, rfl, by simp, by simp, ?_⟩
  · show SV X (ps X.l 0) 1 (evX X _) W
    rw [ps_zero]
    have : evX X ⟨0, [(1, 1)], 1, [], 0, [⟨1, 1, tv0⟩], Nof X⟩ = [⟨1, 1, tv0⟩] ++ (lead X.l).map ntE := by simp [evX]
    rw [this]
    exact h
  · simp [evX, ps_zero]
    omega
set_option maxHeartbeats 2000000 in
theorem program_rc {X : Sx} {W : World} (h : SV X 0 1 [⟨1, 1, tv0⟩] W) :
    Calls Tryz.prog 19 #[pg X.g] W fun e w' => ∃ d, Rb (tks X.l) progR (opD 1 (d00 (Nof X))) d ∧ Pr X d e w' := by
  have hmf : ∀ (fn : Fn) (first cap : Array Value) (w : World), (Instr.makeFunc fn first cap).run Tryz.prog w = .ok (.func fn first cap) w := fun _ _ _ _ => rfl
  have HC : Hid (Calls Tryz.prog 33 #[pg X.g] W fun e w' => e = .returned (.tuple #[]) ∧ SV X (0 + (lead (X.l.drop 0)).length) 1 ([⟨1, 1, tv0⟩] ++ (lead (X.l.drop 0)).map ntE) w') := comments_any h (Nat.zero_le _) (by have := h.hl; simp; omega)
  have HS : Hid (∀ w, SV X (0 + (lead (X.l.drop 0)).length) 1 ([⟨1, 1, tv0⟩] ++ (lead (X.l.drop 0)).map ntE) w → SD X 1 (opD 1 (d00 (Nof X))) w) := fun w hw => sd_start hw
  obtain ⟨d, hd⟩ : ∃ d, opD 1 (d00 (Nof X)) = d := ⟨_, rfl⟩
  rw [hd] at HS ⊢
  clear h hd
  go_enter Tryz.func19, Tryz.ntmps19
  go_wp2_with fail
  refine HC.out.mono ?_
  rintro e w0 ⟨rfl, h0⟩
  have H0 := show Hid _ from HS.out _ h0
  clear h0 HC HS
  go_wp2_with fail
  refine (key_ib H0.out (by omega) (by kernel_rfl)).mono ?_
  rintro e w1 ⟨d1, i1, o1⟩
  have I1 := show Hid _ from i1
  rcases o1 with ⟨z1, rfl, h1⟩ | ⟨z1, rfl, h1⟩
  rotate_left
  · have HP := show Hid _ from h1
    have HZ := show Hid _ from z1
    clear h1 i1 z1
    go_wp2_with fail
    exact ⟨rfl, _, (rb_cons I1.out (dead_rb HZ.out _)), pr_err HZ.out HP.out⟩
  have H1 := show Hid _ from h1
  clear h1 i1 z1
  go_wp2_with fail
  refine (name_ib H1.out (by omega)).mono ?_
  rintro e w2 ⟨d2, i2, o2⟩
  have I2 := show Hid _ from i2
  rcases o2 with ⟨z2, rfl, h2⟩ | ⟨z2, rfl, h2⟩
  rotate_left
  · have HP := show Hid _ from h2
    have HZ := show Hid _ from z2
    clear h2 i2 z2
    go_wp2_with fail
    exact ⟨rfl, _, (rb_cons I1.out (rb_cons I2.out (dead_rb HZ.out _))), pr_err HZ.out HP.out⟩
  have H2 := show Hid _ from h2
  clear h2 i2 z2
  go_wp2_with fail
  refine (sign_ib H2.out (by omega) (by kernel_rfl)).mono ?_
  rintro e w3 ⟨d3, i3, o3⟩
  have I3 := show Hid _ from i3
  rcases o3 with ⟨z3, rfl, h3⟩ | ⟨z3, rfl, h3⟩
  rotate_left
  · have HP := show Hid _ from h3
    have HZ := show Hid _ from z3
    clear h3 i3 z3
    go_wp2_with fail
    exact ⟨rfl, _, (rb_cons I1.out (rb_cons I2.out (rb_cons I3.out (dead_rb HZ.out _)))), pr_err HZ.out HP.out⟩
  have H3 := show Hid _ from h3
  clear h3 i3 z3
  go_wp2_with fail
  refine (node_ib H3.out (by omega) (by omega) (Nat.le_refl _) (all_rc (ms (tks X.l) d3)).r_block en_block rfl (fun d' hh => ib_op (m := .block) rfl hh)).mono ?_
  rintro e w4 ⟨d4, i4, o4⟩
  have I4 := show Hid _ from i4
  rcases o4 with ⟨z4, rfl, h4⟩ | ⟨z4, rfl, h4⟩
  rotate_left
  · have HP := show Hid _ from h4
    have HZ := show Hid _ from z4
    clear h4 i4 z4
    go_wp2_with fail
    exact ⟨rfl, _, (rb_cons I1.out (rb_cons I2.out (rb_cons I3.out (rb_cons I4.out (dead_rb HZ.out _))))), pr_err HZ.out HP.out⟩
  have H4 := show Hid _ from h4
  clear h4 i4 z4
  go_wp2_with fail
  refine (sign_ib H4.out (by omega) (by kernel_rfl)).mono ?_
  rintro e w5 ⟨d5, i5, o5⟩
  have I5 := show Hid _ from i5
  rcases o5 with ⟨z5, rfl, h5⟩ | ⟨z5, rfl, h5⟩
  rotate_left
  · have HP := show Hid _ from h5
    have HZ := show Hid _ from z5
    clear h5 i5 z5
    go_wp2_with fail
    exact ⟨rfl, _, (rb_cons I1.out (rb_cons I2.out (rb_cons I3.out (rb_cons I4.out (rb_cons I5.out (dead_rb HZ.out _)))))), pr_err HZ.out HP.out⟩
  have H5 := show Hid _ from h5
  clear h5 i5 z5
  obtain ⟨ve, hs, _, _⟩ := H5.out.sv.ex
  obtain ⟨c0, c1, c2, c3⟩ := hs.cells
  have hgl := hs.lt
  have IB := show Hid _ from ((rb_cons I1.out (rb_cons I2.out (rb_cons I3.out (rb_cons I4.out (rb_cons I5.out rb_nil))))) : Rb (tks X.l) progR d d5)
  clear hs
  by_cases hi : d5.i < (tks X.l).length
  · have q1 : ((ps X.l d5.i : Int) < X.l.length) := by have := ps_lt.2 hi; omega
    have HR : Hid (∀ V, Below w5.heap.size w5 V → Calls Tryz.prog 38 #[pg X.g] V fun e w' => e = .panicked (stop 120 (ps X.l d5.i)) ∧ Below X.w0.heap.size X.w0 w') := fun V hb => (refuse_any (H5.out.below hb).sv).mono (fun e w' ⟨h1, h2⟩ => ⟨by rw [h1, if_neg (by have := ps_lt.2 hi; omega)], (H5.out.below hb).sv.bel.trans (h2.mono (H5.out.below hb).sv.bel.size)⟩)
    have HB : Hid (∀ m, Below w5.heap.size w5 (w5.drewN m)) := fun m => below_dr (Below.refl _ _) m
    have HI := show Hid _ from hi
    clear hi
    go_wp2_with fail
    go_quiet (fail)
    go_wp2_with fail
    refine (HR.out _ (HB.out _)).mono ?_
    rintro e w9 ⟨rfl, hb9⟩
    have HB9 := show Hid _ from hb9
    clear hb9
    go_wp2_with fail
    exact ⟨rfl, _, IB.out, .inr ⟨fun _ => HI.out, by rw [if_pos H5.out.e0], HB9.out⟩⟩
  · have q1 : ¬ ((ps X.l d5.i : Int) < X.l.length) := (fun hn : ¬ ps X.l d5.i < X.l.length => by omega) (fun h => hi (ps_lt.1 h))
    have HB : Hid (∀ m, SD X 0 d5 (w5.drewN m)) := fun m => H5.out.below (below_dr (Below.refl _ _) m)
    have HI : Hid (d5.i = (tks X.l).length) := by have := H5.out.il; show _ = _; omega
    clear hi
    go_wp2_with fail
    go_quiet (fail)
    go_wp2_with fail
    go_end0
    exact ⟨_, IB.out, .inl ⟨H5.out.e0, HI.out, rfl, HB.out _⟩⟩
end Go.Proofs.YtkigadnkclkopaaGreat
