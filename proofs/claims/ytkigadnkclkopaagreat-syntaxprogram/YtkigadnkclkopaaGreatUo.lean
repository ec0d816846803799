import Derived.Test.YtkigadnkclkopaaGreatUi
import Derived.Test.YtkigadnkclkopaaGreatUk
import Derived.Test.YtkigadnkclkopaaGreatUl
import Derived.Test.YtkigadnkclkopaaGreatUm
import Derived.Test.YtkigadnkclkopaaGreatUn
set_option linter.unusedVariables false
set_option linter.unusedSimpArgs false
namespace Go.Proofs.YtkigadnkclkopaaGreat
open Go.RowKit

/-! All rows together. -/
structure All (n : Nat) : Prop where
  object : CT .object 132 80 n
  factor : CT .factor 167 70 n
  term : CT .term 162 65 n
  sum : CT .sum 145 60 n
  rel : CT .rel 131 55 n
  expr : CT .expr 110 50 n
  kind : CT .kind 112 60 n
  typed : CT .typed 109 60 n
  statement : CT .statement 113 65 n
  body : CT .body 84 60 n
  variables : CT .variables 81 40 n
  constants : CT .constants 82 40 n
  procedure : CT .procedure 83 40 n
  block : CT .block 59 30 n
  index : ∀ (X : Rx) (r : Nat) (d : D) (W : World), RD X r d W → r ≤ 80 → ms X.L d ≤ n → Calls Tryz.prog 146 #[pt X.g, .int .u8 29, .string ⟨#[91]⟩, .string ⟨#[93]⟩] W fun e w' => e = .returned (.tuple #[]) ∧ ∃ d', RD X 0 d' w' ∧ Ib X.L (.fl (.mt .index)) d d'
  args : ∀ (X : Rx) (r : Nat) (d : D) (W : World), RD X r d W → r ≤ 80 → ms X.L d ≤ n → Calls Tryz.prog 146 #[pt X.g, .int .u8 31, .string ⟨#[40]⟩, .string ⟨#[41]⟩] W fun e w' => e = .returned (.tuple #[]) ∧ ∃ d', RD X 0 d' w' ∧ Ib X.L (.fl (.mt .args)) d d'
  params : ∀ (X : Rx) (r : Nat) (d : D) (W : World), RD X r d W → r ≤ 80 → ms X.L d ≤ n → Calls Tryz.prog 111 #[pt X.g, .int .u8 6, .int .u8 7, .string ⟨#[41]⟩] W fun e w' => e = .returned (.tuple #[]) ∧ ∃ d', RD X 0 d' w' ∧ Ib X.L (.fl (.mt .params)) d d'
  record : ∀ (X : Rx) (r : Nat) (d : D) (W : World), RD X r d W → r ≤ 80 → ms X.L d ≤ n → qn X.L d (wk 2 ⟨#[114, 101, 99, 111, 114, 100]⟩) = true → Calls Tryz.prog 111 #[pt X.g, .int .u8 10, .int .u8 11, .string ⟨#[101, 110, 100]⟩] W fun e w' => e = .returned (.tuple #[]) ∧ ∃ d', RD X 0 d' w' ∧ Ib X.L (.fl (.mt .kind)) d d'
theorem cb_of {m : M} {f b n : Nat} (h : CT m f b n) (ih : CA m f b n) : CB m f b n := fun k hk => by
  rcases hk with hk | rfl
  · exact ih k hk
  · by_cases hn : n = 0
    · subst hn; exact h
    · exact ih 0 (by omega)
theorem cb_pos {m : M} {f b n : Nat} (hn : 0 < n) (ih : CA m f b n) : CB m f b n := fun k hk => ih k (by omega)
theorem all_ct (n : Nat) : All n := by
  induction n using Nat.strongRecOn with
  | ind n ih =>
    have object := object_ct n (fun k hk => (ih k hk).index) (fun k hk => (ih k hk).args)
    have factor := factor_ct n (fun k hk => (ih k hk).factor) (fun k hk => (ih k hk).expr) object
    have term := term_ct n factor (fun k hk => (ih k hk).factor)
    have sum := sum_ct n term (fun k hk => (ih k hk).term)
    have rel := rel_ct n sum (fun k hk => (ih k hk).sum)
    have expr := expr_ct n rel (fun k hk => (ih k hk).rel)
    have exprB := cb_of expr (fun k hk => (ih k hk).expr)
    have index := index_ct n exprB
    have args := args_ct n exprB
    have record : ∀ (X : Rx) (r : Nat) (d : D) (W : World), RD X r d W → r ≤ 80 → ms X.L d ≤ n → qn X.L d (wk 2 ⟨#[114, 101, 99, 111, 114, 100]⟩) = true → Calls Tryz.prog 111 #[pt X.g, .int .u8 10, .int .u8 11, .string ⟨#[101, 110, 100]⟩] W fun e w' => e = .returned (.tuple #[]) ∧ ∃ d', RD X 0 d' w' ∧ Ib X.L (.fl (.mt .kind)) d d' := by
      by_cases hn : n = 0
      · intro X r d W h hr hm hq
        have := ms_live hq
        omega
      · exact record_ct n (cb_pos (by omega) (fun k hk => (ih k hk).typed))
    have kind := kind_ct n (fun k hk => (ih k hk).expr) (fun k hk => (ih k hk).kind) record
    have typed := typed_ct n (cb_of kind (fun k hk => (ih k hk).kind))
    have typedB := cb_of typed (fun k hk => (ih k hk).typed)
    have params := params_ct n typedB
    have statement := statement_ct n object (fun k hk => (ih k hk).expr) (fun k hk => (ih k hk).body) (branch_ct n (fun k hk => (ih k hk).expr) (fun k hk => (ih k hk).body))
    have body := body_ct n statement (fun k hk => (ih k hk).statement)
    have bodyB := cb_of body (fun k hk => (ih k hk).body)
    have variables := variables_ct n typedB
    have constants := constants_ct n exprB
    have both : (CT .procedure 83 40 n) ∧ CT .block 59 30 n := by
      by_cases hn : n = 0
      · have block := block_ct n (fun _ => variables) (fun _ => constants) (fun h => by omega) bodyB
        exact ⟨procedure_ct n (fun k hk => (ih k hk).params) (fun k hk => (ih k hk).kind) (cb_of block (fun k hk => (ih k hk).block)), block⟩
      · have procedure := procedure_ct n (fun k hk => (ih k hk).params) (fun k hk => (ih k hk).kind) (cb_pos (by omega) (fun k hk => (ih k hk).block))
        exact ⟨procedure, block_ct n (fun _ => variables) (fun _ => constants) (fun _ => procedure) bodyB⟩
    exact ⟨object, factor, term, sum, rel, expr, kind, typed, statement, body, variables, constants, both.1, both.2, index, args, params, record⟩
set_option maxHeartbeats 1000000 in
theorem yprogram_any {X : Rx} {r : Nat} {d : D} {W : World} (h : RD X r d W) (hr : r ≤ 10) : Calls Tryz.prog 40 #[pt X.g] W fun e w' => e = .returned (.tuple #[]) ∧ ∃ dz d', Rb X.L progR (opD 1 d) dz ∧ RD X 0 d' w' ∧ ((dz.e = 0 ∧ dz.i < X.L.length ∧ d' = { dz with e := 120 }) ∨ (¬ (dz.e = 0 ∧ dz.i < X.L.length) ∧ d' = dz)) := by
  have H0 : Hid (RD X r d W) := h
  have hXL := h.hL
  clear h
  go_enter Tryz.func40, Tryz.ntmps40
  go_wp2_with fail
  refine (opens_any H0.out (by omega) 1).mono ?_
  rintro e w1 ⟨rfl, h1⟩
  have H1 := show Hid _ from h1
  clear h1
  go_wp2_with fail
  refine (rtakeWord_any H1.out (by omega) ⟨#[112, 114, 111, 103, 114, 97, 109]⟩).mono ?_
  rintro e w2 ⟨rfl, h2⟩
  have H2 := show Hid _ from h2
  clear h2
  go_wp2_with fail
  refine (rtakeName_any H2.out (by omega)).mono ?_
  rintro e w3 ⟨rfl, h3⟩
  have H3 := show Hid _ from h3
  clear h3
  go_wp2_with fail
  refine (rtakeSign_any H3.out (by omega) ⟨#[59]⟩).mono ?_
  rintro e w4 ⟨rfl, h4⟩
  have H4 := show Hid _ from h4
  clear h4
  go_wp2_with fail
  refine ((all_ct (ms X.L (tkI X.L (.wd 6 [⟨#[59]⟩]) (tkI X.L (.nm) (tkI X.L (.wd 2 [⟨#[112, 114, 111, 103, 114, 97, 109]⟩]) (opD 1 d)))))).block X _ _ _ H4.out (by omega) (Nat.le_refl _)).mono ?_
  rintro e w5 ⟨rfl, d5, h5, i5⟩
  have H5 := show Hid _ from h5
  have I5 := show Hid _ from i5
  clear h5 i5
  go_wp2_with fail
  refine (rtakeSign_any H5.out (by omega) ⟨#[46]⟩).mono ?_
  rintro e w6 ⟨rfl, h6⟩
  have H6 := show Hid _ from h6
  clear h6
  have IB := show Hid _ from ((rb_cons ib_w (rb_cons ib_n (rb_cons ib_w (rb_cons I5.out (rb_cons ib_w rb_nil))))) : Rb X.L progR (opD 1 d) (tkI X.L (.wd 6 [⟨#[46]⟩]) d5))
  generalize (tkI X.L (.wd 6 [⟨#[46]⟩]) d5) = dz at IB H6
  obtain ⟨vp, vq, vl, v⟩ := H6.out.rv
  obtain ⟨c0, c1, c2, c3, c4, c5, c6, c7⟩ := v.rb.cells
  have hgl := v.rb.lt
  have hf7 := v.rb.frozen 7
  have hil := H6.out.il
  by_cases hz : dz.e = 0 ∧ dz.i < X.L.length
  · obtain ⟨he, hi⟩ := hz
    rw [he] at c7
    have q1 : (dz.i : Int) < X.L.length := by omega
    have HX : Hid (∀ m, RD X 0 { dz with e := 120 } ((w6.drewN m).setCell ⟨X.g, 7, none⟩ (.int .i64 120))) := fun m => by
      have hb : Below w6.heap.size w6 (w6.drewN m) := below_dn (Below.refl _ _) m
      have h2 := H6.out.below hb
      have v2 : RV X dz (w6.drewN m) vp vq vl := v.below hb
      exact h2.set v2 7 _ (blk_set v2.rb 7 _) v2.rp rfl rfl rfl h2.pv (Nat.le_refl _) h2.il (fun e => by cases e) h2.sb h2.pl
    clear v
    go_wp2_with fail
    go_quiet (fail)
    go_wp2_with fail
    go_end0
    exact ⟨rfl, _, _, IB.out, HX.out _, .inl ⟨he, hi, rfl⟩⟩
  · have HX : Hid (∀ m, RD X 0 dz (w6.drewN m)) := fun m => H6.out.below (below_dn (Below.refl _ _) m)
    have HZ : Hid (¬ (dz.e = 0 ∧ dz.i < X.L.length)) := hz
    clear v
    by_cases he : dz.e = 0
    · have q1 : ¬ ((dz.i : Int) < X.L.length) := by intro h; exact hz ⟨he, by omega⟩
      rw [he] at c7
      clear hz
      go_wp2_with fail
      go_quiet (fail)
      go_wp2_with fail
      go_end0
      exact ⟨rfl, _, _, IB.out, HX.out _, .inr ⟨HZ.out, rfl⟩⟩
    · have q1 : (dz.e == 0) = false := by simpa using he
      clear hz he
      go_wp2_with fail
      go_quiet (fail)
      go_wp2_with fail
      go_end0
      exact ⟨rfl, _, _, IB.out, HX.out _, .inr ⟨HZ.out, rfl⟩⟩
end Go.Proofs.YtkigadnkclkopaaGreat
