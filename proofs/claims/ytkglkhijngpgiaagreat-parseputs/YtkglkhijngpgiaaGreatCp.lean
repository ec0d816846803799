import Derived.Test.YtkglkhijngpgiaaGreatCo
set_option linter.unusedVariables false
set_option linter.unusedSimpArgs false
namespace Go.Proofs.YtkglkhijngpgiaaGreat
open Go.RowKit

/-! One state's call. -/
/-- What a state makes of a token: it is taken; refused; passed on (how many nodes more, what is told, what comes next). -/
inductive Sr | tk | ref | go (d : Int) (o : List Ev) (r : List It)
def Rw.sr : Rw → Sr
  | .ref => .ref
  | .ex r => .go 0 [] r
  | .op nd r => .go 1 [⟨1, nd, tv0⟩] (r ++ [.lv nd])
def Fl.step (t : Tv) : Fl → Sr
  | .mt m => (M.row t m).sr
  | x => if x.takes t then .tk else .ref
def It.step (t : Tv) : It → Sr
  | .fl x => x.step t
  | .lv n => .go (-1) [⟨3, n, tv0⟩] []
  | .once p => .go 0 [] (Pk.pick t p).toList
  | .again p => .go 0 [] (agR p (Pk.pick t p))
  | .all r => .go 0 [] (r.map It.fl)
def Stp (g : Nat) (D : Nat → Prop) (vs vt : Value) (W : World) (n : Int) (K : List It) (E : List Ev) (e : Ending) (w' : World) : Sr → Prop
  | .tk => e = .returned (.int .i64 2) ∧ Below W.heap.size W w'
  | .ref => e = .returned (.int .i64 0) ∧ Below W.heap.size W w'
  | .go d o r => e = .returned (.int .i64 1) ∧ Gone g D vs vt W w' (n + d) (r ++ K) (E ++ o)
theorem aft_stp {g : Nat} {D : Nat → Prop} {vs vt : Value} {W : World} {n : Int} {K : List It} {E : List Ev} {e : Ending} {w' : World} {t : Tv} {m : M} (h : Aft g D vs vt W n K E e w' (M.row t m)) : Stp g D vs vt W n K E e w' (It.step t (.fl (.mt m))) := by
  show Stp g D vs vt W n K E e w' (M.row t m).sr
  cases hr : M.row t m with
  | ref => rw [hr] at h; exact h
  | ex r => rw [hr] at h; simpa [Stp, Aft, Rw.sr] using h
  | op nd r => rw [hr] at h; simpa [Stp, Aft, Rw.sr] using h
theorem dd_stp {g : Nat} {D : Nat → Prop} {vs vt : Value} {W : World} {n : Int} {K : List It} {E : List Ev} {w' : World} {b : Bool} (hb : Below W.heap.size W w') : Stp g D vs vt W n K E (.returned (.int .i64 (dd b))) w' (if b then .tk else .ref) := by
  cases b
  · exact ⟨rfl, hb⟩
  · exact ⟨rfl, hb⟩

/-- A state is called, whichever it is. -/
theorem state_any {g : Nat} {D : Nat → Prop} {W : World} {n : Int} {K : List It} {E : List Ev} {vs vt : Value} (h : Psz g D W n K E vs vt) {v : Value} {i : It} (hv : Rep g D W v i) (t : Tv) :
    ∃ f fi ca, v = .func (.func f) fi ca ∧ Ent f ∧ Calls Tryz.prog f (fi.push t.v ++ ca) W fun e w' => Stp g D vs vt W n K E e w' (It.step t i) := by
  cases hv with
  | fl hx =>
    cases hx with
    | wd hl hd hn =>
      refine ⟨_, _, _, rfl, enters_of Tryz.func38 (by kernel_rfl) rfl, (stand_any _ _ _ _ t W hl hn).mono ?_⟩
      rintro e w' ⟨rfl, hb⟩
      exact dd_stp hb
    | nm =>
      refine ⟨_, _, _, rfl, enters_of Tryz.func30 (by kernel_rfl) rfl, (name_any t W).mono ?_⟩
      rintro e w' ⟨rfl, hb⟩
      exact dd_stp hb
    | cs =>
      refine ⟨_, _, _, rfl, enters_of Tryz.func104 (by kernel_rfl) rfl, (constant_any t W).mono ?_⟩
      rintro e w' ⟨rfl, hb⟩
      exact dd_stp hb
    | mt m =>
      cases m with
      | block => exact ⟨_, _, _, rfl, enters_of Tryz.func32 (by kernel_rfl) rfl, (block_ps h t).mono (fun e w' ha => aft_stp (m := .block) ha)⟩
      | variables => exact ⟨_, _, _, rfl, enters_of Tryz.func50 (by kernel_rfl) rfl, (variables_ps h t).mono (fun e w' ha => aft_stp (m := .variables) ha)⟩
      | constants => exact ⟨_, _, _, rfl, enters_of Tryz.func51 (by kernel_rfl) rfl, (constants_ps h t).mono (fun e w' ha => aft_stp (m := .constants) ha)⟩
      | procedure => exact ⟨_, _, _, rfl, enters_of Tryz.func52 (by kernel_rfl) rfl, (procedure_ps h t).mono (fun e w' ha => aft_stp (m := .procedure) ha)⟩
      | params => exact ⟨_, _, _, rfl, enters_of Tryz.func82 (by kernel_rfl) rfl, (params_ps h t).mono (fun e w' ha => aft_stp (m := .params) ha)⟩
      | param => exact ⟨_, _, _, rfl, enters_of Tryz.func93 (by kernel_rfl) rfl, (param_ps h t).mono (fun e w' ha => aft_stp (m := .param) ha)⟩
      | typed => exact ⟨_, _, _, rfl, enters_of Tryz.func66 (by kernel_rfl) rfl, (typed_ps h t).mono (fun e w' ha => aft_stp (m := .typed) ha)⟩
      | kind => exact ⟨_, _, _, rfl, enters_of Tryz.func71 (by kernel_rfl) rfl, (kind_ps h t).mono (fun e w' ha => aft_stp (m := .kind) ha)⟩
      | member => exact ⟨_, _, _, rfl, enters_of Tryz.func83 (by kernel_rfl) rfl, (member_ps h t).mono (fun e w' ha => aft_stp (m := .member) ha)⟩
      | body => exact ⟨_, _, _, rfl, enters_of Tryz.func42 (by kernel_rfl) rfl, (body_ps h t).mono (fun e w' ha => aft_stp (m := .body) ha)⟩
      | statement => exact ⟨_, _, _, rfl, enters_of Tryz.func53 (by kernel_rfl) rfl, (statement_ps h t).mono (fun e w' ha => aft_stp (m := .statement) ha)⟩
      | expr => exact ⟨_, _, _, rfl, enters_of Tryz.func67 (by kernel_rfl) rfl, (expr_ps h t).mono (fun e w' ha => aft_stp (m := .expr) ha)⟩
      | rel => exact ⟨_, _, _, rfl, enters_of Tryz.func81 (by kernel_rfl) rfl, (rel_ps h t).mono (fun e w' ha => aft_stp (m := .rel) ha)⟩
      | sum => exact ⟨_, _, _, rfl, enters_of Tryz.func92 (by kernel_rfl) rfl, (sum_ps h t).mono (fun e w' ha => aft_stp (m := .sum) ha)⟩
      | term => exact ⟨_, _, _, rfl, enters_of Tryz.func102 (by kernel_rfl) rfl, (term_ps h t).mono (fun e w' ha => aft_stp (m := .term) ha)⟩
      | factor => exact ⟨_, _, _, rfl, enters_of Tryz.func106 (by kernel_rfl) rfl, (factor_ps h t).mono (fun e w' ha => aft_stp (m := .factor) ha)⟩
      | object => exact ⟨_, _, _, rfl, enters_of Tryz.func72 (by kernel_rfl) rfl, (object_ps h t).mono (fun e w' ha => aft_stp (m := .object) ha)⟩
      | index => exact ⟨_, _, _, rfl, enters_of Tryz.func94 (by kernel_rfl) rfl, (index_ps h t).mono (fun e w' ha => aft_stp (m := .index) ha)⟩
      | selection => exact ⟨_, _, _, rfl, enters_of Tryz.func95 (by kernel_rfl) rfl, (selection_ps h t).mono (fun e w' ha => aft_stp (m := .selection) ha)⟩
      | args => exact ⟨_, _, _, rfl, enters_of Tryz.func96 (by kernel_rfl) rfl, (args_ps h t).mono (fun e w' ha => aft_stp (m := .args) ha)⟩
      | list => exact ⟨_, _, _, rfl, enters_of Tryz.func103 (by kernel_rfl) rfl, (list_ps h t).mono (fun e w' ha => aft_stp (m := .list) ha)⟩
  | lv nd =>
    refine ⟨_, _, _, rfl, enters_of Tryz.func37 (by kernel_rfl) rfl, (leave_ps h.1 nd t h.2.1 h.2.2.1 h.2.2.2.2).mono ?_⟩
    rintro e w' ⟨rfl, hG⟩
    exact ⟨rfl, hG⟩
  | once hp =>
    refine ⟨_, _, _, rfl, enters_of Tryz.func69 (by kernel_rfl) rfl, (once_ps h.1 hp t h.2.2.2.1).mono ?_⟩
    rintro e w' ⟨rfl, hG⟩
    exact ⟨rfl, by simpa using hG⟩
  | again hp =>
    refine ⟨_, _, _, rfl, enters_of Tryz.func41 (by kernel_rfl) rfl, (again_ps h.1 hp t h.2.2.2.1).mono ?_⟩
    rintro e w' ⟨rfl, hG⟩
    exact ⟨rfl, by simpa using hG⟩
  | all hr =>
    refine ⟨_, _, _, rfl, enters_of Tryz.func86 (by kernel_rfl) rfl, (all_ps h.1 hr t h.2.2.2.1).mono ?_⟩
    rintro e w' ⟨rfl, hG⟩
    exact ⟨rfl, by simpa using hG⟩

end Go.Proofs.YtkglkhijngpgiaaGreat
