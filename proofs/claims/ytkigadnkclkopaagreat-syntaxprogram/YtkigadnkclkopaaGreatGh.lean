import Derived.Test.YtkigadnkclkopaaGreatGg
set_option linter.unusedVariables false
set_option linter.unusedSimpArgs false
namespace Go.Proofs.YtkigadnkclkopaaGreat
open Go.RowKit

/-! Behind an error no item changes anything (no memory). -/
section
variable {L : List Tv} {d : D}
theorem dead_nxt (he : d.e ≠ 0) : nxt L d = none := by unfold nxt; rw [if_neg he]
theorem dead_tk (he : d.e ≠ 0) : tkD L false d = d := by simp [tkD, he]
theorem dead_fl (he : d.e ≠ 0) {x : Fl} (hx : ∀ m, x ≠ .mt m) : Ib L (.fl x) d d := by
  have h := ib_tk (L := L) (d := d) hx
  have hq : qn L d (fun t => x.takes t) = false := by unfold qn; rw [dead_nxt he]; rfl
  rw [hq, dead_tk he] at h
  exact h
theorem dead_wd (he : d.e ≠ 0) {k : Int} {ts : List ByteArray} : Ib L (.fl (.wd k ts)) d d := dead_fl he ne_wd
theorem dead_nm (he : d.e ≠ 0) : Ib L (.fl .nm) d d := dead_fl he ne_nm
theorem dead_lv (he : d.e ≠ 0) {n : Int} : Ib L (.lv n) d d := by
  have h := ib_lv (L := L) (d := d) (n := n)
  rw [clD_dead he] at h
  exact h
theorem dead_pick (he : d.e ≠ 0) {p : Pk} : dpick (nxt L d) p = none := by rw [dead_nxt he]; rfl
theorem dead_once (he : d.e ≠ 0) {p : Pk} : Ib L (.once p) d d := ib_once0 (dead_pick he)
theorem dead_again (he : d.e ≠ 0) {p : Pk} : Ib L (.again p) d d := ib_again0 (dead_pick he)
theorem rb_app {r s : List It} {d1 d2 d3 : D} (h : Rb L r d1 d2) (h' : Rb L s d2 d3) : Rb L (r ++ s) d1 d3 := fun K => by
  rw [List.append_assoc]
  exact (h (s ++ K)).trans (h' K)
theorem rb_one {i : It} {d1 d2 : D} (h : Ib L i d1 d2) : Rb L [i] d1 d2 := rb_cons h rb_nil
theorem dead_op (he : d.e ≠ 0) {m : M} {nd : Int} {r : List It} (h : drow none m = .op nd r) (hr : Rb L r d d) : Ib L (.fl (.mt m)) d d := by
  refine ib_op (nd := nd) (r := r) (by rw [dead_nxt he]; exact h) ?_
  rw [opD_dead he]
  exact rb_app hr (rb_one (dead_lv he))
theorem dead_ex (he : d.e ≠ 0) {m : M} {r : List It} (h : drow none m = .ex r) (hr : Rb L r d d) : Ib L (.fl (.mt m)) d d := ib_ex (r := r) (by rw [dead_nxt he]; exact h) hr
theorem dead_ref (he : d.e ≠ 0) {m : M} (h : drow none m = .ref) : Ib L (.fl (.mt m)) d d := by
  have := ib_ref (L := L) (d := d) (m := m) (by rw [dead_nxt he]; exact h)
  rw [dead_tk he] at this
  exact this
theorem dead_mt (he : d.e ≠ 0) (m : M) : Ib L (.fl (.mt m)) d d := by
  have w : ∀ k ts, Ib L (.fl (.wd k ts)) d d := fun k ts => dead_wd he
  have n : Ib L (.fl .nm) d d := dead_nm he
  have a : ∀ p, Ib L (.again p) d d := fun p => dead_again he
  have o : ∀ p, Ib L (.once p) d d := fun p => dead_once he
  have factor : Ib L (.fl (.mt .factor)) d d := dead_ref he rfl
  have statement : Ib L (.fl (.mt .statement)) d d := dead_ref he rfl
  have kind : Ib L (.fl (.mt .kind)) d d := dead_op he rfl (rb_one n)
  have term : Ib L (.fl (.mt .term)) d d := dead_op he rfl (rb_cons factor (rb_one (a _)))
  have sum : Ib L (.fl (.mt .sum)) d d := dead_op he rfl (rb_cons term (rb_one (a _)))
  have rel : Ib L (.fl (.mt .rel)) d d := dead_op he rfl (rb_cons sum (rb_one (o _)))
  have expr : Ib L (.fl (.mt .expr)) d d := dead_op he rfl (rb_cons rel (rb_one (a _)))
  have list : Ib L (.fl (.mt .list)) d d := dead_ex he rfl (rb_cons expr (rb_one (a _)))
  have typed : Ib L (.fl (.mt .typed)) d d := dead_ex he rfl (rb_cons n (rb_cons (a _) (rb_cons (w _ _) (rb_one kind))))
  have param : Ib L (.fl (.mt .param)) d d := dead_op he rfl (rb_one typed)
  have body : Ib L (.fl (.mt .body)) d d := dead_op he rfl (rb_cons statement (rb_one (a _)))
  have block : Ib L (.fl (.mt .block)) d d := dead_op he rfl (rb_cons (a _) (rb_cons (w _ _) (rb_cons body (rb_one (w _ _)))))
  cases m with
  | block => exact block
  | variables => exact dead_op he rfl (rb_cons (w _ _) (rb_cons typed (rb_one (w _ _))))
  | constants => exact dead_op he rfl (rb_cons (w _ _) (rb_cons n (rb_cons (w _ _) (rb_cons expr (rb_one (w _ _))))))
  | procedure => exact dead_op he rfl (rb_cons (w _ _) (rb_cons n (rb_cons (o _) (rb_cons (o _) (rb_cons (w _ _) (rb_cons block (rb_one (w _ _))))))))
  | params => exact dead_op he rfl (rb_cons (w _ _) (rb_cons param (rb_cons (a _) (rb_one (w _ _)))))
  | param => exact param
  | typed => exact typed
  | kind => exact kind
  | member => exact dead_op he rfl (rb_one typed)
  | body => exact body
  | statement => exact statement
  | expr => exact expr
  | rel => exact rel
  | sum => exact sum
  | term => exact term
  | factor => exact factor
  | object => exact dead_op he rfl (rb_cons n (rb_one (a _)))
  | index => exact dead_op he rfl (rb_cons (w _ _) (rb_cons list (rb_one (w _ _))))
  | selection => exact dead_op he rfl (rb_cons (w _ _) (rb_one n))
  | args => exact dead_op he rfl (rb_cons (w _ _) (rb_cons (o _) (rb_one (w _ _))))
  | list => exact list
theorem dead_fx (he : d.e ≠ 0) (x : Fl) : Ib L (.fl x) d d := by
  cases x with
  | mt m => exact dead_mt he m
  | wd k ts => exact dead_wd he
  | nm => exact dead_nm he
  | cs => exact dead_fl he ne_cs
theorem dead_any (he : d.e ≠ 0) (i : It) : Ib L i d d := by
  cases i with
  | fl x => exact dead_fx he x
  | lv n => exact dead_lv he
  | once p => exact dead_once he
  | again p => exact dead_again he
  | all r =>
    refine ib_all ?_
    induction r with
    | nil => exact rb_nil
    | cons x r ih => exact rb_cons (dead_fx he x) ih
theorem dead_rb (he : d.e ≠ 0) : ∀ (r : List It), Rb L r d d
  | [] => rb_nil
  | i :: r => rb_cons (dead_any he i) (dead_rb he r)
/-- Items lead one way. -/
theorem ib_det {i : It} {d d1 d2 : D} (h : Ib L i d d1) (h' : Ib L i d d2) : d1 = d2 := by
  have := (h []).det (h' [])
  cases this
  rfl
theorem rb_det {r : List It} {d d1 d2 : D} (h : Rb L r d d1) (h' : Rb L r d d2) : d1 = d2 := by
  have := (h []).det (h' [])
  cases this
  rfl
theorem tok_lt {x : Fl} (hx : ∀ m, x ≠ .mt m) {d' : D} (h : Ib L (.fl x) d d') (he : d.e = 0) (he' : d'.e = 0) : ms L d' < ms L d := by
  have h1 := ib_det h (ib_tk hx)
  have h2 := ms_tk (L := L) (d := d) (f := fun t => x.takes t) rfl
  rw [h1]
  refine h2.2 ?_
  unfold ms
  rw [if_pos he]
  omega
theorem rb_path {r : List It} {d' : D} (hr : lvs r = []) (h : Rb L r d d') (hl : d'.e = 0) : d.e = 0 ∧ d'.p = d.p := by
  obtain ⟨h1, h2⟩ := rch_path (h []) hl
  obtain ⟨q, e1, e2⟩ := h2 d.p [] (by simp) (by rw [List.append_nil, hr]; rfl)
  have : q = [] := by simpa [lvs] using e2
  exact ⟨h1, by rw [e1, this]; simp⟩
end

/-! The items' contracts. -/
theorem key_ib {X : Sx} {r : Nat} {d : D} {W : World} (h : SD X r d W) (hr : r ≤ 100) {s : ByteArray} (hz : has [s] ⟨#[]⟩ = false) :
    Calls Tryz.prog 34 #[pg X.g, .string s] W fun e w' => ∃ d', Ib (tks X.l) (.fl (.wd 2 [s])) d d' ∧ Out X (.tuple #[]) d' e w' :=
  (key_sd h hr hz).mono (fun e w' ho => ⟨_, ib_w, ho⟩)
theorem sign_ib {X : Sx} {r : Nat} {d : D} {W : World} (h : SD X r d W) (hr : r ≤ 100) {s : ByteArray} (hz : has [s] ⟨#[]⟩ = false) :
    Calls Tryz.prog 36 #[pg X.g, .string s] W fun e w' => ∃ d', Ib (tks X.l) (.fl (.wd 6 [s])) d d' ∧ Out X (.tuple #[]) d' e w' :=
  (sign_sd h hr hz).mono (fun e w' ho => ⟨_, ib_w, ho⟩)
theorem name_ib {X : Sx} {r : Nat} {d : D} {W : World} (h : SD X r d W) (hr : r ≤ 100) :
    Calls Tryz.prog 35 #[pg X.g] W fun e w' => ∃ d', Ib (tks X.l) (.fl .nm) d d' ∧ Out X (.tuple #[]) d' e w' :=
  (name_sd h hr).mono (fun e w' ho => ⟨_, ib_n, ho⟩)
/-- It was not there, or it was taken. -/
def Mi (X : Sx) (r : Nat) (x : Fl) (d : D) (e : Ending) (w : World) : Prop := (qn (tks X.l) d (fun t => x.takes t) = false ∧ e = .returned (.bool false) ∧ SD X r d w) ∨ (qn (tks X.l) d (fun t => x.takes t) = true ∧ ∃ d', Ib (tks X.l) (.fl x) d d' ∧ Out X (.bool true) d' e w)
theorem Mb.mi {X : Sx} {r : Nat} {x : Fl} (hx : ∀ m, x ≠ .mt m) {d : D} {e : Ending} {w : World} (h : Mb X r x d e w) : Mi X r x d e w := h.imp id (fun h => ⟨h.1, _, ib_tk hx, h.2⟩)
theorem ls_new (W : World) (ts : List ByteArray) : Ls (W.alloc (.cells (ts.map Value.string).toArray 9)) (some ⟨W.heap.size, 0, none⟩) ts := by
  intro j x hj
  refine ⟨_, _, rfl, blk_cell (new_at W _) ?_⟩
  simp [hj]
theorem maybeKey_ib {X : Sx} {r : Nat} {d : D} {W : World} (h : SD X r d W) (hr : r ≤ 100) (ts : List ByteArray) (hn : ts.length ≤ 1000) (hz : has ts ⟨#[]⟩ = false) {n : Nat} (hnl : n = ts.length) {a : Array Value} (ha : a = (ts.map Value.string).toArray) :
    Calls Tryz.prog 50 #[pg X.g, .slice (some ⟨W.heap.size, 0, none⟩) n n] (W.alloc (.cells a 9)) fun e w' => Mi X r (.wd 2 ts) d e w' := by
  subst hnl ha
  exact (maybeKey_sd (h.below ((Below.refl _ _).alloc (Nat.le_refl _) _)) hr (ls_new W ts) hn hz).mono (fun e w' hm => hm.mi ne_wd)
theorem maybeSign_ib {X : Sx} {r : Nat} {d : D} {W : World} (h : SD X r d W) (hr : r ≤ 100) (ts : List ByteArray) (hn : ts.length ≤ 1000) (hz : has ts ⟨#[]⟩ = false) {n : Nat} (hnl : n = ts.length) {a : Array Value} (ha : a = (ts.map Value.string).toArray) :
    Calls Tryz.prog 52 #[pg X.g, .slice (some ⟨W.heap.size, 0, none⟩) n n] (W.alloc (.cells a 9)) fun e w' => Mi X r (.wd 6 ts) d e w' := by
  subst hnl ha
  exact (maybeSign_sd (h.below ((Below.refl _ _).alloc (Nat.le_refl _) _)) hr (ls_new W ts) hn hz).mono (fun e w' hm => hm.mi ne_wd)
/-- What is promised of a row's function. -/
def RwC (f : Nat) (row : List It) (b n : Nat) : Prop := ∀ (X : Sx) (r : Nat) (d : D) (W : World), SD X r d W → r ≤ b → ms (tks X.l) d ≤ n →
  Calls Tryz.prog f #[pg X.g] W fun e w' => ∃ d', Rb (tks X.l) row d d' ∧ Out X (.tuple #[]) d' e w'
theorem SD.op {X : Sx} {r : Nat} {d : D} {W W1 : World} (h : SD X r d W) (nd : Int) (h1 : SV X (ps X.l d.i) (d.p.length + 1) (evX X d ++ [⟨1, nd, tv0⟩]) W1) : SD X (r + 1) (opD nd d) W1 := by
  have e : opD nd d = { d with p := d.p ++ [(nd, d.s + 1)], s := d.s + 1, v := d.v ++ [⟨1, nd, tv0⟩] } := by unfold opD; rw [if_pos h.e0]
  have ev : evX X (opD nd d) = evX X d ++ [⟨1, nd, tv0⟩] := by
    rw [e]
    unfold evX
    simp only [tail_app h.v0, List.cons_append, List.append_assoc]
  have pl : (opD nd d).p.length = d.p.length + 1 := by rw [e]; simp
  refine ⟨?_, by rw [e]; exact h.e0, by rw [e]; exact h.il, by rw [e]; exact h.nn, by rw [e]; simp, ?_, ?_⟩
  · rw [ev, pl]
    rw [e]
    exact h1
  · have := h.sm
    rw [e]
    show d.s + 1 ≤ 100 * d.i + (r + 1)
    omega
  · have := h.el
    rw [ev, pl]
    rw [e]
    simp only [List.length_append, List.length_singleton]
    omega
theorem SD.cl {X : Sx} {r : Nat} {d : D} {W W1 : World} (h : SD X r d W) (nd : Int) {n : Nat} (hp : d.p.length = n + 1) (h1 : SV X (ps X.l d.i) n (evX X d ++ [⟨3, nd, tv0⟩]) W1) : SD X r (clD nd d) W1 := by
  have e : clD nd d = { d with p := d.p.dropLast, v := d.v ++ [⟨3, nd, tv0⟩] } := by unfold clD; rw [if_pos h.e0]
  have ev : evX X (clD nd d) = evX X d ++ [⟨3, nd, tv0⟩] := by
    rw [e]
    unfold evX
    simp only [tail_app h.v0, List.cons_append, List.append_assoc]
  have pl : (clD nd d).p.length = n := by rw [e]; simp [hp]
  refine ⟨?_, by rw [e]; exact h.e0, by rw [e]; exact h.il, by rw [e]; exact h.nn, by rw [e]; simp, ?_, ?_⟩
  · rw [ev, pl]
    rw [e]
    exact h1
  · rw [e]
    exact h.sm
  · have := h.el
    rw [ev, pl]
    rw [e]
    simp only [List.length_append, List.length_singleton]
    omega
theorem node_rb {X : Sx} {r : Nat} {d : D} {W : World} (h : SD X r d W) (nd : Int) {b : Nat} (hr : r + 1 ≤ b) (hb : b ≤ 100) {f : Nat} {row : List It} (hrc : ∀ W1, SD X (r + 1) (opD nd d) W1 → Calls Tryz.prog f #[pg X.g] W1 fun e w' => ∃ d', Rb (tks X.l) row (opD nd d) d' ∧ Out X (.tuple #[]) d' e w') (hf : Entr f) (hlv : lvs row = []) :
    Calls Tryz.prog 18 #[pg X.g, .int .u8 nd, fv f X.g] W fun e w' => ∃ d', Rb (tks X.l) (row ++ [.lv nd]) (opD nd d) d' ∧ Out X (.tuple #[]) d' e w' := by
  have hlen := h.len (by omega)
  have hel := h.el
  have hsm := h.sm
  have hil := h.il
  have h4 := tks_le X.l
  have h5 := h.sv.hl
  have h6 := ps_le X.l d.i
  refine node_raw h.sv (by omega) (by omega) nd hf ?_
  intro W1 h1
  have hop := h.op nd h1
  refine (hrc W1 hop).mono ?_
  rintro e w' ⟨d1, i1, ho⟩
  rcases ho with ⟨z, rfl, h2⟩ | ⟨z, rfl, h2⟩
  · obtain ⟨_, hp⟩ := rb_path hlv i1 z
    have hp2 : d1.p.length = d.p.length + 1 := by
      rw [hp]
      unfold opD
      rw [if_pos h.e0]
      simp
    have hlen2 := h2.len (by omega)
    refine .inl ⟨rfl, _, d.p.length, _, by rw [← hp2]; exact h2.sv, by omega, by omega, fun w2 h3 => ⟨clD nd d1, rb_app i1 (rb_one ib_lv), .inl ⟨by rw [clD_live]; exact z, rfl, h2.cl nd hp2 h3⟩⟩⟩
  · exact .inr ⟨_, rfl, d1, rb_app i1 (rb_one (dead_lv z)), .inr ⟨z, rfl, h2⟩⟩
theorem node_ib {X : Sx} {r : Nat} {d : D} {W : World} (h : SD X r d W) {b n : Nat} (hr : r + 1 ≤ b) (hb : b ≤ 100) (hm : ms (tks X.l) d ≤ n) {f : Nat} {row : List It} (hrc : RwC f row b n) (hf : Entr f) (hlv : lvs row = []) {nd : Int} {i : It} (hop : ∀ d', Rb (tks X.l) (row ++ [.lv nd]) (opD nd d) d' → Ib (tks X.l) i d d') :
    Calls Tryz.prog 18 #[pg X.g, .int .u8 nd, fv f X.g] W fun e w' => ∃ d', Ib (tks X.l) i d d' ∧ Out X (.tuple #[]) d' e w' :=
  (node_rb h nd hr hb (fun W1 h1 => hrc X (r + 1) (opD nd d) W1 h1 hr (by rw [ms_op]; exact hm)) hf hlv).mono (fun e w' ⟨d', h1, h2⟩ => ⟨d', hop d' h1, h2⟩)
/-- The same of a row's function at one place. -/
def RwA (X : Sx) (f : Nat) (row : List It) (n : Nat) (d : D) : Prop := ∀ (r : Nat) (W : World), SD X r d W → r ≤ 90 → ms (tks X.l) d ≤ n →
  Calls Tryz.prog f #[pg X.g] W fun e w' => ∃ d', Rb (tks X.l) row d d' ∧ Out X (.tuple #[]) d' e w'
/-- A choice: the node and the row that the next token begins, or none. -/
def Pick (X : Sx) (m : M) (n : Nat) (d : D) (u v : Value) : Prop :=
  (∃ nd f row, u = .int .u8 nd ∧ v = fv f X.g ∧ Entr f ∧ lvs row = [] ∧ RwA X f row n (opD nd d) ∧ ∀ d', Rb (tks X.l) (row ++ [.lv nd]) (opD nd d) d' → Ib (tks X.l) (.fl (.mt m)) d d') ∨
  (u = .int .u8 0 ∧ v = .nilFunc ∧ ∃ d', Ib (tks X.l) (.fl (.mt m)) d d' ∧ d'.e = (tkD (tks X.l) false d).e ∧ d'.i = d.i)
theorem feql_nil (w : World) : (binOp .eql 1 .nilFunc .nilFunc).run Tryz.prog w = .ok (.bool true) w := by kernel_rfl
theorem feql_fn (f g : Nat) (w : World) : (binOp .eql 1 (fv f g) .nilFunc).run Tryz.prog w = .ok (.bool false) w := by kernel_rfl
theorem fneq_nil (w : World) : (binOp .neq 1 .nilFunc .nilFunc).run Tryz.prog w = .ok (.bool false) w := by kernel_rfl
theorem fneq_fn (f g : Nat) (w : World) : (binOp .neq 1 (fv f g) .nilFunc).run Tryz.prog w = .ok (.bool true) w := by kernel_rfl
set_option maxHeartbeats 1000000 in
theorem one_pick {X : Sx} {r : Nat} {d : D} {W : World} (h : SD X r d W) (hr : r + 1 ≤ 90) {n : Nat} (hm : ms (tks X.l) d ≤ n) {m : M} {u v : Value} (hp : Pick X m n d u v) :
    Calls Tryz.prog 75 #[pg X.g, u, v] W fun e w' => ∃ d', Ib (tks X.l) (.fl (.mt m)) d d' ∧ Out X (.tuple #[]) d' e w' := by
  rcases hp with ⟨nd, f, row, rfl, rfl, hf, hlv, hrc, hop⟩ | ⟨rfl, rfl, d', h1, h2, h3⟩
  · have HN : Hid (Calls Tryz.prog 18 #[pg X.g, .int .u8 nd, fv f X.g] W fun e w' => ∃ d', Ib (tks X.l) (.fl (.mt m)) d d' ∧ Out X (.tuple #[]) d' e w') := (node_rb h nd hr (by omega) (fun W1 h1 => hrc (r + 1) W1 h1 hr (by rw [ms_op]; exact hm)) hf hlv).mono (fun e w' ⟨d', h1, h2⟩ => ⟨d', hop d' h1, h2⟩)
    have hef := feql_fn f X.g
    clear h hrc hop hf
    go_enter Tryz.func75, Tryz.ntmps75
    go_wp2_with fail
    refine HN.out.mono ?_
    rintro e w1 ⟨d1, i1, ⟨z, rfl, h1⟩ | ⟨z, rfl, h1⟩⟩
    · have HX : Hid (∃ d', Ib (tks X.l) (.fl (.mt m)) d d' ∧ Out X (.tuple #[]) d' (.returned (.tuple #[])) w1) := ⟨d1, i1, .inl ⟨z, rfl, h1⟩⟩
      clear i1 z h1
      go_wp2_with fail
      go_end0
      exact HX.out
    · have HX : Hid (∃ d', Ib (tks X.l) (.fl (.mt m)) d d' ∧ Out X (.tuple #[]) d' (.panicked (stop d1.e (ps X.l d1.i))) w1) := ⟨d1, i1, .inr ⟨z, rfl, h1⟩⟩
      clear i1 z h1
      go_wp2_with fail
      exact ⟨rfl, HX.out⟩
  · have HR : Hid (Calls Tryz.prog 38 #[pg X.g] W fun e w' => ∃ c, e = .panicked c ∧ ∃ d', Ib (tks X.l) (.fl (.mt m)) d d' ∧ Out X (.tuple #[]) d' (.panicked c) w') := (refuse_sd h (.tuple #[])).mono (fun e w' ⟨_, a, b, c⟩ => by
      have hi : (tkD (tks X.l) false d).i = d.i := by unfold tkD; simp only [Bool.false_eq_true, if_false]; (repeat' split) <;> rfl
      refine ⟨_, b, d', h1, .inr ⟨by rw [h2]; exact a, by rw [h2, h3, hi], c⟩⟩)
    have hef := feql_nil
    clear h h1 h2 h3
    go_enter Tryz.func75, Tryz.ntmps75
    go_wp2_with fail
    refine HR.out.mono ?_
    rintro e w1 ⟨c, rfl, hx⟩
    have HX := show Hid _ from hx
    clear hx
    go_wp2_with fail
    exact ⟨rfl, HX.out⟩

end Go.Proofs.YtkigadnkclkopaaGreat
