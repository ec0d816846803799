import Derived.Test.YtkigadnkclkopaaGreatGh
set_option linter.unusedVariables false
set_option linter.unusedSimpArgs false
namespace Go.Proofs.YtkigadnkclkopaaGreat
open Go.RowKit

/-! The rows of package syntax. -/
abbrev gr_block : List It := [.again (.fn .declaration), .fl (.wd 2 [⟨#[98, 101, 103, 105, 110]⟩]), .fl (.mt .body), .fl (.wd 2 [⟨#[101, 110, 100]⟩])]
abbrev gr_variables : List It := [.fl (.wd 2 [⟨#[118, 97, 114]⟩]), .fl (.mt .typed), .fl (.wd 6 [⟨#[59]⟩])]
abbrev gr_constant : List It := [.fl (.wd 2 [⟨#[99, 111, 110, 115, 116]⟩]), .fl .nm, .fl (.wd 6 [⟨#[61]⟩]), .fl (.mt .expr), .fl (.wd 6 [⟨#[59]⟩])]
abbrev gr_procedure : List It := [.fl (.wd 2 [⟨#[112, 114, 111, 99]⟩]), .fl .nm, .once (.fn .bracket), .once (.row [.wd 6 [⟨#[58]⟩], .mt .kind]), .fl (.wd 6 [⟨#[59]⟩]), .fl (.mt .block), .fl (.wd 6 [⟨#[59]⟩])]
abbrev gr_params : List It := [.fl (.wd 6 [⟨#[40]⟩]), .fl (.mt .param), .again (.row [.wd 6 [⟨#[59]⟩], .mt .param]), .fl (.wd 6 [⟨#[41]⟩])]
abbrev gr_typed : List It := [.fl .nm, .again (.row [.wd 6 [⟨#[44]⟩], .nm]), .fl (.wd 6 [⟨#[58]⟩]), .fl (.mt .kind)]
abbrev gr_array : List It := [.fl (.wd 2 [⟨#[97, 114, 114, 97, 121]⟩]), .fl (.wd 6 [⟨#[91]⟩]), .fl (.mt .expr), .fl (.wd 6 [⟨#[46, 46]⟩]), .fl (.mt .expr), .fl (.wd 6 [⟨#[93]⟩]), .fl (.wd 2 [⟨#[111, 102]⟩]), .fl (.mt .kind)]
abbrev gr_record : List It := [.fl (.wd 2 [⟨#[114, 101, 99, 111, 114, 100]⟩]), .fl (.mt .member), .again (.row [.wd 6 [⟨#[59]⟩], .mt .member]), .fl (.wd 2 [⟨#[101, 110, 100]⟩])]
abbrev gr_body : List It := [.fl (.mt .statement), .again (.row [.wd 6 [⟨#[59]⟩], .mt .statement])]
abbrev gr_skip : List It := [.fl (.wd 2 [⟨#[115, 107, 105, 112]⟩])]
abbrev gr_act : List It := [.fl (.mt .object), .once (.row [.wd 6 [⟨#[58, 61]⟩], .mt .expr])]
abbrev gr_branch : List It := [.fl (.mt .expr), .fl (.wd 2 [⟨#[116, 104, 101, 110]⟩]), .fl (.mt .body)]
abbrev gr_done : List It := [.fl (.wd 2 [⟨#[100, 111]⟩]), .fl (.mt .body), .fl (.wd 2 [⟨#[101, 110, 100]⟩])]
abbrev gr_branches : List It := [.fl (.wd 2 [⟨#[105, 102]⟩]), .fl (.mt .expr), .fl (.wd 2 [⟨#[116, 104, 101, 110]⟩]), .fl (.mt .body), .again (.row [.wd 2 [⟨#[101, 108, 105, 102]⟩], .mt .expr, .wd 2 [⟨#[116, 104, 101, 110]⟩], .mt .body]), .once (.row [.wd 2 [⟨#[101, 108, 115, 101]⟩], .mt .body]), .fl (.wd 2 [⟨#[101, 110, 100]⟩])]
abbrev gr_while : List It := [.fl (.wd 2 [⟨#[119, 104, 105, 108, 101]⟩]), .fl (.mt .expr), .fl (.wd 2 [⟨#[100, 111]⟩]), .fl (.mt .body), .fl (.wd 2 [⟨#[101, 110, 100]⟩])]
abbrev gr_count : List It := [.fl (.wd 2 [⟨#[102, 111, 114]⟩]), .fl .nm, .fl (.wd 6 [⟨#[58, 61]⟩]), .fl (.mt .expr), .fl (.wd 2 [⟨#[116, 111]⟩]), .fl (.mt .expr), .fl (.wd 2 [⟨#[100, 111]⟩]), .fl (.mt .body), .fl (.wd 2 [⟨#[101, 110, 100]⟩])]
abbrev gr_repeat : List It := [.fl (.wd 2 [⟨#[114, 101, 112, 101, 97, 116]⟩]), .fl (.mt .body), .fl (.wd 2 [⟨#[117, 110, 116, 105, 108]⟩]), .fl (.mt .expr)]
abbrev gr_answer : List It := [.fl (.wd 2 [⟨#[114, 101, 116, 117, 114, 110]⟩]), .once (.ex .expr)]
abbrev gr_compound : List It := [.fl (.wd 2 [⟨#[98, 101, 103, 105, 110]⟩]), .fl (.mt .body), .fl (.wd 2 [⟨#[101, 110, 100]⟩])]
abbrev gr_expr : List It := [.fl (.mt .rel), .again (.row [.wd 2 [⟨#[97, 110, 100]⟩, ⟨#[111, 114]⟩], .mt .rel])]
abbrev gr_rel : List It := [.fl (.mt .sum), .once (.row [.wd 6 [⟨#[61]⟩, ⟨#[35]⟩, ⟨#[60]⟩, ⟨#[60, 61]⟩, ⟨#[62]⟩, ⟨#[62, 61]⟩], .mt .sum])]
abbrev gr_sum : List It := [.fl (.mt .term), .again (.row [.wd 6 [⟨#[43]⟩, ⟨#[45]⟩], .mt .term])]
abbrev gr_term : List It := [.fl (.mt .factor), .again (.row [.wd 6 [⟨#[42]⟩, ⟨#[47]⟩, ⟨#[37]⟩], .mt .factor])]
abbrev gr_minus : List It := [.fl (.wd 6 [⟨#[45]⟩]), .fl (.mt .factor)]
abbrev gr_not : List It := [.fl (.wd 2 [⟨#[110, 111, 116]⟩]), .fl (.mt .factor)]
abbrev gr_group : List It := [.fl (.wd 6 [⟨#[40]⟩]), .fl (.mt .expr), .fl (.wd 6 [⟨#[41]⟩])]
abbrev gr_object : List It := [.fl .nm, .again (.fn .detail)]
abbrev gr_list : List It := [.fl (.mt .expr), .again (.row [.wd 6 [⟨#[44]⟩], .mt .expr])]
abbrev gr_index : List It := [.fl (.wd 6 [⟨#[91]⟩]), .fl (.mt .list), .fl (.wd 6 [⟨#[93]⟩])]
abbrev gr_selection : List It := [.fl (.wd 6 [⟨#[46]⟩]), .fl .nm]
abbrev gr_args : List It := [.fl (.wd 6 [⟨#[40]⟩]), .once (.ex .list), .fl (.wd 6 [⟨#[41]⟩])]
theorem en_block : Entr 37 := enters_of Tryz.func37 (by kernel_rfl) rfl
theorem en_variables : Entr 72 := enters_of Tryz.func72 (by kernel_rfl) rfl
theorem en_constant : Entr 73 := enters_of Tryz.func73 (by kernel_rfl) rfl
theorem en_procedure : Entr 74 := enters_of Tryz.func74 (by kernel_rfl) rfl
theorem en_params : Entr 98 := enters_of Tryz.func98 (by kernel_rfl) rfl
theorem en_typed : Entr 96 := enters_of Tryz.func96 (by kernel_rfl) rfl
theorem en_array : Entr 125 := enters_of Tryz.func125 (by kernel_rfl) rfl
theorem en_record : Entr 126 := enters_of Tryz.func126 (by kernel_rfl) rfl
theorem en_body : Entr 54 := enters_of Tryz.func54 (by kernel_rfl) rfl
theorem en_skip : Entr 101 := enters_of Tryz.func101 (by kernel_rfl) rfl
theorem en_act : Entr 100 := enters_of Tryz.func100 (by kernel_rfl) rfl
theorem en_branch : Entr 128 := enters_of Tryz.func128 (by kernel_rfl) rfl
theorem en_done : Entr 129 := enters_of Tryz.func129 (by kernel_rfl) rfl
theorem en_branches : Entr 102 := enters_of Tryz.func102 (by kernel_rfl) rfl
theorem en_while : Entr 103 := enters_of Tryz.func103 (by kernel_rfl) rfl
theorem en_count : Entr 104 := enters_of Tryz.func104 (by kernel_rfl) rfl
theorem en_repeat : Entr 105 := enters_of Tryz.func105 (by kernel_rfl) rfl
theorem en_answer : Entr 106 := enters_of Tryz.func106 (by kernel_rfl) rfl
theorem en_compound : Entr 107 := enters_of Tryz.func107 (by kernel_rfl) rfl
theorem en_expr : Entr 97 := enters_of Tryz.func97 (by kernel_rfl) rfl
theorem en_rel : Entr 124 := enters_of Tryz.func124 (by kernel_rfl) rfl
theorem en_sum : Entr 142 := enters_of Tryz.func142 (by kernel_rfl) rfl
theorem en_term : Entr 155 := enters_of Tryz.func155 (by kernel_rfl) rfl
theorem en_minus : Entr 160 := enters_of Tryz.func160 (by kernel_rfl) rfl
theorem en_not : Entr 159 := enters_of Tryz.func159 (by kernel_rfl) rfl
theorem en_group : Entr 161 := enters_of Tryz.func161 (by kernel_rfl) rfl
theorem en_object : Entr 127 := enters_of Tryz.func127 (by kernel_rfl) rfl
theorem en_list : Entr 166 := enters_of Tryz.func166 (by kernel_rfl) rfl
theorem en_index : Entr 156 := enters_of Tryz.func156 (by kernel_rfl) rfl
theorem en_selection : Entr 157 := enters_of Tryz.func157 (by kernel_rfl) rfl
theorem en_args : Entr 158 := enters_of Tryz.func158 (by kernel_rfl) rfl
theorem en_name : Entr 35 := enters_of Tryz.func35 (by kernel_rfl) rfl
theorem en_take : Entr 93 := enters_of Tryz.func93 (by kernel_rfl) rfl


theorem RwC.mono {f : Nat} {row : List It} {b b' n : Nat} (h : RwC f row b n) (hb : b' ≤ b) : RwC f row b' n := fun X r d W hs hr hm => h X r d W hs (Nat.le_trans hr hb) hm
theorem RwC.less {f : Nat} {row : List It} {b n k : Nat} (h : RwC f row b n) (hk : k ≤ n) : RwC f row b k := fun X r d W hs hr hm => h X r d W hs hr (Nat.le_trans hm hk)
theorem rw_typed {b n : Nat} (h : RwC 96 gr_typed b n) : RwC 96 [.fl (.mt .typed)] b n := fun X r d W hs hr hm => (h X r d W hs hr hm).mono (fun e w' ⟨d', h1, h2⟩ => ⟨d', rb_one (ib_ex rfl h1), h2⟩)
theorem rw_name (n : Nat) : RwC 35 [.fl .nm] 90 n := fun X r d W hs hr hm => (name_ib hs (by omega)).mono (fun e w' ⟨d', h1, h2⟩ => ⟨d', rb_one h1, h2⟩)
/-- How far from the end, out of memory. -/
def mW (X : Sx) (W : World) : Nat := (tks (X.l.drop (atC X.g W))).length
theorem tks_drop : ∀ (l : List Tv) (i : Nat), tks (l.drop (ps l i)) = (tks l).drop i
  | [], i => by simp [tks, ps]
  | t :: r, i => by
    cases h : cmm t with
    | true => rw [toks_c h, ps_c h, List.drop_succ_cons]; exact tks_drop r i
    | false =>
      cases i with
      | zero => rw [ps_t0 h]; rfl
      | succ i => rw [toks_t h, ps_t h, List.drop_succ_cons, List.drop_succ_cons]; exact tks_drop r i
theorem mW_is {X : Sx} {r : Nat} {d : D} {W : World} (h : SD X r d W) : mW X W = (tks X.l).length - d.i := by
  obtain ⟨ve, hs, _, _⟩ := h.sv.ex
  unfold mW
  rw [atC_is hs.cells.2.1]
  simp [tks_drop]
theorem mw_lt {X : Sx} {r r' : Nat} {d d' : D} {W W' : World} (h : SD X r d W) (h' : SD X r' d' W') (hl : ms (tks X.l) d' < ms (tks X.l) d) : mW X W' < mW X W := by
  rw [mW_is h, mW_is h']
  unfold ms at hl
  rw [if_pos h.e0, if_pos h'.e0] at hl
  have := h'.il
  omega
/-! Which row a token begins. -/
def PC (m : M) (f n : Nat) : Prop := ∀ (X : Sx) (r : Nat) (d : D) (W : World), SD X r d W →
  Calls Tryz.prog f #[pg X.g] W fun e w' => ∃ u v, e = .returned (.tuple #[u, v]) ∧ Pick X m n d u v ∧ Below W.heap.size W w'
def PickD (X : Sx) (k : Dk) (n : Nat) (d : D) (u v : Value) : Prop :=
  (∃ nd f row i, u = .int .u8 nd ∧ v = fv f X.g ∧ Entr f ∧ lvs row = [] ∧ RwC f row 90 n ∧ dpick (nxt (tks X.l) d) (.fn k) = some i ∧ ∀ d', Rb (tks X.l) (row ++ [.lv nd]) (opD nd d) d' → Ib (tks X.l) i d d') ∨
  (u = .int .u8 0 ∧ v = .nilFunc ∧ dpick (nxt (tks X.l) d) (.fn k) = none)
def PD (k : Dk) (f n : Nat) : Prop := ∀ (X : Sx) (r : Nat) (d : D) (W : World), SD X r d W →
  Calls Tryz.prog f #[pg X.g] W fun e w' => ∃ u v, e = .returned (.tuple #[u, v]) ∧ PickD X k n d u v ∧ Below W.heap.size W w'
theorem dpick_fn (o : Option Tv) (k : Dk) : dpick o (.fn k) = if (o.getD tv0).k == k.kd then (k.pick (o.getD tv0)).map (fun m => .fl (.mt m)) else none := by
  cases o with
  | none => cases k <;> rfl
  | some t => rfl
theorem dpick_ex (o : Option Tv) (m : M) : dpick o (.ex m) = if facN (o.getD tv0) == 0 then none else some (.fl (.mt m)) := by
  cases o with
  | none => rfl
  | some t => rfl
theorem drow_factor (o : Option Tv) : drow o .factor = M.row (o.getD tv0) .factor := by
  cases o with
  | none => rfl
  | some t => rfl
theorem kt_is (k : Int) (t : Tv) {l : List UInt8} (hl : l ≠ []) : ((kt k t).toList == l) = (t.k == k && t.is l) := by
  unfold kt Tv.is
  cases h : (t.k == k) with
  | true => simp
  | false =>
    have e : (ByteArray.mk #[]).toList = [] := by decide +kernel
    simp only [Bool.false_eq_true, if_false, e, Bool.false_and]
    cases l with
    | nil => exact absurd rfl hl
    | cons a l => rfl
theorem br_yes {X : Sx} {r : Nat} {d : D} {W : World} (h : SD X r d W) {a : ByteArray} (ea : kt 6 (nx X (ps X.l d.i)) = a) (hq : (a.toList == [40]) = true) : dpick (nxt (tks X.l) d) (.fn .bracket) = some (.fl (.mt .params)) := by
  rw [← ea, kt_is 6 _ (by simp), Bool.and_eq_true] at hq
  rw [dpick_fn, ← h.hnx]
  simp [Dk.kd, Dk.pick, hq.2, show ((nx X (ps X.l d.i)).k == 6) = true from hq.1]
theorem br_no {X : Sx} {r : Nat} {d : D} {W : World} (h : SD X r d W) {a : ByteArray} (ea : kt 6 (nx X (ps X.l d.i)) = a) (hq : (a.toList == [40]) = false) : dpick (nxt (tks X.l) d) (.fn .bracket) = none := by
  rw [← ea, kt_is 6 _ (by simp)] at hq
  rw [dpick_fn, ← h.hnx]
  cases h6 : ((nx X (ps X.l d.i)).k == 6) with
  | false => simp [Dk.kd, h6]
  | true =>
    rw [h6, Bool.true_and] at hq
    simp [Dk.kd, Dk.pick, hq]
theorem row_less {L : List Tv} {m : M} {nd : Int} {x : Fl} {rest : List It} {d d' : D} (hd : drow (nxt L d) m = .op nd (.fl x :: rest)) (hx : ∀ m, x ≠ .mt m) (h : Ib L (.fl (.mt m)) d d') (he : d.e = 0) (he' : d'.e = 0) : ms L d' < ms L d := by
  have h1 := h []
  have h2 : Rch L [.fl (.mt m)] d (.fl x :: (rest ++ [.lv nd])) (opD nd d) := by
    refine .step ?_
    have e : dst L (.fl (.mt m)) d = ((.fl x :: rest) ++ [.lv nd], opD nd d) := by simp only [dst, hd]
    rw [e]
    simp only [List.cons_append, List.append_nil]
    exact .refl
  have h3 : Rch L [.fl (.mt m)] d (rest ++ [.lv nd]) (tkI L x (opD nd d)) := h2.trans (ib_tk hx _)
  have h4 := rch_ms (h3.det h1)
  have h5 := (ms_tkI (L := L) (x := x) (d := opD nd d)).2 (by
    rw [ms_op]
    unfold ms
    rw [if_pos he]
    omega)
  rw [ms_op] at h5
  omega
theorem pick_lt {L : List Tv} {k : Dk} {i : It} {d d' : D} (hp : dpick (nxt L d) (.fn k) = some i) (h : Ib L i d d') (he : d.e = 0) (he' : d'.e = 0) : ms L d' < ms L d := by
  rw [dpick_fn] at hp
  split at hp
  · simp only [Option.map_eq_some_iff] at hp
    obtain ⟨m, hm, rfl⟩ := hp
    rcases dk_pick hm with rfl | rfl | rfl | rfl | rfl | rfl | rfl <;> exact row_less rfl ne_wd h he he'
  · cases hp
/-! The choices. -/
def facW (g : Nat) (t : Tv) : Value := if facN t == 25 then fv 160 g else if facN t == 26 then fv 159 g else if facN t == 27 then fv 161 g else if facN t == 32 then fv 93 g else if facN t == 28 then fv 127 g else .nilFunc
set_option maxHeartbeats 2000000 in
theorem factor_any {X : Sx} {r : Nat} {d : D} {W : World} (h : SD X r d W) :
    Calls Tryz.prog 144 #[pg X.g] W fun e w' => e = .returned (.tuple #[.int .u8 (facN (nx X (ps X.l d.i))), facW X.g (nx X (ps X.l d.i))]) ∧ Below W.heap.size W w' := by
  have HK : Hid (Calls Tryz.prog 49 #[pg X.g] W fun e w' => e = .returned (nx X (ps X.l d.i)).v ∧ Below W.heap.size W w') := snext_any h.sv (ps_le _ _)
  clear h
  generalize nx X (ps X.l d.i) = t at *
  have hmf : ∀ (fn : Fn) (first cap : Array Value) (w : World), (Instr.makeFunc fn first cap).run Tryz.prog w = .ok (.func fn first cap) w := fun _ _ _ _ => rfl
  obtain ⟨uv, hu⟩ : ∃ uv, (.tuple #[.int .u8 (facN t), facW X.g t] : Value) = uv := ⟨_, rfl⟩
  have HU := show Hid _ from hu
  rw [hu]
  clear hu
  have HB : Hid (∀ w1, Below W.heap.size W w1 → Below W.heap.size W (w1.alloc (TokB t))) := fun w1 hb => hb.alloc hb.size _
  dsimp only [Tv.v] at HK
  go_enter Tryz.func144, Tryz.ntmps144
  go_wp2_with (go_at_call 49; refine HK.out.mono ?_; rintro e w1 ⟨rfl, hb1⟩; have HB1 := show Hid _ from HB.out _ hb1; clear hb1)
  all_goals (
    go_ret2
    refine ⟨?_, HB1.out⟩
    rw [← HU.out]
    clear HU HK HB HB1 hmf
    simp_all [facN, facW, Tv.is])

end Go.Proofs.YtkigadnkclkopaaGreat
