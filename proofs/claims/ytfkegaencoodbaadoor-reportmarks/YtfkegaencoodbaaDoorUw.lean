import Derived.Test.YtfkegaencoodbaaDoorUv
import Derived.Test.YtfkegaencoodbaaDoorUo
import Derived.Test.YtfkegaencoodbaaDoorRows
import Derived.ProofKit
import Derived.OpenShut
import Derived.ShutString
import Derived.ChangeOld
import Derived.Lay
import Derived.LaidHandle
import Derived.LaidSub
import Derived.LaidLaws
import Derived.Lib.LaidTab
import Derived.Lib.SmallJoins
set_option linter.unusedVariables false
set_option linter.unusedSimpArgs false
namespace Go.Proofs.YtfkegaencoodbaaDoor
open Go.ChangeShapes Go.WideShapes Go.ChangeAt Go.RowKit
open Go.ChangeMaps (open_string shut_string)

/-! What is laid, for the ends. -/
abbrev lds : List (String × DataW Unit) := [("colophon/width.spans", Rows.laid_colophon_width_spans), ("math/bits.deBruijn32tab", Rows.laid_math_bits_deBruijn32tab), ("math/bits.deBruijn64tab", Rows.laid_math_bits_deBruijn64tab), ("internal/strconv.uint64pow10", Rows.laid_internal_strconv_uint64pow10), ("errors.errorType", Rows.laid_errors_errorType)]
abbrev ldp : List (String × DataW Unit) := [("colophon/width.spans", Rows.laid_colophon_width_spans), ("math/bits.deBruijn32tab", Rows.laid_math_bits_deBruijn32tab), ("math/bits.deBruijn64tab", Rows.laid_math_bits_deBruijn64tab), ("internal/strconv.uint64pow10", Rows.laid_internal_strconv_uint64pow10)]
theorem laidMet_over {P : Program} {w0 : World} {laid : List (String × DataW Unit)} (args : Array Value) (hf : w0.layFits P laid [] = true) (hi : w0.layIfaces P laid (w0.layVars P laid) = true) :
    laidMet P laid ((w0.layVars P laid).forCall (fun _ _ => 0) ⟨#[], args, []⟩).memory := by
  have e1 : (laid.filter fun x => (laid.map (·.1)).contains x.1) = laid := List.filter_eq_self.2 fun x hx => List.contains_iff_mem.2 (List.mem_map.2 ⟨x, hx, rfl⟩)
  have e2 : (laid.filter fun x => !(laid.map (·.1)).contains x.1) = [] := List.filter_eq_nil_iff.2 fun x hx => by rw [List.contains_iff_mem.2 (List.mem_map.2 ⟨x, hx, rfl⟩)]; simp
  have h : laidMet P laid (w0.layVars P laid) := laidMet_layVars (w0 := w0) (laid.map (·.1)) [] (by rw [e1]) (by rw [e1]; exact hf) (by rw [e1]; exact hi) (by rw [e2]; exact LaidIn.none)
  exact h.of_heap (by simp [World.memory, World.forCall, Input.heap])
theorem ft_et : Tryd.prog.globalNamed "errors.errorType" = some 0 := by kernel_rfl
theorem ft_rt : (Tryd.prog.cutTypes.find? (·.1 == "internal/reflectlite.rtype")).map (·.2) = some 107 := by kernel_rfl
theorem ft_size : Tryd.prog.types.size = 174 := by kernel_rfl
theorem ft_row : ((List.range 174).filter fun t => Tryd.prog.rowNamed t [101, 114, 114, 111, 114]) = [32] := by kernel_rfl
theorem ety_of_laid {W : World} (h : laidMetH Tryd.prog lds W) : ETy W := by
  have hx : ("errors.errorType", Rows.laid_errors_errorType) ∈ lds.filter fun x => x.2.handleName?.isSome := by
    refine List.mem_filter.2 ⟨.tail _ (.tail _ (.tail _ (.tail _ (.head _)))), by kernel_rfl⟩
  have h' : handlesMet Tryd.prog (lds.filter fun x => x.2.handleName?.isSome) W := by
    unfold laidMetH at h
    revert h hx
    generalize (lds.filter fun x => x.2.handleName?.isSome) = fl
    intro h hx
    cases fl with
    | nil => cases hx
    | cons a r => exact h.2
  obtain ⟨name, u, ty, e1, e2, e3, e4, e5⟩ := h' _ hx
  have en : name = [101, 114, 114, 111, 114] := (Option.some.inj e1).symm
  subst en
  obtain rfl := Option.some.inj (ft_rt.symm.trans e2)
  have hm : ty ∈ (List.range 174).filter fun t => Tryd.prog.rowNamed t [101, 114, 114, 111, 114] := List.mem_filter.2 ⟨List.mem_range.2 (by rw [← ft_size]; exact e3), e4⟩
  rw [ft_row] at hm
  obtain rfl := List.mem_singleton.1 hm
  have hh : typeHandle Tryd.prog 32 = hdl 32 := by kernel_rfl
  rw [hh] at e5
  simpa [ETy] using World.var?_cell ft_et e5 0
theorem plaid_rows : (Rows.laid_internal_strconv_uint64pow10 : DataW Unit) = Lib.tabData .u64 Lib.pow10Tab := by kernel_rfl
theorem pow_of_laid {W : World} {L : List (String × DataW Unit)} (hpl : (L.all fun x => x.2.handleName?.isNone) = true) (hm : ("internal/strconv.uint64pow10", Rows.laid_internal_strconv_uint64pow10) ∈ L) (h : laidMetH Tryd.prog L W) : Lib.TabIs Tryd.prog W "internal/strconv.uint64pow10" .u64 Lib.pow10Tab := by
  rw [MakeChecks.laidMetH_plain _ _ _ hpl] at h
  obtain ⟨ps, hps, _, _⟩ := h
  obtain ⟨g, t, cs, fuel, p, hg, ht, hv, hd⟩ := laid_mem L ps hps _ _ hm
  obtain rfl := Option.some.inj ((show Tryd.prog.globalNamed "internal/strconv.uint64pow10" = some 2 by kernel_rfl).symm.trans hg)
  obtain rfl := Option.some.inj ((show (Tryd.prog.globals[2]?).map (·.type) = some 139 by kernel_rfl).symm.trans ht)
  rw [plaid_rows] at hd
  unfold Lib.TabIs
  rw [hv, ← Lib.cells_of_tab Tryd.underlying139 Tryd.underlying126 (by kernel_rfl) (by kernel_rfl) hd]
theorem rsp_laid {W : World} (hL : laidMetH Tryd.prog lds W) : RsP W ∧ ItP W := by
  have hP : laidMetH Tryd.prog ldp W := by
    have h9 := hL.filter (fun x => x.2.handleName?.isNone)
    have e9 : lds.filter (fun x => x.2.handleName?.isNone) = ldp := by kernel_rfl
    rw [e9] at h9
    exact h9
  have hI := itp_of (pow_of_laid (by kernel_rfl) (by exact .tail _ (.tail _ (.tail _ (.head _)))) hP)
  exact ⟨rsp_of (ety_of_laid hL) hI (tab_of_laid (by kernel_rfl) (by exact .head _) hP), hI⟩
set_option maxRecDepth 100000 in
/-- A Fault as an argument. -/
theorem flt_of {H : Type} {enc : TypeId × Value → H} {W : World} {spare : Nat → Bool} {held : Bool} {v : Value} {d : DataW H} {p : List MemPlace} {base : Nat} (hv : Value.okWide Tryd.prog W .any base 26 v) (h : DataW.Trod enc Tryd.prog W 0 spare held 26 v d p) :
    ∃ c x y z, v = ftv c x y z ∧ i64 c ∧ i64 y ∧ i64 z := by
  obtain ⟨cs, rfl, hsz⟩ := okWide_struct Tryd.underlying26 hv
  obtain ⟨fuel, hf⟩ := h
  have hce : Tryd.prog.cellsOf 26 = 4 := by kernel_rfl
  have hlen : cs.toList.length = 4 := by rw [Array.length_toList]; exact hsz.trans hce
  obtain ⟨l⟩ := cs
  have hf' : DataW.trod enc Tryd.prog W 0 spare held fuel 26 l = some (d, p) := hf
  clear hf hv hsz
  obtain ⟨y0, y1, n', _, _, t0, t1⟩ := trod_struct2 Tryd.underlying26 hf'
  match l, hlen with
  | [c0, c1, c2, c3], _ =>
    have ci : Tryd.prog.cellsOf 3 = 1 := by kernel_rfl
    have ck : Tryd.prog.cellsOf 22 = 1 := by kernel_rfl
    have cp : Tryd.prog.cellsOf 24 = 3 := by kernel_rfl
    simp [ck, cp] at t0 t1
    obtain ⟨b0, e0, _, x0⟩ := DataW.trod_int Tryd.underlying22 t0
    obtain ⟨u0, u1, u2, n3, _, _, r0, r1, r2⟩ := Go.Deep.trod_struct3 Tryd.underlying24 t1
    simp [ci] at r0 r1 r2
    obtain ⟨b1, e1, _, x1⟩ := DataW.trod_int Tryd.underlying3 r0
    obtain ⟨b2, e2, _, x2⟩ := DataW.trod_int Tryd.underlying3 r1
    obtain ⟨b3, e3, _, x3⟩ := DataW.trod_int Tryd.underlying3 r2
    simp at e0 e1 e2 e3
    subst e0 e1 e2 e3
    exact ⟨b0, b1, b2, b3, rfl, bounds_i64 x0, bounds_i64 x2, bounds_i64 x3⟩

end Go.Proofs.YtfkegaencoodbaaDoor
