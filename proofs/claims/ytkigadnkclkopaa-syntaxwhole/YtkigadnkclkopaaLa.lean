import Derived.Test.YtkigadnkclkopaaCk
set_option linter.unusedVariables false
set_option linter.unusedSimpArgs false
namespace Go.Proofs.Ytkigadnkclkopaa
open Go.RowKit

/-! The law's same, of equal rows; awake. -/
theorem Le.at {w : World} {ao : Option Addr} {l : List Ev} (h : Le w ao l) {V : World} (hb : Below w.heap.size w V) {j : Nat} {d : Ev} (hj : l[j]? = some d) : ∃ b off, ao = some ⟨b, off, none⟩ ∧ b < V.heap.size ∧
    V.cell? ⟨b, off + j * 8, none⟩ = some (.int .u8 d.k) ∧ V.cell? ⟨b, off + j * 8 + 1, none⟩ = some (.int .u8 d.n) ∧ V.cell? ⟨b, off + j * 8 + 2, none⟩ = some (.int .u8 d.d.k) ∧ V.cell? ⟨b, off + j * 8 + 3, none⟩ = some (.string d.d.t) ∧ V.cell? ⟨b, off + j * 8 + 4, none⟩ = some (.int .i64 d.d.a) ∧ V.cell? ⟨b, off + j * 8 + 5, none⟩ = some (.int .i64 d.d.l) ∧ V.cell? ⟨b, off + j * 8 + 6, none⟩ = some (.int .i64 d.d.c) ∧ V.cell? ⟨b, off + j * 8 + 7, none⟩ = some (.int .i64 d.d.f) := by
  obtain ⟨b, off, h1, c0, c1, c2, c3, c4, c5, c6, c7⟩ := h.below hb j d hj
  exact ⟨b, off, h1, World.block_lt_of_cell? _ _ c0, c0, c1, c2, c3, c4, c5, c6, c7⟩
theorem Le.pre {w : World} {ao : Option Addr} {l m : List Ev} (h : Le w ao (l ++ m)) : Le w ao l := by
  intro j d hj
  refine h j d ?_
  rw [List.getElem?_append_left (List.getElem?_eq_some_iff.1 hj).1]
  exact hj
theorem le_of_blk {w : World} {g : Nat} {l : List Ev} {cs : Array Value} {f : TypeId} (hg : w.heap[g]? = some (.cells cs f (0, 0))) (hc : ∀ (k : Nat) (u : Value), (ecs l)[k]? = some u → cs[k]? = some u) : Le w (some ⟨g, 0, none⟩) l := by
  intro j d hj
  have hcc : ∀ (i : Nat) (u : Value), d.cs[i]? = some u → w.cell? ⟨g, 0 + j * 8 + i, none⟩ = some u := fun i u hu => by
    rw [Nat.zero_add]
    exact blk_cell hg (hc _ _ (flat_at Ev.cs 8 Ev.cs_len l j i d _ hj hu))
  exact ⟨g, 0, rfl, hcc 0 _ rfl, hcc 1 _ rfl, hcc 2 _ rfl, hcc 3 _ rfl, hcc 4 _ rfl, hcc 5 _ rfl, hcc 6 _ rfl, hcc 7 _ rfl⟩
def tS : Tv := ⟨2, ⟨#[115, 107, 105, 112]⟩, 0, 0, 0, 0⟩
def lS : List Ev := [⟨1, 13, tv0⟩, ⟨2, 0, tS⟩, ⟨3, 13, tv0⟩]
def nS : Nd := .mk 13 tv0 [.mk 0 tS []]
theorem bo_s : bo lS = (nS, 0) := by kernel_rfl
theorem bo_s2 : bo (lS.take 2) = (.mk 0 tv0 [], 130) := by kernel_rfl
theorem evs_s : evs nS = lS := by kernel_rfl
theorem dpt_s : dpt nS = 1 := by kernel_rfl
abbrev TkB (d : Tv) : Obj := .cells #[.int .u8 d.k, .string d.t, .int .i64 d.a, .int .i64 d.l, .int .i64 d.c, .int .i64 d.f] 29
abbrev LsB : Obj := .cells #[.int .u8 1, .int .u8 13, .int .u8 0, .string ⟨#[]⟩, .int .i64 0, .int .i64 0, .int .i64 0, .int .i64 0, .int .u8 2, .int .u8 0, .int .u8 2, .string ⟨#[115, 107, 105, 112]⟩, .int .i64 0, .int .i64 0, .int .i64 0, .int .i64 0, .int .u8 3, .int .u8 13, .int .u8 0, .string ⟨#[]⟩, .int .i64 0, .int .i64 0, .int .i64 0, .int .i64 0] 63
end Go.Proofs.Ytkigadnkclkopaa
