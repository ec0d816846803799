import Derived.Test.YthbgipmkdcffnaaTe
import Derived.Deep.RegionHeld3
import Derived.Deep.RegionWith
import Derived.Deep.RegionLaw
import Derived.WalkMore
set_option linter.unusedVariables false
set_option linter.unusedSimpArgs false
namespace Go.Proofs.Ythbgipmkdcffnaa
open Go.RowKit

/-! Whole, of two trees that are one; how much a tree weighs. -/
theorem Nv.kid {W : World} {ao : Option Addr} {c : List Nd} (h : (ao = none → c = []) ∧ ∀ a, ao = some a → c = [] ∨ ∃ b o, a = ⟨b, o, none⟩ ∧ HL W b o c) {V : World} (hb : Below W.heap.size W V) {j : Nat} {m : Nd} (hm : c[j]? = some m) :
    ∃ b o, ao = some ⟨b, o, none⟩ ∧ b < V.heap.size ∧ ∃ ao2 cap2, (V.cell? ⟨b, o + j * 8, none⟩ = some (.int .u8 m.k) ∧ V.cell? ⟨b, o + j * 8 + 1, none⟩ = some (.int .u8 m.d.k) ∧ V.cell? ⟨b, o + j * 8 + 2, none⟩ = some (.string m.d.t) ∧ V.cell? ⟨b, o + j * 8 + 3, none⟩ = some (.int .i64 m.d.a) ∧ V.cell? ⟨b, o + j * 8 + 4, none⟩ = some (.int .i64 m.d.l) ∧ V.cell? ⟨b, o + j * 8 + 5, none⟩ = some (.int .i64 m.d.c) ∧ V.cell? ⟨b, o + j * 8 + 6, none⟩ = some (.int .i64 m.d.f) ∧ V.cell? ⟨b, o + j * 8 + 7, none⟩ = some (.slice ao2 m.c.length cap2)) ∧
      Nv V (.agg #[.int .u8 m.k, .int .u8 m.d.k, .string m.d.t, .int .i64 m.d.a, .int .i64 m.d.l, .int .i64 m.d.c, .int .i64 m.d.f, .slice ao2 m.c.length cap2]) m := by
  have hlt := (List.getElem?_eq_some_iff.1 hm).1
  cases ao with
  | none => have := h.1 rfl; subst this; simp at hlt
  | some a =>
    obtain ⟨b, o, rfl, hl⟩ := (h.2 a rfl).resolve_left (fun e => by subst e; simp at hlt)
    obtain ⟨hbl, ao2, cap2, hc, p1, p2, p3, p4⟩ := hn_cells (HL.at (HL.below hb c b o hl) hm)
    exact ⟨b, o, rfl, hbl, ao2, cap2, hc, ao2, cap2, rfl, p1, p2, p3, p4⟩
def WholeC (n : Nd) : Prop := ∀ va vb W, Nv W va n → Nv W vb n → Calls Try.prog 11 #[va, vb] W fun r w' => r = .returned (.bool true) ∧ Below W.heap.size W w'
set_option maxRecDepth 100000 in
set_option maxHeartbeats 800000 in
theorem whole_step (n : Nd) (IH : ∀ m, m ∈ n.c → WholeC m) : WholeC n := by
  intro va vb W h h'
  obtain ⟨ao, cap, rfl, q1, q2, q3, q4⟩ := h
  obtain ⟨bo, cap', rfl, q1', q2', q3', q4'⟩ := h'
  obtain ⟨k, d, c⟩ := n
  dsimp only [Nd.k, Nd.d, Nd.c] at *
  have HQ : Hid ((ao = none → c = []) ∧ ∀ a, ao = some a → c = [] ∨ ∃ b o, a = ⟨b, o, none⟩ ∧ HL W b o c) := ⟨q3, q4⟩
  have HQ' : Hid ((bo = none → c = []) ∧ ∀ a, bo = some a → c = [] ∨ ∃ b o, a = ⟨b, o, none⟩ ∧ HL W b o c) := ⟨q3', q4'⟩
  have HIH : Hid (∀ m, m ∈ c → WholeC m) := IH
  obtain ⟨W1, eW⟩ : ∃ W1, W1 = (W.alloc (NdB k d (.slice ao c.length cap))).alloc (NdB k d (.slice bo c.length cap')) := ⟨_, rfl⟩
  have hb0 := below_new W (NdB k d (.slice ao c.length cap))
  have hb1 := below_new (W.alloc (NdB k d (.slice ao c.length cap))) (NdB k d (.slice bo c.length cap'))
  have HB1 : Hid (Below W.heap.size W W1 ∧ W1.heap[W.heap.size]? = some (NdB k d (.slice ao c.length cap)) ∧ W1.heap[W.heap.size + 1]? = some (NdB k d (.slice bo c.length cap'))) := by
    rw [eW]
    exact ⟨hb0.trans (hb1.mono hb0.size), blk_below (new_at _ _) hb1, by rw [← World.size_alloc W (NdB k d (.slice ao c.length cap))]; exact new_at _ _⟩
  have hcl : (c.length : Int) ≤ 9223372036854775807 := by have : maxLen = 9223372036854775807 := rfl; omega
  clear q3 q4 q3' q4' IH hb0 hb1
  go_enter Try.func11, Try.ntmps11
  go_wp2_with fail
  try rw [← eW]
  clear eW
  go_loopw [5, 6] (fun iv _ wr => ∃ j : Nat, j ≤ c.length ∧ iv = .int .i64 j ∧ Hid (Below W1.heap.size W1 wr)) (fun iv _ _ => c.length - (intOf iv).toNat)
  case atStart => exact ⟨0, Nat.zero_le _, rfl, Below.refl _ _⟩
  case round =>
    obtain ⟨j, hj, rfl, HJ⟩ := hrel
    have x7 : wr.cell? ⟨W.heap.size, 7, none⟩ = some (.slice ao c.length cap) := blk_cell (blk_below HB1.out.2.1 HJ.out) rfl
    have z7 : wr.cell? ⟨W.heap.size + 1, 7, none⟩ = some (.slice bo c.length cap') := blk_cell (blk_below HB1.out.2.2 HJ.out) rfl
    have xl : W.heap.size < wr.heap.size := blk_lt (blk_below HB1.out.2.1 HJ.out)
    have zl : W.heap.size + 1 < wr.heap.size := blk_lt (blk_below HB1.out.2.2 HJ.out)
    by_cases hlt : j < c.length
    · have z1 : (j : Int) < c.length := by omega
      have z2 : (0 : Int) ≤ j := by omega
      obtain ⟨m, hm⟩ : ∃ m, c[j]? = some m := ⟨_, List.getElem?_eq_getElem hlt⟩
      have hmm : m ∈ c := List.mem_of_getElem? hm
      have hbr : Below W.heap.size W wr := HB1.out.1.trans (HJ.out.mono HB1.out.1.size)
      obtain ⟨b, o, rfl, hbl, ao2, cap2, ⟨y0, y1, y2, y3, y4, y5, y6, y7⟩, hv⟩ := Nv.kid HQ.out hbr hm
      obtain ⟨b', o', rfl, hbl', ao3, cap3, ⟨u0, u1, u2, u3, u4, u5, u6, u7⟩, hv'⟩ := Nv.kid HQ'.out hbr hm
      have HC : Hid (∀ V, Below wr.heap.size wr V → Calls Try.prog 11 #[.agg #[.int .u8 m.k, .int .u8 m.d.k, .string m.d.t, .int .i64 m.d.a, .int .i64 m.d.l, .int .i64 m.d.c, .int .i64 m.d.f, .slice ao2 m.c.length cap2], .agg #[.int .u8 m.k, .int .u8 m.d.k, .string m.d.t, .int .i64 m.d.a, .int .i64 m.d.l, .int .i64 m.d.c, .int .i64 m.d.f, .slice ao3 m.c.length cap3]] V fun r w' => r = .returned (.bool true) ∧ Below V.heap.size V w') := fun V hb => HIH.out m hmm _ _ V (hv.below hb) (hv'.below hb)
      clear hm hmm hv hv' hbr
      go_wp2_with fail
      go_region_with (go_at_call 11; refine (HC.out _ (by first | exact Below.refl _ _ | exact (Below.refl _ _).drew)).mono ?_; rintro r w2 ⟨rfl, hb2⟩; have H2 : Hid (Below W1.heap.size W1 w2) := HJ.out.drew.trans (hb2.mono HJ.out.size); clear hb2)
      all_goals (
        go_wp2_with fail
        exact ⟨⟨j + 1, hlt, by go_num, H2⟩, by simp [intOf]; omega⟩)
    · obtain rfl : j = c.length := by omega
      have z1 : ¬ ((c.length : Int) < c.length) := by omega
      go_wp2_with fail
      go_ret
      exact ⟨rfl, HB1.out.1.trans (HJ.out.mono HB1.out.1.size)⟩
theorem whole_any (n : Nd) : WholeC n := by
  obtain ⟨s, hs⟩ : ∃ s, nsz n = s := ⟨_, rfl⟩
  induction s using Nat.strongRecOn generalizing n with
  | ind s ih => exact whole_step n (fun m hm => ih (nsz m) (by rw [← hs]; exact nsz_kid hm) m rfl)

end Go.Proofs.Ythbgipmkdcffnaa
