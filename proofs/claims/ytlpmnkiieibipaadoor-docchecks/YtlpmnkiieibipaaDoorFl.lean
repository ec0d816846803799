import Derived.Test.YtlpmnkiieibipaaDoorFd
import Derived.Test.YtlpmnkiieibipaaDoorDy
set_option linter.unusedVariables false
set_option linter.unusedSimpArgs false
namespace Go.Proofs.YtlpmnkiieibipaaDoor
open Go.RowKit

/-! Rows that are as long as what came in. -/
theorem app_row {W : World} {ops : Array Oper} {rest : List Oper} {o : Oper} {a : Act} {Q : Exit → Act → World → Prop} (hgd : o.guard = none) (s x : Operand)
    (ho : o.op = .call { callee := .builtin .append, args := #[s, x], argTypes := #[23, 23] }) (B : Nat) (v : Value) (l ds : List Dc) (hs : a.eval s = v) (hr : Rp B W v l)
    (ad : Addr) (m c : Nat) (hx : a.eval x = .slice (some ad) m c) (hm : ds.length = m) (hg : ∀ j u, (dcs ds)[j]? = some u → W.cell? (ad.add j) = some u) (hl : (l.length + ds.length) * 48 ≤ 140737488355328) (hB : B ≤ W.heap.size)
    (h : ∀ v' w', Rp B w' v' (l ++ ds) → Below B W w' → wpList Tryd.prog ops Q rest (a.put o.dst v') w') : wpList Tryd.prog ops Q (o :: rest) a W := by
  subst hm
  obtain ⟨i0, hi, hz0, hz1, hz2⟩ := info_parts Tryd.info36
  refine wpList_append_own_at (P := Tryd.prog) (w := W) hgd s x 23 ho B 36 i0 _ 5 48 Tryd.underlying23 hi hz0 hz1 hz2 rfl (by decide) v _ _ hs hr ad ds.length c (dcs ds) hx (by rw [dcs_len]) hg (dcs_one ds) (by unfold maxLen; omega) hl hB ?_
  intro v' w' h1 h2 _ h4
  refine h v' w' ?_ ((Below.refl B W).grown h2 hB hr.own)
  unfold Rp
  rw [List.length_append, dcs_app]
  exact h1

def m99 : Dc := ⟨99, bE, 0, 0, false⟩
theorem rp_some {B : Nat} {w : World} {v : Value} {l : List Dc} {d : Dc} (h : Rp B w v (l ++ [d])) : ∃ g c, v = .slice (some ⟨g, 0, none⟩) (l.length + 1) c ∧ l.length + 1 ≤ c ∧ c ≤ 9223372036854775807 := by
  rcases h.2 with ⟨_, h0⟩ | ⟨g, cap, cur, rfl, _, _, h4, h5, _⟩
  · rw [List.length_append] at h0; simp at h0
  · rw [List.length_append] at h4 ⊢
    exact ⟨g, cap, rfl, h4, h5⟩
/-- What the law has lent, in any world behind. -/
structure DSt (w W : World) (g c : Nat) (l : List Dc) : Prop where
  bel : Below w.heap.size w W
  row : Rp w.heap.size W (.slice (some ⟨g, 0, none⟩) (l.length + 1) c) (l ++ [m99])
theorem DSt.below {w W W' : World} {g c : Nat} {l : List Dc} (h : DSt w W g c l) (hb : Below W.heap.size W W') : DSt w W' g c l :=
  ⟨h.bel.trans (hb.mono h.bel.size), h.row.below hb⟩
theorem DSt.lay {w W : World} {g c : Nat} {l : List Dc} (h : DSt w W g c l) (ht : ∀ d ∈ l, d.t.size ≤ 9223372036854775807) : Lay W (some ⟨g, 0, none⟩) l := by
  obtain ⟨ao, cap, hv, _, hL, _, _, _⟩ := Lay.row h.row (fun d hd => by
    rcases List.mem_append.1 hd with h | h
    · exact ht d h
    · simp at h; subst h; exact Nat.zero_le _)
  simp only [Value.slice.injEq] at hv
  obtain ⟨rfl, _, rfl⟩ := hv
  intro j d hd
  refine hL j d ?_
  have := (List.getElem?_eq_some_iff.1 hd).1
  rw [List.getElem?_append_left this]
  exact hd
theorem DSt.mark {w W : World} {g c : Nat} {l : List Dc} (h : DSt w W g c l) (ht : ∀ d ∈ l, d.t.size ≤ 9223372036854775807) : W.cell? ⟨g, l.length * 5, none⟩ = some (.int .u8 99) := by
  obtain ⟨ao, cap, hv, _, hL, _, _, _⟩ := Lay.row h.row (fun d hd => by
    rcases List.mem_append.1 hd with h | h
    · exact ht d h
    · simp at h; subst h; exact Nat.zero_le _)
  simp only [Value.slice.injEq] at hv
  obtain ⟨rfl, _, rfl⟩ := hv
  obtain ⟨_, b, off, e, c0, _⟩ := hL l.length m99 (by simp)
  cases e
  rw [Nat.zero_add] at c0
  exact c0

set_option maxHeartbeats 1000000 in
theorem lent_any (ao : Option Addr) (l : List Dc) (cap : Nat) (w : World) (hL : Lay w ao l) (hnil : ao = none → l.length = 0) (h48 : l.length * 48 ≤ 140737488351232) :
    Calls Tryd.prog 9 #[.slice ao l.length cap] w fun e w' => ∃ g c, e = .returned (.slice (some ⟨g, 0, none⟩) l.length c) ∧ l.length + 1 ≤ c ∧ c ≤ 9223372036854775807 ∧ DSt w w' g c l := by
  have hn : l.length ≤ 9223372036854775807 := by omega
  cases ao with
  | none =>
    have h0 := hnil rfl
    have e0 : l = [] := List.eq_nil_of_length_eq_zero h0
    subst e0
    clear hL hnil
    go_enter Tryd.func9, Tryd.ntmps9
    go_wp2_with (at_builtin; refine app_row rfl _ _ rfl w.heap.size (.slice none 0 0) [] [m99] rfl (rp_nil _ _) ⟨w.heap.size, 0, none⟩ 1 1 rfl rfl (fun j u hu => World.news_of_block (heap_new _ _) j u (by simpa [dcs, flat, Dc.cs, m99, bE] using hu)) (by simp only [List.length_cons, List.length_nil]; omega) (by rw [World.size_alloc]; exact Nat.le_succ _) ?_)
    intro v2 w2 hr2 hb2
    obtain ⟨g, c, rfl, hc1, hc2⟩ := rp_some (l := []) hr2
    have H2 : Hid (DSt w w2 g c []) := ⟨((Below.refl _ _).alloc (Nat.le_refl _) _).trans hb2, hr2⟩
    clear hr2 hb2
    have q1 : (0 : Int) ≤ c := by omega
    go_wp2_with fail
    go_ret
    exact ⟨g, c, rfl, hc1, hc2, H2.out⟩
  | some a =>
    have HN : Hid (∀ j u, (dcs l)[j]? = some u → w.cell? (a.add j) = some u) := hL.cells
    clear hL hnil
    go_enter Tryd.func9, Tryd.ntmps9
    go_wp2_with (at_builtin; refine app_row rfl _ _ rfl w.heap.size (.slice none 0 0) [] l rfl (rp_nil _ _) a l.length cap rfl rfl HN.out (by simp only [List.length_nil]; omega) (Nat.le_refl _) ?_)
    intro v1 w1 hr1 hb1
    have hr1' : Rp w.heap.size w1 v1 l := hr1
    obtain ⟨p, cp, rfl, _, _⟩ := hr1'.shape
    have H1 : Hid (Rp w.heap.size w1 (.slice p l.length cp) l ∧ Below w.heap.size w w1) := ⟨hr1, hb1⟩
    clear hr1 hb1
    go_wp2_with (at_builtin; refine app_row rfl _ _ rfl w.heap.size (.slice p l.length cp) l [m99] rfl (H1.out.1.below ((Below.refl _ _).alloc (Nat.le_refl _) _)) ⟨w1.heap.size, 0, none⟩ 1 1 rfl rfl (fun j u hu => World.news_of_block (heap_new _ _) j u (by simpa [dcs, flat, Dc.cs, m99, bE] using hu)) (by simp only [List.length_cons, List.length_nil]; omega) (by rw [World.size_alloc]; exact Nat.le_succ_of_le H1.out.2.size) ?_)
    intro v2 w2 hr2 hb2
    obtain ⟨g, c, rfl, hc1, hc2⟩ := rp_some hr2
    have H2 : Hid (DSt w w2 g c l) := ⟨(H1.out.2.alloc H1.out.2.size _).trans hb2, hr2⟩
    clear hr2 hb2
    have q1 : (l.length : Int) ≤ c := by omega
    go_wp2_with fail
    go_ret
    exact ⟨g, c, rfl, hc1, hc2, H2.out⟩

set_option maxHeartbeats 1000000 in
theorem kept_any (w0 : World) (g c : Nat) (ao : Option Addr) (l : List Dc) (cap : Nat) (w : World) (hS : DSt w0 w g c l) (hL : Lay w ao l) (ht : ∀ d ∈ l, d.t.size ≤ 9223372036854775807) (hc1 : l.length + 1 ≤ c) (hc2 : c ≤ 9223372036854775807) :
    Calls Tryd.prog 14 #[.slice (some ⟨g, 0, none⟩) l.length c, .slice ao l.length cap] w fun e w' => e = .returned (.bool true) ∧ Below w.heap.size w w' := by
  have HSm : Hid (Calls Tryd.prog 17 #[.slice (some ⟨g, 0, none⟩) l.length c, .slice ao l.length cap] w fun e w' => e = .returned (.bool true) ∧ Below w.heap.size w w') := by
    have h := same_any (some ⟨g, 0, none⟩) ao l l c cap w (hS.lay ht) hL (by omega) (by omega)
    rw [decide_eq_true rfl] at h
    exact h
  have HM : Hid (∀ w', Below w.heap.size w w' → w'.cell? ⟨g, l.length * 5, none⟩ = some (.int .u8 99)) := fun w' hb => (hS.below hb).mark ht
  have q1 : (l.length : Int) + 1 ≤ c := by omega
  have q2 : (0 : Int) ≤ (l.length : Int) + 1 := by omega
  have q3 : (l.length : Int) < (l.length : Int) + 1 := by omega
  have q4 : (0 : Int) ≤ l.length := by omega
  clear hS hL ht
  generalize l.length = n at *
  go_enter Tryd.func14, Tryd.ntmps14
  go_wp2_with (go_at_call 17; refine HSm.out.mono ?_; rintro e w1 ⟨rfl, hb1⟩; have c0 := HM.out _ hb1)
  go_ret
  exact ⟨rfl, hb1⟩

set_option maxHeartbeats 2000000 in
set_option maxRecDepth 100000 in
theorem checks_any (ao : Option Addr) (l : List Dc) (cap : Nat) (w : World) (hL : Lay w ao l) (hnil : ao = none → l.length = 0) (h48 : l.length * 48 ≤ 140737488351232) (hG : Gl w) :
    Calls Tryd.prog 4 #[.slice ao l.length cap] w fun e w' => e = .returned (.bool true) ∧ Below w.heap.size w w' := by
  have hn : l.length ≤ 9223372036854775807 := by omega
  have ht : ∀ d ∈ l, d.t.size ≤ 9223372036854775807 := fun d hd => by
    obtain ⟨j, hj⟩ := List.mem_iff_getElem?.1 hd
    exact (hL j d hj).1
  have HG : Hid (GlB w.heap.size w) := hG.glB
  have HA : Hid (∀ W, Below w.heap.size w W → Calls Tryd.prog 8 #[] W fun e w' => e = .returned (.bool true) ∧ Below W.heap.size W w') := fun W hW => awake_any W (HG.out W hW)
  have HLe : Hid (Calls Tryd.prog 9 #[.slice ao l.length cap] w fun e w' => ∃ g c, e = .returned (.slice (some ⟨g, 0, none⟩) l.length c) ∧ l.length + 1 ≤ c ∧ c ≤ 9223372036854775807 ∧ DSt w w' g c l) := lent_any ao l cap w hL hnil h48
  obtain ⟨k1, hk1⟩ : ∃ k, (chk l).1 = k := ⟨_, rfl⟩
  obtain ⟨k2, hk2⟩ : ∃ k, (chk l).2 = k := ⟨_, rfl⟩
  obtain ⟨S, hS⟩ : ∃ s : ByteArray, (⟨(prn l).1.toArray⟩ : ByteArray) = s := ⟨_, rfl⟩
  obtain ⟨k3, hk3⟩ : ∃ k, (prn l).2 = k := ⟨_, rfl⟩
  have HC : Hid (∀ W g c, DSt w W g c l → Calls Tryd.prog 10 #[.slice (some ⟨g, 0, none⟩) l.length c] W fun e w' => e = .returned (.tuple #[.int .i64 k1, .int .i64 k2]) ∧ Below W.heap.size W w') := fun W g c h => by
    have h := check_any _ l c W (h.lay ht) hn
    rw [hk1, hk2] at h
    exact h
  have HC' : Hid (∀ W, Below w.heap.size w W → Calls Tryd.prog 11 #[.slice ao l.length cap] W fun e w' => e = .returned (.tuple #[.int .i64 k1, .int .i64 k2]) ∧ Below W.heap.size W w') := fun W hW => by
    have h := rcheck_any ao l cap W (hL.below hW) hn
    rw [hk1, hk2] at h
    exact h
  have HP : Hid (∀ W g c, DSt w W g c l → Calls Tryd.prog 12 #[.slice (some ⟨g, 0, none⟩) l.length c] W fun e w' => e = .returned (.tuple #[.string S, .int .i64 k3]) ∧ Below W.heap.size W w') := fun W g c h => by
    have h := print_any _ l c W (h.lay ht) hn (HG.out W h.bel)
    rw [hS, hk3] at h
    exact h
  have HP' : Hid (∀ W, Below w.heap.size w W → Calls Tryd.prog 13 #[.slice ao l.length cap] W fun e w' => e = .returned (.tuple #[.string S, .int .i64 k3]) ∧ Below W.heap.size W w') := fun W hW => by
    have h := rprint_any ao l cap W (hL.below hW) hn
    rw [hS, hk3] at h
    exact h
  have HK : Hid (∀ W g c, l.length + 1 ≤ c → c ≤ 9223372036854775807 → DSt w W g c l → Calls Tryd.prog 14 #[.slice (some ⟨g, 0, none⟩) l.length c, .slice ao l.length cap] W fun e w' => e = .returned (.bool true) ∧ Below W.heap.size W w') := fun W g c h1 h2 h =>
    kept_any w g c ao l cap W h (hL.below h.bel) ht h1 h2
  clear hL hnil h48 hG ht hk1 hk2 hS hk3
  go_enter Tryd.func4, Tryd.ntmps4
  go_wp2_with (first | (go_at_call 9; refine HLe.out.mono ?_; rintro e w1 ⟨g, c, rfl, hc1, hc2, hd1⟩; have H1 : Hid (DSt w w1 g c l) := hd1; clear hd1) | (go_at_call 10; refine (HC.out _ _ _ H1.out).mono ?_; rintro e w2 ⟨rfl, hb2⟩; have H2 : Hid (DSt w w2 g c l) := H1.out.below hb2; clear hb2) | (go_at_call 11; refine (HC'.out _ H2.out.bel).mono ?_; rintro e w3 ⟨rfl, hb3⟩; have H3 : Hid (DSt w w3 g c l) := H2.out.below hb3; clear hb3) | (go_at_call 12; have hg := H5; clear hg; refine (HP.out _ _ _ H5.out).mono ?_; rintro e w6 ⟨rfl, hb6⟩; have H6 : Hid (DSt w w6 g c l) := H5.out.below hb6; clear hb6) | (go_at_call 12; refine (HP.out _ _ _ H3.out).mono ?_; rintro e w4 ⟨rfl, hb4⟩; have H4 : Hid (DSt w w4 g c l) := H3.out.below hb4; clear hb4) | (go_at_call 13; refine (HP'.out _ H4.out.bel).mono ?_; rintro e w5 ⟨rfl, hb5⟩; have H5 : Hid (DSt w w5 g c l) := H4.out.below hb5; clear hb5) | (go_at_call 8; refine (HA.out _ H6.out.bel).mono ?_; rintro e w7 ⟨rfl, hb7⟩; have H7 : Hid (DSt w w7 g c l) := H6.out.below hb7; clear hb7) | (go_at_call 14; refine (HK.out _ _ _ hc1 hc2 H7.out).mono ?_; rintro e w8 ⟨rfl, hb8⟩; have H8 : Hid (DSt w w8 g c l) := H7.out.below hb8; clear hb8))
  go_ret
  exact ⟨rfl, H8.out.bel⟩
end Go.Proofs.YtlpmnkiieibipaaDoor
