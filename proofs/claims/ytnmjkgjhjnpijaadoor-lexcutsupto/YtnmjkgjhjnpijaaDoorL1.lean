import Derived.Test.YtnmjkgjhjnpijaaDoorJg
import Derived.Deep.Strs
import Derived.WalkMore
set_option linter.unusedVariables false
set_option linter.unusedSimpArgs false
namespace Go.Proofs.YtnmjkgjhjnpijaaDoor
open Go.RowKit

/-! Of a name in two chunks, and a sign. -/
def abB : ByteArray := ⟨#[97, 98]⟩
def abcB : ByteArray := ⟨#[97, 98, 99, 59]⟩
theorem ab_whl : whl abB = abB := by kernel_rfl
theorem ab_scn : scn abB = ([] ++ [⟨1, 0, 2, 0⟩], 0, 0) := by kernel_rfl
theorem abc_whl : whl abcB = abcB := by kernel_rfl
theorem abc_scn : scn abcB = ([⟨1, 0, 3, 0⟩] ++ [⟨6, 3, 4, 0⟩], 0, 0) := by kernel_rfl
theorem abc_tv : ([⟨1, 0, 3, 0⟩] : List Tk).map (tv abcB) = [⟨1, ⟨#[97, 98, 99]⟩, 0, 1, 1, 0⟩] := by kernel_rfl
theorem abc_tv2 : ([⟨6, 3, 4, 0⟩] : List Tk).map (tv abcB) = [⟨6, ⟨#[59]⟩, 3, 1, 4, 0⟩] := by kernel_rfl
theorem st_last {S : ByteArray} {T : List Tk} {k b f : Nat} (h : St S T k b f) {L : List Tk} {t : Tk} (hS : scn (whl S) = (L ++ [t], 0, 0)) (ht : ¬ sureK (whl S) t) : T = L ∧ b = t.a := by
  rcases ms_fin h.told h.ms with ⟨hS', _⟩ | ⟨t', hS', h1, _⟩ | ⟨hS', _⟩
  · rw [hS] at hS'
    have e : L ++ [t] = T := congrArg Prod.fst hS'
    exact absurd (h.told.sure t (by rw [← e]; simp)) ht
  · rw [hS] at hS'
    have e : L ++ [t] = T ++ [t'] := congrArg Prod.fst hS'
    have h2 := List.append_inj' e rfl
    have h3 : t = t' := (List.cons.inj h2.2).1
    exact ⟨h2.1.symm, by rw [h3]; exact h1.symm⟩
  · rw [hS] at hS'
    have e : (0 : Nat) = 101 := congrArg (fun x => x.2.1) hS'
    cases e
theorem bl_kp {S : Nat → Prop} {w W W' : World} (h : Below w.heap.size w W) (k : Kp S W W') (hS : ∀ j, S j → w.heap.size ≤ j) : Below w.heap.size w W' :=
  h.trans ⟨k.os, k.tape, k.output, k.size, fun j hj => k.block j (Nat.lt_of_lt_of_le hj h.size) (fun hs => by have := hS j hs; omega)⟩
/-- A row, and where it lies. -/
def Rw (own : Nat → Prop) (w : World) (p : Option Addr) (l : List Tv) : Prop := Lt w p l ∧ ∀ a, p = some a → ¬ own a.block ∧ a.block < w.heap.size
theorem Rw.of {own own' : Nat → Prop} {w w' : World} {v : Value} {l : List Tv} (h : Fd own w w' own' v l) : ∃ p c, v = .slice p l.length c ∧ Rw own' w' p l := by
  obtain ⟨p, c, rfl, hL, hg, _⟩ := Lt.row h.row
  refine ⟨p, c, rfl, hL, fun a ha => ?_⟩
  rcases hg with rfl | ⟨g, rfl, h1, h2⟩
  · cases ha
  · cases ha
    exact ⟨h.ap g rfl, h2⟩
theorem Rw.kp {own : Nat → Prop} {w w' : World} {p : Option Addr} {l : List Tv} (h : Rw own w p l) (own' : Nat → Prop) {S : Nat → Prop} (hk : Kp S w w') (hS : ∀ q, S q → own q ∨ w.heap.size ≤ q) (ho : ∀ q, own' q → own q ∨ w.heap.size ≤ q) : Rw own' w' p l := by
  refine ⟨h.1.kp hk (fun a ha e => ?_), fun a ha => ⟨fun e => ?_, Nat.lt_of_lt_of_le (h.2 a ha).2 hk.size⟩⟩
  · have := h.2 a ha
    rcases hS _ e with e | e
    · exact this.1 e
    · omega
  · have := h.2 a ha
    rcases ho _ e with e | e
    · exact this.1 e
    · omega
/-- What stands of the lexer's world. -/
structure Fk (own : Nat → Prop) (W w' : World) (own' : Nat → Prop) : Prop where
  sub : ∀ q, own' q → own q ∨ W.heap.size ≤ q
  lt : ∀ q, own' q → q < w'.heap.size
  kp : Kp (Onw own W.heap.size) W w'
theorem aw_feed1 {own : Nat → Prop} {W : World} {g k b f : Nat} (h : LZ own W g ByteArray.empty [] k b f) (hown : ∀ q, own q → q < W.heap.size) (hK : ∀ V, Kp (Onw own W.heap.size) W V → Kab V) :
    Calls Tryd.prog 7 #[.pointer (some ⟨g, 0, none⟩), .string ⟨#[97, 98]⟩] W fun e w' => ∃ p c own', e = .returned (.tuple #[.slice p 0 c, .int .i64 0, .agg #[.int .i64 0, .int .i64 0, .int .i64 0]]) ∧ (∃ k f, LZ own' w' g abB [] k 0 f) ∧ Fk own W w' own' := by
  refine (lfeed_live h hown hK abB (by decide)).mono ?_
  rintro e w' ⟨v, E, A, L, C, rfl, new, own', hf, hz⟩
  have e1 : ByteArray.empty ++ abB = abB := by kernel_rfl
  rw [e1] at hf hz
  obtain ⟨p, c, rfl, hr⟩ := Rw.of hf
  rcases hz with ⟨rfl, rfl, rfl, rfl, k', b', f', hl⟩ | ⟨hE, a, _, _, _, hS, _⟩
  · obtain ⟨h1, h2⟩ := st_last hl.2.1 (by rw [ab_whl]; exact ab_scn) (by rw [ab_whl]; unfold sureK; simp [abB, ByteArray.size])
    have h1' : new = [] := h1
    subst h1'
    have h2' : b' = 0 := h2
    subst h2'
    exact ⟨p, c, own', rfl, ⟨k', f', hl⟩, hf.sub, hf.lt, hf.kp⟩
  · rw [ab_whl, ab_scn] at hS
    exact absurd (congrArg (fun x => x.2.1) hS).symm hE
theorem aw_held {own : Nat → Prop} {W : World} {g k f : Nat} {T : List Tk} (h : LZ own W g abB T k 0 f) :
    Calls Tryd.prog 8 #[.pointer (some ⟨g, 0, none⟩)] W fun e w' => e = .returned (.int .i64 2) ∧ Below W.heap.size W w' := by
  obtain ⟨z1, z2, vt, vo, z3, z4, z5, z6⟩ := h
  obtain ⟨pt, ct, et, _⟩ := z4.shape
  obtain ⟨po, co, eo⟩ := z5.shape
  have e1 : ((whl abB).extract 0 (whl abB).size).size = 2 := by kernel_rfl
  have e2 : (opE abB).size = 0 := by kernel_rfl
  have h9 := lheld_any z3 pt po _ _ ct co et eo (by omega) (by omega)
  rw [e1, e2] at h9
  exact h9
theorem aw_feed2 {own : Nat → Prop} {W : World} {g k b f : Nat} (h : LZ own W g abB [] k b f) (hown : ∀ q, own q → q < W.heap.size) (hK : ∀ V, Kp (Onw own W.heap.size) W V → Kab V) :
    Calls Tryd.prog 7 #[.pointer (some ⟨g, 0, none⟩), .string ⟨#[99, 59]⟩] W fun e w' => ∃ p c own', e = .returned (.tuple #[.slice p 1 c, .int .i64 0, .agg #[.int .i64 0, .int .i64 0, .int .i64 0]]) ∧ Rw own' w' p [⟨1, ⟨#[97, 98, 99]⟩, 0, 1, 1, 0⟩] ∧ (∃ k b f, LZ own' w' g abcB [⟨1, 0, 3, 0⟩] k b f) ∧ Fk own W w' own' := by
  refine (lfeed_live h hown hK ⟨#[99, 59]⟩ (by decide)).mono ?_
  rintro e w' ⟨v, E, A, L, C, rfl, new, own', hf, hz⟩
  have e1 : abB ++ ⟨#[99, 59]⟩ = abcB := by kernel_rfl
  rw [e1, abc_whl] at hf
  rw [e1] at hz
  rcases hz with ⟨rfl, rfl, rfl, rfl, k', b', f', hl⟩ | ⟨hE, a, _, _, _, hS, _⟩
  · obtain ⟨h1, h2⟩ := st_last hl.2.1 (by rw [abc_whl]; exact abc_scn) (by rw [abc_whl]; unfold sureK; simp [abcB, ByteArray.size])
    have h1' : new = [⟨1, 0, 3, 0⟩] := h1
    subst h1'
    rw [abc_tv] at hf
    obtain ⟨p, c, rfl, hr⟩ := Rw.of hf
    exact ⟨p, c, own', rfl, hr, ⟨k', b', f', hl⟩, hf.sub, hf.lt, hf.kp⟩
  · rw [abc_whl, abc_scn] at hS
    exact absurd (congrArg (fun x => x.2.1) hS).symm hE
theorem aw_close {own : Nat → Prop} {W : World} {g k b f : Nat} (h : LZ own W g abcB [⟨1, 0, 3, 0⟩] k b f) (hown : ∀ q, own q → q < W.heap.size) (hK : ∀ V, Kp (Onw own W.heap.size) W V → Kab V) :
    Calls Tryd.prog 9 #[.pointer (some ⟨g, 0, none⟩)] W fun e w' => ∃ p c, e = .returned (.tuple #[.slice p 1 c, .int .i64 0, .agg #[.int .i64 0, .int .i64 0, .int .i64 0]]) ∧ Rw (fun q => q = g) w' p [⟨6, ⟨#[59]⟩, 3, 1, 4, 0⟩] ∧ LxC w' g ∧ Fk own W w' (fun q => q = g) := by
  refine (lclose_live h hown hK (by decide)).mono ?_
  rintro e w' ⟨v, E, A, L, C, rfl, new, a, hf, hc, hS, hz⟩
  rw [abc_scn] at hS
  have h1 : ([⟨1, 0, 3, 0⟩] : List Tk) ++ [⟨6, 3, 4, 0⟩] = [⟨1, 0, 3, 0⟩] ++ new := congrArg Prod.fst hS
  have h2 : new = [⟨6, 3, 4, 0⟩] := (List.append_cancel_left h1).symm
  have h3 : E = 0 := (congrArg (fun x => x.2.1) hS).symm
  subst h2
  subst h3
  rw [abc_tv2] at hf
  obtain ⟨p, c, rfl, hr⟩ := Rw.of hf
  rcases hz with ⟨_, rfl, rfl, rfl⟩ | ⟨h, _⟩
  · exact ⟨p, c, rfl, hr, hc, hf.sub, hf.lt, hf.kp⟩
  · exact absurd rfl h

/-- The lexer's world, over the first. -/
def Aw (w : World) (own : Nat → Prop) (W : World) : Prop := Below w.heap.size w W ∧ ∀ q, own q → w.heap.size ≤ q ∧ q < W.heap.size
theorem Aw.lt {w W : World} {own : Nat → Prop} (h : Aw w own W) : ∀ q, own q → q < W.heap.size := fun q hq => (h.2 q hq).2
theorem Aw.K {w W : World} {own : Nat → Prop} (h : Aw w own W) (hT : Kab w) : ∀ V, Kp (Onw own W.heap.size) W V → Kab V := fun V hV => hT.below (bl_kp h.1 hV (fun j e => by
  rcases e with e | e
  · exact (h.2 j e).1
  · have := h.1.size; omega))
theorem Aw.step {w W W' : World} {own own' : Nat → Prop} (h : Aw w own W) (hf : Fk own W W' own') : Aw w own' W' := ⟨bl_kp h.1 hf.kp (fun j e => by
  rcases e with e | e
  · exact (h.2 j e).1
  · have := h.1.size; omega), fun q hq => ⟨by
    rcases hf.sub q hq with e | e
    · exact (h.2 q e).1
    · have := h.1.size; omega, hf.lt q hq⟩⟩
theorem Aw.below {w W W' : World} {own : Nat → Prop} (h : Aw w own W) (hb : Below W.heap.size W W') : Aw w own W' := ⟨h.1.trans (hb.mono h.1.size), fun q hq => ⟨(h.2 q hq).1, Nat.lt_of_lt_of_le (h.2 q hq).2 hb.size⟩⟩
theorem Aw.kp {w W W' : World} {own S : Nat → Prop} (h : Aw w own W) (hk : Kp S W W') (hS : ∀ q, S q → own q) : Aw w own W' := ⟨bl_kp h.1 hk (fun j e => (h.2 j (hS j e)).1), fun q hq => ⟨(h.2 q hq).1, Nat.lt_of_lt_of_le (h.2 q hq).2 hk.size⟩⟩
theorem LZ.below {own : Nat → Prop} {W W' : World} {g : Nat} {S : ByteArray} {T : List Tk} {k b f : Nat} (h : LZ own W g S T k b f) (hb : Below W.heap.size W W') : LZ own W' g S T k b f := h.kp (Kp.of_below (S := fun _ => False) hb) (fun _ _ h => h)
theorem Rw.below {own : Nat → Prop} {w w' : World} {p : Option Addr} {l : List Tv} (h : Rw own w p l) (hb : Below w.heap.size w w') : Rw own w' p l := h.kp own (Kp.of_below (S := fun _ => False) hb) (fun _ h => h.elim) (fun _ h => .inl h)
/-- The text of the first of a row. -/
theorem Rw.text {own : Nat → Prop} {w : World} {p : Option Addr} {d : Tv} (h : Rw own w p [d]) : ∃ a o, p = some ⟨a, o, none⟩ ∧ w.cell? ⟨a, o + 1, none⟩ = some (.string d.t) := by
  obtain ⟨a, o, rfl, h1⟩ := h.1 0 d rfl
  exact ⟨a, o, rfl, by simpa using h1.2.1⟩

set_option maxRecDepth 100000 in
set_option maxHeartbeats 400000 in
theorem awake_any (w : World) (hT : Kab w) : Calls Tryd.prog 4 #[] w fun e w' => e = .returned (.bool true) ∧ Below w.heap.size w w' := by
  have HT : Hid (Kab w) := hT
  clear hT
  go_enter Tryd.func4, Tryd.ntmps4
  go_wp2_with (first | (go_at_call 6; refine (lnew_any _).mono ?_; rintro e w1 ⟨g, rfl, hg, hg1, hb1, hz1⟩))
  have a1 : Aw w (fun q => q = g) w1 := ⟨hb1, fun q e => by have e' : q = g := e; omega⟩
  refine (aw_feed1 hz1 a1.lt (a1.K HT.out)).mono ?_
  rintro e w2 ⟨p2, c2, own2, rfl, ⟨k2, f2, hz2⟩, hf2⟩
  have a2 := a1.step hf2
  have hbV2 : Below w2.heap.size w2 (w2.alloc (.cells #[.int .i64 0, .int .i64 0, .int .i64 0] 30)) := (Below.refl _ _).alloc (Nat.le_refl _) _
  have H2 : Hid (Aw w own2 (w2.alloc (.cells #[.int .i64 0, .int .i64 0, .int .i64 0] 30)) ∧ LZ own2 (w2.alloc (.cells #[.int .i64 0, .int .i64 0, .int .i64 0] 30)) g abB [] k2 0 f2) := ⟨a2.below hbV2, hz2.below hbV2⟩
  clear hz1 hz2 hf2 a1 a2 hb1 hbV2
  go_wp2_with fail
  refine (aw_held H2.out.2).mono ?_
  rintro e w3 ⟨rfl, hb3⟩
  have H3 : Hid (Aw w own2 w3 ∧ LZ own2 w3 g abB [] k2 0 f2) := ⟨H2.out.1.below hb3, H2.out.2.below hb3⟩
  clear hb3 H2
  go_wp2_with fail
  refine (aw_feed2 H3.out.2 H3.out.1.lt (H3.out.1.K HT.out)).mono ?_
  rintro e w4 ⟨p4, c4, own4, rfl, hr4, ⟨k4, b4, f4, hz4⟩, hf4⟩
  have hbV4 : Below w4.heap.size w4 (w4.alloc (.cells #[.int .i64 0, .int .i64 0, .int .i64 0] 30)) := (Below.refl _ _).alloc (Nat.le_refl _) _
  have H4 : Hid (Aw w own4 (w4.alloc (.cells #[.int .i64 0, .int .i64 0, .int .i64 0] 30)) ∧ LZ own4 (w4.alloc (.cells #[.int .i64 0, .int .i64 0, .int .i64 0] 30)) g abcB [⟨1, 0, 3, 0⟩] k4 b4 f4 ∧ Rw own4 (w4.alloc (.cells #[.int .i64 0, .int .i64 0, .int .i64 0] 30)) p4 [⟨1, ⟨#[97, 98, 99]⟩, 0, 1, 1, 0⟩]) := ⟨(H3.out.1.step hf4).below hbV4, hz4.below hbV4, hr4.below hbV4⟩
  clear hz4 hf4 hr4 hbV4 H3
  go_wp2_with fail
  refine (aw_close H4.out.2.1 H4.out.1.lt (H4.out.1.K HT.out)).mono ?_
  rintro e w5 ⟨p5, c5, rfl, hr5, hc5, hf5⟩
  have hbV5 : Below w5.heap.size w5 (w5.alloc (.cells #[.int .i64 0, .int .i64 0, .int .i64 0] 30)) := (Below.refl _ _).alloc (Nat.le_refl _) _
  have H5 : Hid (Aw w (fun q => q = g) (w5.alloc (.cells #[.int .i64 0, .int .i64 0, .int .i64 0] 30)) ∧ LxC (w5.alloc (.cells #[.int .i64 0, .int .i64 0, .int .i64 0] 30)) g ∧ Rw (fun q => q = g) (w5.alloc (.cells #[.int .i64 0, .int .i64 0, .int .i64 0] 30)) p4 [⟨1, ⟨#[97, 98, 99]⟩, 0, 1, 1, 0⟩] ∧ Rw (fun q => q = g) (w5.alloc (.cells #[.int .i64 0, .int .i64 0, .int .i64 0] 30)) p5 [⟨6, ⟨#[59]⟩, 3, 1, 4, 0⟩]) := ⟨(H4.out.1.step hf5).below hbV5, blk_below hc5 hbV5, (H4.out.2.2.kp _ hf5.kp (fun q h => h) (fun q h => hf5.sub q h)).below hbV5, hr5.below hbV5⟩
  clear hr5 hc5 hf5 hbV5 H4
  go_wp2_with fail
  refine (lclose_done H5.out.2.1).mono ?_
  rintro e w6 ⟨rfl, hc6, hk6⟩
  have hbV6 : Below w6.heap.size w6 (w6.alloc (.cells #[.int .i64 0, .int .i64 0, .int .i64 0] 30)) := (Below.refl _ _).alloc (Nat.le_refl _) _
  have H6 : Hid (Aw w (fun q => q = g) (w6.alloc (.cells #[.int .i64 0, .int .i64 0, .int .i64 0] 30)) ∧ Rw (fun q => q = g) (w6.alloc (.cells #[.int .i64 0, .int .i64 0, .int .i64 0] 30)) p4 [⟨1, ⟨#[97, 98, 99]⟩, 0, 1, 1, 0⟩] ∧ Rw (fun q => q = g) (w6.alloc (.cells #[.int .i64 0, .int .i64 0, .int .i64 0] 30)) p5 [⟨6, ⟨#[59]⟩, 3, 1, 4, 0⟩]) := ⟨(H5.out.1.kp hk6 (fun q h => h)).below hbV6, (H5.out.2.2.1.kp _ hk6 (fun q h => .inl h) (fun q h => .inl h)).below hbV6, (H5.out.2.2.2.kp _ hk6 (fun q h => .inl h) (fun q h => .inl h)).below hbV6⟩
  clear hc6 hk6 hbV6 H5
  go_wp2_with fail
  refine (lfeed_nil (w6.alloc (.cells #[.int .i64 0, .int .i64 0, .int .i64 0] 30)) _).mono ?_
  rintro e w7 ⟨rfl, hb7⟩
  have hbV7 : Below w7.heap.size w7 (w7.alloc (.cells #[.int .i64 0, .int .i64 0, .int .i64 0] 30)) := (Below.refl _ _).alloc (Nat.le_refl _) _
  have H7 : Hid (Aw w (fun q => q = g) (w7.alloc (.cells #[.int .i64 0, .int .i64 0, .int .i64 0] 30)) ∧ Rw (fun q => q = g) (w7.alloc (.cells #[.int .i64 0, .int .i64 0, .int .i64 0] 30)) p4 [⟨1, ⟨#[97, 98, 99]⟩, 0, 1, 1, 0⟩] ∧ Rw (fun q => q = g) (w7.alloc (.cells #[.int .i64 0, .int .i64 0, .int .i64 0] 30)) p5 [⟨6, ⟨#[59]⟩, 3, 1, 4, 0⟩]) := ⟨(H6.out.1.below hb7).below hbV7, (H6.out.2.1.below hb7).below hbV7, (H6.out.2.2.below hb7).below hbV7⟩
  clear hb7 hbV7 H6
  go_wp2_with fail
  refine (lclose_nil (w7.alloc (.cells #[.int .i64 0, .int .i64 0, .int .i64 0] 30))).mono ?_
  rintro e w8 ⟨rfl, hb8⟩
  have hbV8 : Below w8.heap.size w8 (w8.alloc (.cells #[.int .i64 0, .int .i64 0, .int .i64 0] 30)) := (Below.refl _ _).alloc (Nat.le_refl _) _
  have H8 : Hid (Aw w (fun q => q = g) (w8.alloc (.cells #[.int .i64 0, .int .i64 0, .int .i64 0] 30)) ∧ Rw (fun q => q = g) (w8.alloc (.cells #[.int .i64 0, .int .i64 0, .int .i64 0] 30)) p4 [⟨1, ⟨#[97, 98, 99]⟩, 0, 1, 1, 0⟩] ∧ Rw (fun q => q = g) (w8.alloc (.cells #[.int .i64 0, .int .i64 0, .int .i64 0] 30)) p5 [⟨6, ⟨#[59]⟩, 3, 1, 4, 0⟩]) := ⟨(H7.out.1.below hb8).below hbV8, (H7.out.2.1.below hb8).below hbV8, (H7.out.2.2.below hb8).below hbV8⟩
  obtain ⟨a4, o4, rfl, t4⟩ := H8.out.2.1.text
  obtain ⟨a5, o5, rfl, t5⟩ := H8.out.2.2.text
  clear hb8 hbV8 H7
  go_wp2_with (first | (go_at_call 8; refine (lheld_nil _).mono ?_; rintro e w9 ⟨rfl, hb9⟩))
  go_ret
  exact ⟨rfl, H8.out.1.1⟩

end Go.Proofs.YtnmjkgjhjnpijaaDoor

set_option linter.unusedVariables false
set_option linter.unusedSimpArgs false
namespace Go.Proofs.YtnmjkgjhjnpijaaDoor
open Go.RowKit

/-! Rows of strings. -/
def bsz : List ByteArray → Nat
  | [] => 0
  | x :: l => x.size + bsz l
theorem bsz_take {l : List ByteArray} : ∀ {k : Nat} {s : ByteArray}, l[k]? = some s → bsz (l.take (k + 1)) = bsz (l.take k) + s.size := by
  induction l with
  | nil => intro k s h; simp at h
  | cons a l ih =>
    intro k s h
    cases k with
    | zero => simp at h; subst h; simp [bsz]
    | succ k =>
      simp at h
      have := ih h
      simp only [List.take_succ_cons, bsz]
      omega
theorem bsz_le (l : List ByteArray) : ∀ k, bsz (l.take k) ≤ bsz l := by
  induction l with
  | nil => intro k; simp [bsz]
  | cons a l ih =>
    intro k
    cases k with
    | zero => simp [bsz]
    | succ k => simp only [List.take_succ_cons, bsz]; have := ih k; omega
theorem bsz_mem {l : List ByteArray} {k : Nat} {s : ByteArray} (h : l[k]? = some s) : bsz (l.take k) + s.size ≤ bsz l := by
  have := bsz_take h
  have := bsz_le l (k + 1)
  omega
/-- The strings that a slice holds. -/
def Ss (w : World) (ao : Option Addr) (l : List ByteArray) : Prop := ∀ j s, l[j]? = some s → ∃ b off, ao = some ⟨b, off, none⟩ ∧ w.cell? ⟨b, off + j, none⟩ = some (.string s)
theorem Ss.below {w w' : World} {ao : Option Addr} {l : List ByteArray} (h : Ss w ao l) (hb : Below w.heap.size w w') : Ss w' ao l := by
  intro j s hj
  obtain ⟨b, off, e, h1⟩ := h j s hj
  exact ⟨b, off, e, by rw [hb.cell (World.block_lt_of_cell? _ _ h1)]; exact h1⟩
theorem choose_list {P : Nat → ByteArray → Prop} : ∀ n, (∀ j, j < n → ∃ s, P j s) → ∃ l : List ByteArray, l.length = n ∧ ∀ j s, l[j]? = some s → P j s := by
  intro n
  induction n with
  | zero => intro _; exact ⟨[], rfl, fun j s h => by simp at h⟩
  | succ n ih =>
    intro h
    obtain ⟨l, hl, hp⟩ := ih (fun j hj => h j (by omega))
    obtain ⟨s, hs⟩ := h n (by omega)
    refine ⟨l ++ [s], by simp [hl], fun j t ht => ?_⟩
    by_cases hj : j < l.length
    · rw [List.getElem?_append_left hj] at ht; exact hp j t ht
    · rw [List.getElem?_append_right (by omega)] at ht
      have : j - l.length = 0 := by
        have := (List.getElem?_eq_some_iff.1 ht).1
        simp at this; omega
      rw [this] at ht
      simp at ht
      rw [← ht, show j = n by omega]; exact hs
theorem bulk_strs {H : Type} (l : List ByteArray) (Sx : Nat → ByteArray) (h : ∀ j s, l[j]? = some s → Sx j = s) : bsz l + l.length ≤ Rows.uptoBulkAll ((List.range l.length).map fun i => (DataW.lit (.string (Sx i).data.toList) : DataW H)) := by
  induction l generalizing Sx with
  | nil => simp [bsz]
  | cons a l ih =>
    have h0 := h 0 a rfl
    have := ih (fun i => Sx (i + 1)) (fun j s hj => h (j + 1) s (by simpa using hj))
    simp only [List.length_cons, List.range_succ_eq_map, List.map_cons, List.map_map, Rows.uptoBulkAll, Rows.uptoBulk, bsz]
    have e : (Sx 0).data.toList.length = a.size := by rw [h0]; exact Array.length_toList
    have e2 : ((fun i => (DataW.lit (.string (Sx i).data.toList) : DataW H)) ∘ Nat.succ) = fun i => (DataW.lit (.string (Sx (i + 1)).data.toList) : DataW H) := rfl
    rw [e2]
    omega
set_option maxRecDepth 100000 in
theorem strs_of {H : Type} {enc : TypeId × Value → H} {W : World} {spare : Nat → Bool} {held : Bool} {fuel n cap : Nat} {ao : Option Addr} {x : DataW H × List MemPlace}
    (h : DataW.trod enc Tryd.prog W 0 spare held fuel 22 (Value.slice ao n cap).cells.toList = some x) : ∃ l : List ByteArray, l.length = n ∧ Ss W ao l ∧ bsz l + l.length + 1 ≤ Rows.uptoBulk x.1 := by
  have hce : Tryd.prog.cellsOf 9 = 1 := by kernel_rfl
  rcases Go.Deep.open_strs Tryd.underlying22 Tryd.underlying9 hce h with ⟨hcs, hx⟩ | ⟨a, len, cap', m, Sx, hcs, _, hl, hmx, hm, hxe, hx⟩
  · simp [Value.cells] at hcs
    obtain ⟨rfl, rfl, rfl⟩ := hcs
    exact ⟨[], rfl, (fun j a h => by simp at h), by rw [hx]; simp [bsz, Rows.uptoBulk]⟩
  · simp [Value.cells] at hcs
    obtain ⟨rfl, rfl, rfl⟩ := hcs
    have hnm : n ≤ m := by rw [hm]; split <;> omega
    obtain ⟨l, hal, hap⟩ := choose_list (P := fun j s => Sx j = s) n (fun j _ => ⟨_, rfl⟩)
    refine ⟨l, hal, ?_, ?_⟩
    · intro j y hy
      have hjl := (List.getElem?_eq_some_iff.1 hy).1
      have e0 := (hx j (by omega)).1
      have f0 := (hx 0 (by omega)).1
      have hsp : a.spot = none := by simpa [Addr.add] using World.cell?_spot f0
      obtain ⟨b, off, sp⟩ := a
      simp only at hsp
      subst hsp
      have ea : (⟨b, off, none⟩ : Addr).add j = ⟨b, off + j, none⟩ := by
        by_cases hj : j = 0 <;> simp [Addr.add, hj]
      exact ⟨b, off, rfl, by rw [← hap j y hy, ← ea]; exact e0⟩
    · rw [hxe]
      show _ ≤ Rows.uptoBulkAll _ + _ + 1
      have := bulk_strs (H := H) l Sx hap
      rw [hal] at this ⊢
      omega

set_option maxHeartbeats 400000 in
set_option maxRecDepth 100000 in
theorem size_any (ao : Option Addr) (l : List ByteArray) (c : Nat) (w : World) (hA : Ss w ao l) (hl : bsz l + l.length ≤ 1048576) :
    Calls Tryd.prog 5 #[.slice ao l.length c] w fun e w' => e = .returned (.int .i64 (16 * l.length + bsz l : Nat)) ∧ Below w.heap.size w w' := by
  have HA : Hid (Ss w ao l) := hA
  clear hA
  go_enter Tryd.func5, Tryd.ntmps5
  go_wp2_with fail
  go_loopw [3, 4] (fun n i wr => ∃ k : Nat, k ≤ l.length ∧ n = .int .i64 (16 * k + bsz (l.take k) : Nat) ∧ i = .int .i64 k ∧ Hid (Below w.heap.size w wr)) (fun _ i _ => l.length - (intOf i).toNat)
  case atStart => exact ⟨0, by omega, by simp [bsz], rfl, Below.refl _ _⟩
  case round =>
    obtain ⟨k, hk, rfl, rfl, HW⟩ := hrel
    have hbl := bsz_le l k
    have q2 : ((16 * k + bsz (l.take k) : Nat) : Int) ≤ 67108864 := by omega
    by_cases hlt : k < l.length
    · have q1 : (k : Int) < l.length := by omega
      have q3 : (0 : Int) ≤ k := by omega
      obtain ⟨s, hs⟩ : ∃ s, l[k]? = some s := ⟨_, List.getElem?_eq_getElem hlt⟩
      obtain ⟨b, off, rfl, c0⟩ := (HA.out.below HW.out) k s hs
      have hm := bsz_mem hs
      have ht := bsz_take hs
      clear hs
      generalize bsz (l.take k) = m at *
      go_wp2_with fail
      exact ⟨⟨k + 1, hlt, by rw [ht]; congr 1; omega, by go_num, HW.out⟩, by simp [intOf]; omega⟩
    · obtain rfl : k = l.length := by omega
      have q1 : ¬ ((l.length : Int) < l.length) := by omega
      rw [List.take_length]
      go_wp2_with fail
      go_ret
      exact ⟨rfl, HW.out⟩

end Go.Proofs.YtnmjkgjhjnpijaaDoor
