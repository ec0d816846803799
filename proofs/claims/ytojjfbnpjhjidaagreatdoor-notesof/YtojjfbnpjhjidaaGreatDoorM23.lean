import Derived.Test.YtojjfbnpjhjidaaGreatDoorM19
import Derived.Test.YtojjfbnpjhjidaaGreatDoorM20
import Derived.Test.YtojjfbnpjhjidaaGreatDoorM21
import Derived.Test.YtojjfbnpjhjidaaGreatDoorM22
set_option linter.unusedVariables false
set_option linter.unusedSimpArgs false
namespace Go.Proofs.YtojjfbnpjhjidaaGreatDoor.Lx
open Go.RowKit
theorem bgn_kinds (s : ByteArray) (a : Nat) : tkBgn s a = 0 ∨ tkBgn s a = 1 ∨ tkBgn s a = 3 ∨ tkBgn s a = 4 ∨ tkBgn s a = 5 ∨ tkBgn s a = 6 ∨ tkBgn s a = 7 ∨ tkBgn s a = 8 := by
  unfold tkBgn
  repeat' split
  all_goals simp
theorem bgn_not {s : ByteArray} {a k : Nat} (h : tkBgn s a = k) : (k ≠ 1 → (gd s a && lt' (dp s a)) = false) ∧ (k ≠ 1 → k ≠ 3 → tkDg (by8 s a) = false) ∧ (k ≠ 1 → k ≠ 3 → k ≠ 4 → by8 s a ≠ 34) ∧ (k ≠ 1 → k ≠ 3 → k ≠ 4 → k ≠ 5 → by8 s a ≠ 39) ∧
    (k ≠ 1 → k ≠ 3 → k ≠ 4 → k ≠ 5 → k ≠ 7 → ¬ (by8 s a = 47 ∧ a + 1 < s.size ∧ by8 s (a + 1) = 47)) ∧ (k ≠ 1 → k ≠ 3 → k ≠ 4 → k ≠ 5 → k ≠ 7 → k ≠ 8 → by8 s a ≠ 123) ∧ (k ≠ 1 → k ≠ 3 → k ≠ 4 → k ≠ 5 → k ≠ 7 → k ≠ 8 → k ≠ 6 → (sg s a).size = 0) := by
  unfold tkBgn at h
  by_cases c1 : (gd s a && lt' (dp s a)) = true
  · grind
  · rw [if_neg c1] at h
    have e1 : (gd s a && lt' (dp s a)) = false := by simpa using c1
    by_cases c2 : tkDg (by8 s a) = true
    · grind
    · grind
theorem pre_two {s : ByteArray} {a : Nat} : pre s a ⟨#[47, 47]⟩ = decide (by8 s a = 47 ∧ a + 1 < s.size ∧ by8 s (a + 1) = 47) := by
  unfold pre
  rw [decide_eq_decide]
  have hz : (⟨#[47, 47]⟩ : ByteArray).size = 2 := rfl
  rw [hz]
  constructor
  · rintro ⟨h1, h2⟩
    have e0 := by8_ext' s a (a + 2) 0 (by omega)
    have e1 := by8_ext' s a (a + 2) 1 (by omega)
    rw [h2] at e0 e1
    exact ⟨by rw [show a = a + 0 by omega, ← e0]; rfl, by omega, by rw [← e1]; rfl⟩
  · rintro ⟨h1, h2, h3⟩
    refine ⟨by omega, by8_ext _ _ (by rw [size_ext s _ _ (by omega)]; show a + 2 - a = 2; omega) (fun j hj => ?_)⟩
    rw [size_ext s _ _ (by omega)] at hj
    rw [by8_ext' s a _ j (by omega)]
    rcases (show j = 0 ∨ j = 1 by omega) with rfl | rfl
    · rw [Nat.add_zero, h1]; rfl
    · rw [h3]; rfl
theorem kp_7 {s : ByteArray} {a : Nat} (hk : tkBgn s a = 7) (d1 : a < s.size) : pre s a ⟨#[47, 47]⟩ = true := by rw [pre_two]; exact decide_eq_true (bgn7 hk)
theorem kp_6 {s : ByteArray} {a : Nat} (hk : tkBgn s a = 6) (d1 : a < s.size) : pre s a ⟨#[47, 47]⟩ = false := by rw [pre_two]; exact decide_eq_false ((bgn_not hk).2.2.2.2.1 (by decide) (by decide) (by decide) (by decide) (by decide))
theorem kp_0 {s : ByteArray} {a : Nat} (hk : tkBgn s a = 0) (d1 : a < s.size) : pre s a ⟨#[47, 47]⟩ = false := by rw [pre_two]; exact decide_eq_false ((bgn_not hk).2.2.2.2.1 (by decide) (by decide) (by decide) (by decide) (by decide))
theorem kl_1 {s : ByteArray} {a : Nat} (hk : tkBgn s a = 1) : (gd s a && lt' (dp s a)) = true := bgn1 hk
theorem kd_3 {s : ByteArray} {a : Nat} (hk : tkBgn s a = 3) : tkDg (by8 s a) = true := bgn3 hk
theorem kl_3 {s : ByteArray} {a : Nat} (hk : tkBgn s a = 3) : (gd s a && lt' (dp s a)) = false := (bgn_not hk).1 (by decide)
theorem kl_4 {s : ByteArray} {a : Nat} (hk : tkBgn s a = 4) : (gd s a && lt' (dp s a)) = false := (bgn_not hk).1 (by decide)
theorem kl_5 {s : ByteArray} {a : Nat} (hk : tkBgn s a = 5) : (gd s a && lt' (dp s a)) = false := (bgn_not hk).1 (by decide)
theorem kl_7 {s : ByteArray} {a : Nat} (hk : tkBgn s a = 7) : (gd s a && lt' (dp s a)) = false := (bgn_not hk).1 (by decide)
theorem kl_8 {s : ByteArray} {a : Nat} (hk : tkBgn s a = 8) : (gd s a && lt' (dp s a)) = false := (bgn_not hk).1 (by decide)
theorem kl_6 {s : ByteArray} {a : Nat} (hk : tkBgn s a = 6) : (gd s a && lt' (dp s a)) = false := (bgn_not hk).1 (by decide)
theorem kl_0 {s : ByteArray} {a : Nat} (hk : tkBgn s a = 0) : (gd s a && lt' (dp s a)) = false := (bgn_not hk).1 (by decide)
theorem kd_4 {s : ByteArray} {a : Nat} (hk : tkBgn s a = 4) : tkDg (by8 s a) = false := (bgn_not hk).2.1 (by decide) (by decide)
theorem kd_5 {s : ByteArray} {a : Nat} (hk : tkBgn s a = 5) : tkDg (by8 s a) = false := (bgn_not hk).2.1 (by decide) (by decide)
theorem kd_7 {s : ByteArray} {a : Nat} (hk : tkBgn s a = 7) : tkDg (by8 s a) = false := (bgn_not hk).2.1 (by decide) (by decide)
theorem kd_8 {s : ByteArray} {a : Nat} (hk : tkBgn s a = 8) : tkDg (by8 s a) = false := (bgn_not hk).2.1 (by decide) (by decide)
theorem kd_6 {s : ByteArray} {a : Nat} (hk : tkBgn s a = 6) : tkDg (by8 s a) = false := (bgn_not hk).2.1 (by decide) (by decide)
theorem kd_0 {s : ByteArray} {a : Nat} (hk : tkBgn s a = 0) : tkDg (by8 s a) = false := (bgn_not hk).2.1 (by decide) (by decide)
theorem kq_5 {s : ByteArray} {a : Nat} (hk : tkBgn s a = 5) : by8 s a ≠ 34 := (bgn_not hk).2.2.1 (by decide) (by decide) (by decide)
theorem kq_7 {s : ByteArray} {a : Nat} (hk : tkBgn s a = 7) : by8 s a ≠ 34 := (bgn_not hk).2.2.1 (by decide) (by decide) (by decide)
theorem kq_8 {s : ByteArray} {a : Nat} (hk : tkBgn s a = 8) : by8 s a ≠ 34 := (bgn_not hk).2.2.1 (by decide) (by decide) (by decide)
theorem kq_6 {s : ByteArray} {a : Nat} (hk : tkBgn s a = 6) : by8 s a ≠ 34 := (bgn_not hk).2.2.1 (by decide) (by decide) (by decide)
theorem kq_0 {s : ByteArray} {a : Nat} (hk : tkBgn s a = 0) : by8 s a ≠ 34 := (bgn_not hk).2.2.1 (by decide) (by decide) (by decide)
theorem kc_7 {s : ByteArray} {a : Nat} (hk : tkBgn s a = 7) : by8 s a ≠ 39 := (bgn_not hk).2.2.2.1 (by decide) (by decide) (by decide) (by decide)
theorem kc_8 {s : ByteArray} {a : Nat} (hk : tkBgn s a = 8) : by8 s a ≠ 39 := (bgn_not hk).2.2.2.1 (by decide) (by decide) (by decide) (by decide)
theorem kc_6 {s : ByteArray} {a : Nat} (hk : tkBgn s a = 6) : by8 s a ≠ 39 := (bgn_not hk).2.2.2.1 (by decide) (by decide) (by decide) (by decide)
theorem kc_0 {s : ByteArray} {a : Nat} (hk : tkBgn s a = 0) : by8 s a ≠ 39 := (bgn_not hk).2.2.2.1 (by decide) (by decide) (by decide) (by decide)
theorem kb_7 {s : ByteArray} {a : Nat} (hk : tkBgn s a = 7) : by8 s a ≠ 123 := by rw [(bgn7 hk).1]; decide
theorem kb_6 {s : ByteArray} {a : Nat} (hk : tkBgn s a = 6) : by8 s a ≠ 123 := (bgn_not hk).2.2.2.2.2.1 (by decide) (by decide) (by decide) (by decide) (by decide) (by decide)
theorem kb_0 {s : ByteArray} {a : Nat} (hk : tkBgn s a = 0) : by8 s a ≠ 123 := (bgn_not hk).2.2.2.2.2.1 (by decide) (by decide) (by decide) (by decide) (by decide) (by decide)
theorem kz_0 {s : ByteArray} {a : Nat} (hk : tkBgn s a = 0) : (sg s a).size = 0 := (bgn_not hk).2.2.2.2.2.2 (by decide) (by decide) (by decide) (by decide) (by decide) (by decide) (by decide)
structure JR (w0 W : World) (g : Nat) (s : ByteArray) (a b f : Nat) (l : List Tv) : Prop where
  asz : a ≤ s.size
  ba : b ≤ a
  bda : bd s a
  bdb : bd s b
  rs : Rs w0 W g s a b f l
  fa : f ≤ a
  la : l.length ≤ a
  toks : l ++ (fnd s a f).1.map (tv s) = (scn s).1.map (tv s)
  err : (fnd s a f).2 = (scn s).2
def RP (w0 w' : World) (g : Nat) (s : ByteArray) : Prop := ∃ a' b' f', Rs w0 w' g s a' b' f' ((scn s).1.map (tv s)) ∧ bd s a' ∧ bd s b' ∧ b' ≤ a' ∧ ((scn s).2.1 = 102 → a' = (scn s).2.2) ∧ ((scn s).2.1 ≠ 0 → (scn s).2.1 ≠ 102 → b' = (scn s).2.2)
theorem JR.done {w0 W : World} {g : Nat} {s : ByteArray} {a b f : Nat} {l : List Tv} (h : JR w0 W g s a b f l) (ha : s.size ≤ a) : RP w0 W g s ∧ (scn s).2.1 = 0 := by
  have e := fnd_end s a f ha
  have h1 := h.toks
  have h2 := h.err
  rw [e] at h1 h2
  rw [List.map_nil, List.append_nil] at h1
  refine ⟨⟨a, b, f, by rw [← h1]; exact h.rs, h.bda, h.bdb, h.ba, ?_, ?_⟩, by rw [← h2]⟩
  · rw [← h2]; intro h; cases h
  · rw [← h2]; intro h; exact absurd rfl h
theorem JR.feed {w0 W W' : World} {g : Nat} {s : ByteArray} {a b f : Nat} {l : List Tv} (h : JR w0 W g s a b f l) (ha : a < s.size) (h10 : by8 s a = 10) (hr : Rs w0 W' g s (a + rsz s a) b (if rpt s a = 10 then f + 1 else f) l) : JR w0 W' g s (a + 1) b (f + 1) l := by
  have e := fnd_step s a f ha
  rw [if_pos h10] at e
  have e1 : rpt s a = 10 := (is_pt s a 10 (by decide) ha).2 h10
  rw [if_pos e1, rsz_in ha, (chr_asc s a (by omega)).1] at hr
  have h1 := h.ba
  have h2 := h.fa
  have h3 := h.la
  exact ⟨ha, by omega, (bd_asc s a ha (by omega)).2, h.bdb, hr, by omega, by omega, by rw [← e]; exact h.toks, by rw [← e]; exact h.err⟩
theorem JR.blank {w0 W W' : World} {g : Nat} {s : ByteArray} {a b f : Nat} {l : List Tv} (h : JR w0 W g s a b f l) (ha : a < s.size) (h10 : by8 s a ≠ 10) (hbl : tkBl (by8 s a) = true) (hr : Rs w0 W' g s (a + rsz s a) b (if rpt s a = 10 then f + 1 else f) l) : JR w0 W' g s (a + 1) b f l := by
  have e := fnd_step s a f ha
  rw [if_neg h10, if_pos hbl] at e
  have h8 := bl_asc hbl
  have hn10 : ¬ rpt s a = 10 := fun h => h10 ((is_pt s a 10 (by decide) ha).1 h)
  rw [if_neg hn10, rsz_in ha, (chr_asc s a h8).1] at hr
  have h1 := h.ba
  have h2 := h.fa
  have h3 := h.la
  exact ⟨ha, by omega, (bd_asc s a ha h8).2, h.bdb, hr, by omega, by omega, by rw [← e]; exact h.toks, by rw [← e]; exact h.err⟩
theorem JR.tok {w0 W W' : World} {g : Nat} {s : ByteArray} {a b f : Nat} {l : List Tv} (h : JR w0 W g s a b f l) (ha : a < s.size) (h10 : by8 s a ≠ 10) (hbl : tkBl (by8 s a) = false) {k : Nat} (hk : tkBgn s a = k) (h0 : k ≠ 0) (hE : (tkEnd s a k).2 = 0) (hT : TP w0 W' g s k a f l) :
    JR w0 W' g s (tkEnd s a k).1 a 0 (l ++ [tv s (tkTok s k a (tkEnd s a k).1 f)]) ∧ a < (tkEnd s a k).1 := by
  have e := fnd_step s a f ha
  have hp := tkEnd_ok s a k (tkEnd s a k).1 ha hk h0 (Prod.ext rfl hE)
  have hbp : bd s (tkEnd s a k).1 := end_bd h.bda ha hk h0 rfl
  unfold TP at hT
  rw [if_pos hE] at hT
  rw [if_neg h10, if_neg (by rw [hbl]; decide), hk, if_neg h0, if_neg (by rw [hE]; decide)] at e
  have h3 := h.la
  refine ⟨⟨hp.2, Nat.le_of_lt hp.1, hbp, h.bda, hT, Nat.zero_le _, by rw [List.length_append]; simp; omega, ?_, ?_⟩, hp.1⟩
  · have := h.toks
    rw [e] at this
    rw [← this]
    simp
  · have := h.err
    rw [e] at this
    exact this
theorem JR.bad {w0 W W' : World} {g : Nat} {s : ByteArray} {a b f : Nat} {l : List Tv} (h : JR w0 W g s a b f l) (ha : a < s.size) (h10 : by8 s a ≠ 10) (hbl : tkBl (by8 s a) = false) {k : Nat} (hk : tkBgn s a = k) (h0 : k ≠ 0) (hE : (tkEnd s a k).2 ≠ 0) (hT : TP w0 W' g s k a f l) :
    RP w0 W' g s ∧ (scn s).2.1 = (tkEnd s a k).2 := by
  have e := fnd_step s a f ha
  unfold TP at hT
  rw [if_neg hE] at hT
  rw [if_neg h10, if_neg (by rw [hbl]; decide), hk, if_neg h0, if_pos hE] at e
  have h1 := h.toks
  have h2 := h.err
  rw [e] at h1 h2
  rw [List.map_nil, List.append_nil] at h1
  obtain ⟨a', t1, t2, t3, t4⟩ := hT
  have e1 : (scn s).2.1 = (tkEnd s a k).2 := by rw [← h2]
  have e2 : (scn s).2.2 = (tkEnd s a k).1 := by rw [← h2]
  refine ⟨⟨a', a, f, by rw [← h1]; exact t3, t1, h.bda, t2, fun h => ?_, fun _ h2 => ?_⟩, e1⟩
  · rw [e2]; exact t4 (by rw [← e1]; exact h)
  · rw [e2]
    rcases end_err (p := (tkEnd s a k).1) (e := (tkEnd s a k).2) ha rfl hE with ⟨h5, _⟩ | ⟨h5, _⟩
    · exact h5.symm
    · exact absurd (by rw [e1]; exact h5) h2
theorem JR.none {w0 W W' : World} {g : Nat} {s : ByteArray} {a b f : Nat} {l : List Tv} (h : JR w0 W g s a b f l) (ha : a < s.size) (h10 : by8 s a ≠ 10) (hbl : tkBl (by8 s a) = false) (hk : tkBgn s a = 0) (hr : Rs w0 W' g s a a f l) :
    RP w0 W' g s ∧ (scn s).2.1 = 100 := by
  have e := fnd_step s a f ha
  rw [if_neg h10, if_neg (by rw [hbl]; decide), if_pos hk] at e
  have h1 := h.toks
  have h2 := h.err
  rw [e] at h1 h2
  rw [List.map_nil, List.append_nil] at h1
  refine ⟨⟨a, a, f, by rw [← h1]; exact hr, h.bda, h.bda, Nat.le_refl _, ?_, ?_⟩, by rw [← h2]⟩
  · rw [← h2]; intro h; cases h
  · rw [← h2]; intro _ _; rfl
theorem wp_scope_from {P : Program} {a : Act} {w : World} {Q : Exit → Act → World → Prop} {r rest : Code} (l : Nat) (J : Act → World → Prop) (μ : Act → World → Nat) (hf : findLabel (r.seq ((Code.label l).seq rest)) l = some (Code.skip.seq rest))
    (first : r.wp P (Exit.then (fun a w => J a w) (fun _ _ _ => False)) a w)
    (pass : ∀ a w, J a w → rest.wp P (Exit.jump l (fun a' w' => J a' w' ∧ μ a' w' < μ a w) Q) a w) : (Code.scope (r.seq ((Code.label l).seq rest))).wp P Q a w := by
  refine wp_scope_jumps l J μ hf ?_ (fun a w h => wp_seq (wp_skip (pass a w h)))
  refine wp_seq (wp_mono first ?_)
  intro e a' w' h
  cases e with
  | normal =>
    refine wp_seq (wp_label ?_)
    refine wp_mono (pass a' w' h) ?_
    intro e2 a2 w2 h2
    cases e2 with
    | goto l' => exact ⟨h2.1, h2.2.1⟩
    | normal => exact h2
    | exit id => exact h2
    | ret => exact h2
    | panic ch => exact h2
    | outgrown => exact h2
  | goto l' => exact h.elim
  | exit id => exact h.elim
  | ret => exact h.elim
  | panic ch => exact h.elim
  | outgrown => exact h.elim
set_option maxRecDepth 100000 in
set_option maxHeartbeats 8000000 in
theorem read_any {w0 W : World} {g : Nat} {s : ByteArray} (hK : Kab w0) (h : Rs w0 W g s 0 0 0 []) (hs : s.size ≤ 2147483647) :
    Calls Tryz.prog 41 #[.pointer (some ⟨g, 0, none⟩)] W fun e w' => e = .returned (.int .i64 ((scn s).2.1 : Nat)) ∧ RP w0 w' g s := by
  have HJ0 : Hid (JR w0 W g s 0 0 0 []) := ⟨Nat.zero_le _, Nat.le_refl _, bd_zero s, bd_zero s, h, Nat.le_refl _, Nat.le_refl _, rfl, rfl⟩
  have HC : Hid (∀ V a b, ∀ {f : Nat} {l : List Tv}, Rs w0 V g s a b f l → V.cell? ⟨g, 0, none⟩ = some (.string s) ∧ V.cell? ⟨g, 1, none⟩ = some (.int .i64 a) ∧ V.cell? ⟨g, 2, none⟩ = some (.int .i32 (rpt s a))) := fun V a b f l hr => by
    obtain ⟨h1', h2', v, h3, h4⟩ := hr
    exact ⟨(Rq.cells h3).1, (Rq.cells h3).2.1, (Rq.cells h3).2.2.1⟩
  clear h
  go_enter Tryz.func41, Tryz.ntmps41
  go_wp2_with fail
  refine wp_scope_from 0 (fun a' w' => ∃ (a b f : Nat) (l : List Tv) (u1 u2 u3 u4 u5 u6 u7 u8 u9 u10 u11 u12 u13 u14 u15 u16 u17 u18 u19 u20 u21 u22 u23 u24 u25 u26 u27 u28 u29 u30 u31 u32 u33 u34 u35 u36 u37 u38 u39 u40 u41 u42 u43 u44 u45 u46 u47 u48 u49 u50 u51 u52 u53 u54 u55 u56 u57 u58 u59 u60 u61 u62 u63 u64 u65 u66 u67 u68 u69 u70 u71 u72 u73 u74 u75 u76 u77 u78 u79 u80 u81 u82 : Value), Hid (JR w0 w' g s a b f l) ∧ a' = { tmps := #[.pointer (some ⟨g, 0, none⟩), u1, u2, u3, u4, u5, u6, u7, u8, u9, u10, u11, u12, u13, u14, u15, u16, u17, u18, u19, u20, u21, u22, u23, u24, u25, u26, u27, u28, u29, u30, u31, u32, u33, u34, u35, u36, u37, u38, u39, u40, u41, u42, u43, u44, u45, u46, u47, u48, u49, u50, u51, u52, u53, u54, u55, u56, u57, u58, u59, u60, u61, u62, u63, u64, u65, u66, u67, u68, u69, u70, u71, u72, u73, u74, u75, u76, u77, u78, u79, u80, u81, u82], defers := [] }) (fun _ w' => s.size - cntAt w' g 1) rfl ?_ ?_
  · go_wp2_with fail
    exact ⟨0, 0, 0, [], _, _, _, _, _, _, _, _, _, _, _, _, _, _, _, _, _, _, _, _, _, _, _, _, _, _, _, _, _, _, _, _, _, _, _, _, _, _, _, _, _, _, _, _, _, _, _, _, _, _, _, _, _, _, _, _, _, _, _, _, _, _, _, _, _, _, _, _, _, _, _, _, _, _, _, _, _, _, _, _, _, _, HJ0, rfl⟩
  · rintro a' w' ⟨a, b, f, l, u1, u2, u3, u4, u5, u6, u7, u8, u9, u10, u11, u12, u13, u14, u15, u16, u17, u18, u19, u20, u21, u22, u23, u24, u25, u26, u27, u28, u29, u30, u31, u32, u33, u34, u35, u36, u37, u38, u39, u40, u41, u42, u43, u44, u45, u46, u47, u48, u49, u50, u51, u52, u53, u54, u55, u56, u57, u58, u59, u60, u61, u62, u63, u64, u65, u66, u67, u68, u69, u70, u71, u72, u73, u74, u75, u76, u77, u78, u79, u80, u81, u82, HJ, rfl⟩
    have HX : Hid (cntAt w' g 1 = a) := HJ.out.rs.at
    have HR : Hid (Rs w0 w' g s a b f l) := HJ.out.rs
    have z0 := (HC.out _ _ _ HR.out).2.2
    have hla := HJ.out.la
    have hfa := HJ.out.fa
    have hasz := HJ.out.asz
    by_cases hd : s.size ≤ a
    · rw [(none_pt s a).2 hd] at z0
      have HE := HJ.out.done hd
      have HE2 : Hid (RP w0 w' g s ∧ (scn s).2.1 = 0) := HE
      clear HE hd
      go_wp2_with fail
      simp only [Exit.jump]
      go_ret
      rw [HE2.out.2]
      exact ⟨rfl, HE2.out.1⟩
    · have d1 : a < s.size := by omega
      have e0 : (rpt s a == -1) = false := by rw [beq_eq_false_iff_ne]; exact fun h => hd ((none_pt s a).1 h)
      have rg := rpt_rng s a
      have rg0 : 0 ≤ rpt s a := by rw [rpt_in d1]; omega
      have hps := pass_any HR.out (by omega) hasz (by omega)
      have HPs : Hid (∀ V, Rs w0 V g s a b f l → Calls Tryz.prog 57 #[.pointer (some ⟨g, 0, none⟩)] V fun e w' => e = .returned (.tuple #[]) ∧ Rs w0 w' g s (a + rsz s a) b (if rpt s a = 10 then f + 1 else f) l) := fun V hV => pass_any hV (by omega) hasz (by omega)
      clear hps
      by_cases h10 : by8 s a = 10
      · have q10 : rpt s a = 10 := (is_pt s a 10 (by decide) d1).2 h10
        have HJ2 : Hid (∀ V, Rs w0 V g s (a + rsz s a) b (if rpt s a = 10 then f + 1 else f) l → JR w0 V g s (a + 1) b (f + 1) l) := fun V hV => HJ.out.feed d1 h10 hV
        rw [q10] at z0
        clear h10 hd e0
        go_wp2_with (first | (go_at_call 57; refine (HPs.out _ HR.out).mono ?_; rintro e w1 ⟨rfl, hr1⟩; have hj := HJ2.out _ hr1))
        go_step3
        refine ⟨rfl, ⟨a + 1, b, f + 1, l, _, _, _, _, _, _, _, _, _, _, _, _, _, _, _, _, _, _, _, _, _, _, _, _, _, _, _, _, _, _, _, _, _, _, _, _, _, _, _, _, _, _, _, _, _, _, _, _, _, _, _, _, _, _, _, _, _, _, _, _, _, _, _, _, _, _, _, _, _, _, _, _, _, _, _, _, _, _, _, _, _, _, hj, rfl⟩, ?_⟩
        rw [HX.out, hj.rs.at]
        omega
      · have q10 : (rpt s a == 10) = false := by rw [beq_eq_false_iff_ne]; exact fun h => h10 ((is_pt s a 10 (by decide) d1).1 h)
        have hbp := bl_pt s a d1
        by_cases hbl : tkBl (by8 s a) = true
        · have HBl : Hid (∀ V, Calls Tryz.prog 56 #[.int .i32 (rpt s a)] V fun e w' => e = .returned (.bool true) ∧ Below V.heap.size V w') := fun V => by
            rw [← hbl, ← hbp]; exact isBlank_any _ _ rg0
          have HJ2 : Hid (∀ V, Rs w0 V g s (a + rsz s a) b (if rpt s a = 10 then f + 1 else f) l → JR w0 V g s (a + 1) b f l) := fun V hV => HJ.out.blank d1 h10 hbl hV
          clear h10 hd hbl hbp
          go_wp2_with (first | (go_at_call 56; refine (HBl.out _).mono ?_; rintro e w1 ⟨rfl, hb1⟩; have hr1 := Rq.below HR.out hb1; have z1 := (HC.out _ _ _ hr1).2.2) | (go_at_call 57; refine (HPs.out _ hr1).mono ?_; rintro e w2 ⟨rfl, hr2⟩; have hj := HJ2.out _ hr2))
          go_step3
          refine ⟨rfl, ⟨a + 1, b, f, l, _, _, _, _, _, _, _, _, _, _, _, _, _, _, _, _, _, _, _, _, _, _, _, _, _, _, _, _, _, _, _, _, _, _, _, _, _, _, _, _, _, _, _, _, _, _, _, _, _, _, _, _, _, _, _, _, _, _, _, _, _, _, _, _, _, _, _, _, _, _, _, _, _, _, _, _, _, _, _, _, _, _, hj, rfl⟩, ?_⟩
          rw [HX.out, hj.rs.at]
          omega
        · have hbl1 : tkBl (by8 s a) = false := by simpa using hbl
          have HBl : Hid (∀ V, Calls Tryz.prog 56 #[.int .i32 (rpt s a)] V fun e w' => e = .returned (.bool false) ∧ Below V.heap.size V w') := fun V => by
            rw [← hbl1, ← hbp]; exact isBlank_any _ _ rg0
          have hb0 := HJ.out.bda
          have HSt : Hid (∀ V, Rs w0 V g s a b f l → Calls Tryz.prog 58 #[.pointer (some ⟨g, 0, none⟩)] V fun e w' => e = .returned (.tuple #[]) ∧ Rs w0 w' g s a a f l) := fun V hV => start_r hV (by omega) HJ.out.ba HJ.out.bdb hb0
          have hwr : IntKind.i64.wrap (rpt s a) = rpt s a := by rw [IntKind.wrap_i64]; omega
          have hl9 : l.length ≤ 2147483647 := by omega
          have HN : Hid (by8 s a ≠ 10 ∧ tkBl (by8 s a) = false) := ⟨h10, hbl1⟩
          have hs' : s.size ≤ 2147483647 := by omega
          have qs : (a : Int) ≤ s.size := by omega
          have hcases := bgn_kinds s a
          clear h10 hd hbl hbl1 hbp HPs
          rcases hcases with hk | hk | hk | hk | hk | hk | hk | hk
          · have HLt : Hid (∀ V, Rs w0 V g s a a f l → Calls Tryz.prog 59 #[.int .i64 (rpt s a)] V fun e w' => e = .returned (.bool false) ∧ w' = V) := fun V hV => by
              have h9 := letter_any (rpt s a) V (hK.below hV.bel).1
              rw [show lt' (rpt s a) = false by rw [letter_pt s a d1]; exact kl_0 hk] at h9
              exact h9
            have HDg : Hid (∀ V, Calls Tryz.prog 60 #[.int .i32 (rpt s a)] V fun e w' => e = .returned (.bool false) ∧ w' = V) := fun V => by
              have h9 := isDigit_any (rpt s a) V
              rw [digit_pt, decide_eq_true d1, Bool.true_and, show tkDg (by8 s a) = false from kd_0 hk] at h9
              exact h9
            have q34 : (rpt s a == 34) = false := by rw [beq_eq_false_iff_ne]; exact fun h => kq_0 hk ((is_pt s a 34 (by decide) d1).1 h)
            have q39 : (rpt s a == 39) = false := by rw [beq_eq_false_iff_ne]; exact fun h => kc_0 hk ((is_pt s a 39 (by decide) d1).1 h)
            have q123 : (rpt s a == 123) = false := by rw [beq_eq_false_iff_ne]; exact fun h => kb_0 hk ((is_pt s a 123 (by decide) d1).1 h)
            have HPr : Hid (∀ V, Calls Tryz.prog 63 #[.string (s.extract a s.size), .string ⟨#[47, 47]⟩] V fun e w' => e = .returned (.bool false) ∧ w' = V) := fun V => by
              have h9 := hp_any (s.extract a s.size) ⟨#[47, 47]⟩ V
              rw [pre_tail s _ a (by omega), show pre s a ⟨#[47, 47]⟩ = false from kp_0 hk d1] at h9
              exact h9
            have HTok : Hid (∀ V, Rs w0 V g s a a f l → Calls Tryz.prog 65 #[.pointer (some ⟨g, 0, none⟩)] V fun e w' => e = .returned (.int .i64 100) ∧ Rs w0 w' g s a a f l) := fun V hV => sign_none hK hV hs' d1 (kz_0 hk)
            have HE2 : Hid (∀ V, Rs w0 V g s a a f l → RP w0 V g s ∧ (scn s).2.1 = 100) := fun V hV => HJ.out.none d1 HN.out.1 HN.out.2 hk hV
            clear hk hb0
            go_wp2_with (first | (go_at_call 56; refine (HBl.out _).mono ?_; rintro e w1 ⟨rfl, hb1⟩; have hr1 := Rq.below HR.out hb1; have z1 := (HC.out _ _ _ hr1).2.2) | (go_at_call 58; refine (HSt.out _ hr1).mono ?_; rintro e w2 ⟨rfl, hr2⟩; obtain ⟨y0, y1, y2⟩ := HC.out _ _ _ hr2) | (go_at_call 59; refine (HLt.out _ hr2).mono ?_; rintro e w3 ⟨rfl, hw⟩; replace hw := hw.symm; subst hw) | (go_at_call 60; refine (HDg.out _).mono ?_; rintro e w4 ⟨rfl, hw⟩; replace hw := hw.symm; subst hw))
            go_quiet ((go_at_call 63; exact Calls.quiet_of_same (HPr.out _)))
            go_wp2_with (first | (go_at_call 65; refine (HTok.out _ (Rq.below hr2 (bel_dn _ _))).mono ?_; rintro e w5 ⟨rfl, hr5⟩))
            simp only [Exit.jump]
            go_ret
            rw [(HE2.out _ hr5).2]
            exact ⟨rfl, (HE2.out _ hr5).1⟩
          have HLt : Hid (∀ V, Rs w0 V g s a a f l → Calls Tryz.prog 59 #[.int .i64 (rpt s a)] V fun e w' => e = .returned (.bool true) ∧ w' = V) := fun V hV => by
            have h9 := letter_any (rpt s a) V (hK.below hV.bel).1
            rw [show lt' (rpt s a) = true by rw [letter_pt s a d1]; exact kl_1 hk] at h9
            exact h9
          obtain ⟨E, hE⟩ : ∃ E, (tkEnd s a 1).2 = E := ⟨_, rfl⟩
          have HTok : Hid (∀ V, Rs w0 V g s a a f l → Calls Tryz.prog 61 #[.pointer (some ⟨g, 0, none⟩)] V fun e w' => e = .returned (.int .i64 (E : Nat)) ∧ TP w0 w' g s 1 a f l) := fun V hV => by
            rw [← hE]
            exact name_any hK hV hs' d1 hb0 hk hl9
          have HK0 : Hid (tkBgn s a = 1 ∧ (tkEnd s a 1).2 = E) := ⟨hk, hE⟩
          clear hk hb0 hE
          rotate_left
          have HLt : Hid (∀ V, Rs w0 V g s a a f l → Calls Tryz.prog 59 #[.int .i64 (rpt s a)] V fun e w' => e = .returned (.bool false) ∧ w' = V) := fun V hV => by
            have h9 := letter_any (rpt s a) V (hK.below hV.bel).1
            rw [show lt' (rpt s a) = false by rw [letter_pt s a d1]; exact kl_3 hk] at h9
            exact h9
          have HDg : Hid (∀ V, Calls Tryz.prog 60 #[.int .i32 (rpt s a)] V fun e w' => e = .returned (.bool true) ∧ w' = V) := fun V => by
            have h9 := isDigit_any (rpt s a) V
            rw [digit_pt, decide_eq_true d1, Bool.true_and, show tkDg (by8 s a) = true from kd_3 hk] at h9
            exact h9
          obtain ⟨E, hE⟩ : ∃ E, (tkEnd s a 3).2 = E := ⟨_, rfl⟩
          have HTok : Hid (∀ V, Rs w0 V g s a a f l → Calls Tryz.prog 61 #[.pointer (some ⟨g, 0, none⟩)] V fun e w' => e = .returned (.int .i64 (E : Nat)) ∧ TP w0 w' g s 3 a f l) := fun V hV => by
            rw [← hE]
            exact num_any hV hs' d1 hb0 hk hl9
          have HK0 : Hid (tkBgn s a = 3 ∧ (tkEnd s a 3).2 = E) := ⟨hk, hE⟩
          clear hk hb0 hE
          rotate_left
          have HLt : Hid (∀ V, Rs w0 V g s a a f l → Calls Tryz.prog 59 #[.int .i64 (rpt s a)] V fun e w' => e = .returned (.bool false) ∧ w' = V) := fun V hV => by
            have h9 := letter_any (rpt s a) V (hK.below hV.bel).1
            rw [show lt' (rpt s a) = false by rw [letter_pt s a d1]; exact kl_4 hk] at h9
            exact h9
          have HDg : Hid (∀ V, Calls Tryz.prog 60 #[.int .i32 (rpt s a)] V fun e w' => e = .returned (.bool false) ∧ w' = V) := fun V => by
            have h9 := isDigit_any (rpt s a) V
            rw [digit_pt, decide_eq_true d1, Bool.true_and, show tkDg (by8 s a) = false from kd_4 hk] at h9
            exact h9
          have q34 : (rpt s a == 34) = true := by rw [beq_iff_eq]; exact (is_pt s a 34 (by decide) d1).2 (bgn4 hk)
          obtain ⟨E, hE⟩ : ∃ E, (tkEnd s a 4).2 = E := ⟨_, rfl⟩
          have HTok : Hid (∀ V, Rs w0 V g s a a f l → Calls Tryz.prog 62 #[.pointer (some ⟨g, 0, none⟩)] V fun e w' => e = .returned (.int .i64 (E : Nat)) ∧ TP w0 w' g s 4 a f l) := fun V hV => by
            rw [← hE]
            exact text_tok hV hs' d1 hb0 hk hl9
          have HK0 : Hid (tkBgn s a = 4 ∧ (tkEnd s a 4).2 = E) := ⟨hk, hE⟩
          clear hk hb0 hE
          rotate_left
          have HLt : Hid (∀ V, Rs w0 V g s a a f l → Calls Tryz.prog 59 #[.int .i64 (rpt s a)] V fun e w' => e = .returned (.bool false) ∧ w' = V) := fun V hV => by
            have h9 := letter_any (rpt s a) V (hK.below hV.bel).1
            rw [show lt' (rpt s a) = false by rw [letter_pt s a d1]; exact kl_5 hk] at h9
            exact h9
          have HDg : Hid (∀ V, Calls Tryz.prog 60 #[.int .i32 (rpt s a)] V fun e w' => e = .returned (.bool false) ∧ w' = V) := fun V => by
            have h9 := isDigit_any (rpt s a) V
            rw [digit_pt, decide_eq_true d1, Bool.true_and, show tkDg (by8 s a) = false from kd_5 hk] at h9
            exact h9
          have q34 : (rpt s a == 34) = false := by rw [beq_eq_false_iff_ne]; exact fun h => kq_5 hk ((is_pt s a 34 (by decide) d1).1 h)
          have q39 : (rpt s a == 39) = true := by rw [beq_iff_eq]; exact (is_pt s a 39 (by decide) d1).2 (bgn5 hk)
          obtain ⟨E, hE⟩ : ∃ E, (tkEnd s a 5).2 = E := ⟨_, rfl⟩
          have HTok : Hid (∀ V, Rs w0 V g s a a f l → Calls Tryz.prog 62 #[.pointer (some ⟨g, 0, none⟩)] V fun e w' => e = .returned (.int .i64 (E : Nat)) ∧ TP w0 w' g s 5 a f l) := fun V hV => by
            rw [← hE]
            exact char_tok hV hs' d1 hb0 hk hl9
          have HK0 : Hid (tkBgn s a = 5 ∧ (tkEnd s a 5).2 = E) := ⟨hk, hE⟩
          clear hk hb0 hE
          rotate_left
          have HLt : Hid (∀ V, Rs w0 V g s a a f l → Calls Tryz.prog 59 #[.int .i64 (rpt s a)] V fun e w' => e = .returned (.bool false) ∧ w' = V) := fun V hV => by
            have h9 := letter_any (rpt s a) V (hK.below hV.bel).1
            rw [show lt' (rpt s a) = false by rw [letter_pt s a d1]; exact kl_6 hk] at h9
            exact h9
          have HDg : Hid (∀ V, Calls Tryz.prog 60 #[.int .i32 (rpt s a)] V fun e w' => e = .returned (.bool false) ∧ w' = V) := fun V => by
            have h9 := isDigit_any (rpt s a) V
            rw [digit_pt, decide_eq_true d1, Bool.true_and, show tkDg (by8 s a) = false from kd_6 hk] at h9
            exact h9
          have q34 : (rpt s a == 34) = false := by rw [beq_eq_false_iff_ne]; exact fun h => kq_6 hk ((is_pt s a 34 (by decide) d1).1 h)
          have q39 : (rpt s a == 39) = false := by rw [beq_eq_false_iff_ne]; exact fun h => kc_6 hk ((is_pt s a 39 (by decide) d1).1 h)
          have q123 : (rpt s a == 123) = false := by rw [beq_eq_false_iff_ne]; exact fun h => kb_6 hk ((is_pt s a 123 (by decide) d1).1 h)
          have HPr : Hid (∀ V, Calls Tryz.prog 63 #[.string (s.extract a s.size), .string ⟨#[47, 47]⟩] V fun e w' => e = .returned (.bool false) ∧ w' = V) := fun V => by
            have h9 := hp_any (s.extract a s.size) ⟨#[47, 47]⟩ V
            rw [pre_tail s _ a (by omega), show pre s a ⟨#[47, 47]⟩ = false from kp_6 hk d1] at h9
            exact h9
          obtain ⟨E, hE⟩ : ∃ E, (tkEnd s a 6).2 = E := ⟨_, rfl⟩
          have HTok : Hid (∀ V, Rs w0 V g s a a f l → Calls Tryz.prog 65 #[.pointer (some ⟨g, 0, none⟩)] V fun e w' => e = .returned (.int .i64 (E : Nat)) ∧ TP w0 w' g s 6 a f l) := fun V hV => by
            rw [← hE]
            exact sign_tok hK hV hs' d1 hb0 hk hl9
          have HK0 : Hid (tkBgn s a = 6 ∧ (tkEnd s a 6).2 = E) := ⟨hk, hE⟩
          clear hk hb0 hE
          rotate_left
          have HLt : Hid (∀ V, Rs w0 V g s a a f l → Calls Tryz.prog 59 #[.int .i64 (rpt s a)] V fun e w' => e = .returned (.bool false) ∧ w' = V) := fun V hV => by
            have h9 := letter_any (rpt s a) V (hK.below hV.bel).1
            rw [show lt' (rpt s a) = false by rw [letter_pt s a d1]; exact kl_7 hk] at h9
            exact h9
          have HDg : Hid (∀ V, Calls Tryz.prog 60 #[.int .i32 (rpt s a)] V fun e w' => e = .returned (.bool false) ∧ w' = V) := fun V => by
            have h9 := isDigit_any (rpt s a) V
            rw [digit_pt, decide_eq_true d1, Bool.true_and, show tkDg (by8 s a) = false from kd_7 hk] at h9
            exact h9
          have q34 : (rpt s a == 34) = false := by rw [beq_eq_false_iff_ne]; exact fun h => kq_7 hk ((is_pt s a 34 (by decide) d1).1 h)
          have q39 : (rpt s a == 39) = false := by rw [beq_eq_false_iff_ne]; exact fun h => kc_7 hk ((is_pt s a 39 (by decide) d1).1 h)
          have q123 : (rpt s a == 123) = false := by rw [beq_eq_false_iff_ne]; exact fun h => kb_7 hk ((is_pt s a 123 (by decide) d1).1 h)
          have HPr : Hid (∀ V, Calls Tryz.prog 63 #[.string (s.extract a s.size), .string ⟨#[47, 47]⟩] V fun e w' => e = .returned (.bool true) ∧ w' = V) := fun V => by
            have h9 := hp_any (s.extract a s.size) ⟨#[47, 47]⟩ V
            rw [pre_tail s _ a (by omega), show pre s a ⟨#[47, 47]⟩ = true from kp_7 hk d1] at h9
            exact h9
          obtain ⟨E, hE⟩ : ∃ E, (tkEnd s a 7).2 = E := ⟨_, rfl⟩
          have HTok : Hid (∀ V, Rs w0 V g s a a f l → Calls Tryz.prog 64 #[.pointer (some ⟨g, 0, none⟩)] V fun e w' => e = .returned (.int .i64 (E : Nat)) ∧ TP w0 w' g s 7 a f l) := fun V hV => by
            rw [← hE]
            exact line_tok hV hs' d1 hb0 hk hl9
          have HK0 : Hid (tkBgn s a = 7 ∧ (tkEnd s a 7).2 = E) := ⟨hk, hE⟩
          clear hk hb0 hE
          rotate_left
          have HLt : Hid (∀ V, Rs w0 V g s a a f l → Calls Tryz.prog 59 #[.int .i64 (rpt s a)] V fun e w' => e = .returned (.bool false) ∧ w' = V) := fun V hV => by
            have h9 := letter_any (rpt s a) V (hK.below hV.bel).1
            rw [show lt' (rpt s a) = false by rw [letter_pt s a d1]; exact kl_8 hk] at h9
            exact h9
          have HDg : Hid (∀ V, Calls Tryz.prog 60 #[.int .i32 (rpt s a)] V fun e w' => e = .returned (.bool false) ∧ w' = V) := fun V => by
            have h9 := isDigit_any (rpt s a) V
            rw [digit_pt, decide_eq_true d1, Bool.true_and, show tkDg (by8 s a) = false from kd_8 hk] at h9
            exact h9
          have q34 : (rpt s a == 34) = false := by rw [beq_eq_false_iff_ne]; exact fun h => kq_8 hk ((is_pt s a 34 (by decide) d1).1 h)
          have q39 : (rpt s a == 39) = false := by rw [beq_eq_false_iff_ne]; exact fun h => kc_8 hk ((is_pt s a 39 (by decide) d1).1 h)
          have q123 : (rpt s a == 123) = true := by rw [beq_iff_eq]; exact (is_pt s a 123 (by decide) d1).2 (bgn8 hk)
          obtain ⟨E, hE⟩ : ∃ E, (tkEnd s a 8).2 = E := ⟨_, rfl⟩
          have HTok : Hid (∀ V, Rs w0 V g s a a f l → Calls Tryz.prog 64 #[.pointer (some ⟨g, 0, none⟩)] V fun e w' => e = .returned (.int .i64 (E : Nat)) ∧ TP w0 w' g s 8 a f l) := fun V hV => by
            rw [← hE]
            exact block_tok hV hs' d1 hb0 hk hl9
          have HK0 : Hid (tkBgn s a = 8 ∧ (tkEnd s a 8).2 = E) := ⟨hk, hE⟩
          clear hk hb0 hE
          rotate_left
          all_goals (
            by_cases he : E = 0
            case' pos => subst he
            case' neg =>
              have qe : ((E : Int) == 0) = false := by simp; omega
              have HEE : Hid (E ≠ 0) := he
              clear he
            all_goals (
              go_wp2_with (first | (go_at_call 56; refine (HBl.out _).mono ?_; rintro e w1 ⟨rfl, hb1⟩; have hr1 := Rq.below HR.out hb1; have z1 := (HC.out _ _ _ hr1).2.2) | (go_at_call 58; refine (HSt.out _ hr1).mono ?_; rintro e w2 ⟨rfl, hr2⟩; obtain ⟨y0, y1, y2⟩ := HC.out _ _ _ hr2) | (go_at_call 59; refine (HLt.out _ hr2).mono ?_; rintro e w3 ⟨rfl, hw⟩; replace hw := hw.symm; subst hw) | (go_at_call 61; refine (HTok.out _ hr2).mono ?_; rintro e w5 ⟨rfl, hr5⟩) | (go_at_call 60; refine (HDg.out _).mono ?_; rintro e w4 ⟨rfl, hw⟩; replace hw := hw.symm; subst hw) | (go_at_call 62; refine (HTok.out _ hr2).mono ?_; rintro e w5 ⟨rfl, hr5⟩))
              try (go_quiet ((first | (go_at_call 63; exact Calls.quiet_of_same (HPr.out _)) | fail)); go_wp2_with (first | (go_at_call 65; refine (HTok.out _ (Rq.below hr2 (bel_dn _ _))).mono ?_; rintro e w5 ⟨rfl, hr5⟩) | (go_at_call 64; refine (HTok.out _ (Rq.below hr2 (bel_dn _ _))).mono ?_; rintro e w5 ⟨rfl, hr5⟩)))
              first
                | (obtain ⟨hj, hlt⟩ := HJ.out.tok d1 HN.out.1 HN.out.2 HK0.out.1 (by decide) HK0.out.2 hr5; go_step3; refine ⟨rfl, ⟨_, a, 0, _, _, _, _, _, _, _, _, _, _, _, _, _, _, _, _, _, _, _, _, _, _, _, _, _, _, _, _, _, _, _, _, _, _, _, _, _, _, _, _, _, _, _, _, _, _, _, _, _, _, _, _, _, _, _, _, _, _, _, _, _, _, _, _, _, _, _, _, _, _, _, _, _, _, _, _, _, _, _, _, _, _, _, hj, rfl⟩, ?_⟩; rw [HX.out, hj.rs.at]; have := hj.asz; omega)
                | (obtain ⟨hj, he2⟩ := HJ.out.bad d1 HN.out.1 HN.out.2 HK0.out.1 (by decide) (by rw [HK0.out.2]; exact HEE.out) hr5; simp only [Exit.jump]; go_ret; rw [he2, HK0.out.2]; exact ⟨rfl, hj⟩)))
end Go.Proofs.YtojjfbnpjhjidaaGreatDoor.Lx
