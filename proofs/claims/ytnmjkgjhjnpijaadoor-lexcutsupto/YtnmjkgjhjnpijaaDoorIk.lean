import Derived.Test.YtnmjkgjhjnpijaaDoorJa
set_option linter.unusedVariables false
set_option linter.unusedSimpArgs false
namespace Go.Proofs.YtnmjkgjhjnpijaaDoor
open Go.RowKit

set_option maxRecDepth 100000 in
set_option maxHeartbeats 2000000 in
theorem linside_block {S : Nat → Prop} {w0 W : World} {g : Nat} {s o : ByteArray} {T0 : List Tk} {p b f : Nat} {new : List Tk} (h : SPr S w0 W g s o T0 p 5 b f new) (hs : s.size ≤ 1000000000) :
    Calls Tryd.prog 25 #[.pointer (some ⟨g, 0, none⟩), .int .i32 (xp s p), .string (s.extract p (xq s p))] W fun e w' => SPo S w0 g s o T0 p e w' := by
  obtain ⟨f1, f2, f3, f4, f5, f6⟩ := h.facts
  have hlt : b < s.size := by
    cases h.ms with
    | block h1 _ _ => omega
  have c5 : W.cell? ⟨g, 5, none⟩ = some (.int .i64 5) := by
    obtain ⟨vt, vo, vs, h1, h2⟩ := h.lq
    exact blk_cell h1 rfl
  by_cases hp : p < s.size
  · have q1 : (xp s p == -1) = false := by rw [beq_eq_false_iff_ne, xp_in hp]; omega
    by_cases hq : by8 s p = 125
    · have q125 : xp s p = 125 := by rw [xp_in hp]; exact (x_is s p 125 (by decide)).2 hq
      have HLa : Hid (Calls Tryd.prog 54 #[.pointer (some ⟨g, 0, none⟩), .string (s.extract p (xq s p)), .int .u8 8] W fun e w' => SPo S w0 g s o T0 p e w') := by
        obtain ⟨a1, a2, a3⟩ := block_last h.ms hp hq
        exact llast_po (kk := 8) h h.lq hp hlt hs (.inr (.inr rfl)) (fun hx => ⟨a1, a2 hx⟩) (fun hx => ⟨a1, a3 hx⟩)
      rw [q125]
      clear h hq q1 q125
      go_enter Tryd.func25, Tryd.ntmps25
      go_wp2_with fail
      refine wp_scope_go 0 rfl ?_
      go_wp2_with fail
      go_step3
      refine ⟨rfl, ?_⟩
      go_wp2_with (first | (go_at_call 54; refine HLa.out.mono ?_; intro e w1 hz; obtain ⟨E, k', b', f', p', new', rfl, hz'⟩ := hz; have HF : Hid (SPo S w0 g s o T0 p (.returned (.int .i64 E)) w1) := ⟨E, k', b', f', p', new', rfl, hz'⟩; clear hz'))
      simp only [Exit.jump]
      go_ret
      exact HF.out
    · have q125 : (xp s p == 125) = false := by rw [beq_eq_false_iff_ne, xp_in hp]; exact fun e => hq ((x_is s p 125 (by decide)).1 e)
      have HAd : Hid (Calls Tryd.prog 27 #[.pointer (some ⟨g, 0, none⟩), .string (s.extract p (xq s p))] W fun e w' => SPo S w0 g s o T0 p e w') := by
        obtain ⟨a1, a2, a3⟩ := block_on h.ms hp hq
        exact ladd_po (kk := 8) h h.lq hp hlt (by omega) (by decide) (fun hx => ⟨a1, a2 hx⟩) a3
      clear h hq
      go_enter Tryd.func25, Tryd.ntmps25
      go_wp2_with fail
      refine wp_scope_go 0 rfl ?_
      go_wp2_with fail
      go_step3
      refine ⟨rfl, ?_⟩
      go_wp2_with (first | (go_at_call 27; refine HAd.out.mono ?_; intro e w1 hz; obtain ⟨E, k', b', f', p', new', rfl, hz'⟩ := hz; have HF : Hid (SPo S w0 g s o T0 p (.returned (.int .i64 E)) w1) := ⟨E, k', b', f', p', new', rfl, hz'⟩; clear hz'))
      simp only [Exit.jump]
      go_ret
      exact HF.out
  · have q1 : xp s p = -1 := xp_out (by omega)
    have HF : Hid (SPo S w0 g s o T0 p (.returned (.int .i64 101)) W) := by
      have hps : p = s.size := by omega
      obtain ⟨a1, a2⟩ := block_open (s := s) (b := b) (by rw [← hps]; exact h.ms)
      exact SPo.bad (E := 101) h h.lq a1 (by decide) a2 (by decide) hlt rfl (fun hx => absurd hx hp)
    rw [q1]
    clear h hp q1
    go_enter Tryd.func25, Tryd.ntmps25
    go_wp2_with fail
    refine wp_scope_go 0 rfl ?_
    go_wp2_with fail
    go_step3
    refine ⟨rfl, ?_⟩
    go_wp2_with fail
    simp only [Exit.jump]
    go_ret
    exact HF.out

set_option maxRecDepth 100000 in
set_option maxHeartbeats 2000000 in
theorem linside_char {S : Nat → Prop} {w0 W : World} {g : Nat} {s o : ByteArray} {T0 : List Tk} {p b f : Nat} {new : List Tk} (h : SPr S w0 W g s o T0 p 7 b f new) (hs : s.size ≤ 1000000000) :
    Calls Tryd.prog 25 #[.pointer (some ⟨g, 0, none⟩), .int .i32 (xp s p), .string (s.extract p (xq s p))] W fun e w' => SPo S w0 g s o T0 p e w' := by
  obtain ⟨f1, f2, f3, f4, f5, f6⟩ := h.facts
  have hlt : b < s.size := by
    cases h.ms with
    | char h1 h2 =>
      have := h.pd
      have hle := bd_le this
      omega
  have c5 : W.cell? ⟨g, 5, none⟩ = some (.int .i64 7) := by
    obtain ⟨vt, vo, vs, h1, h2⟩ := h.lq
    exact blk_cell h1 rfl
  by_cases hE : s.size ≤ p ∨ by8 s p = 10
  · have HEn : Hid (Calls Tryd.prog 33 #[.int .i32 (xp s p)] W fun e w' => e = .returned (.bool true) ∧ w' = W) := lends_at W true ⟨fun _ => hE, fun _ => rfl⟩
    have HF : Hid (SPo S w0 g s o T0 p (.returned (.int .i64 101)) W) := by
      obtain ⟨a1, a2, a3, _⟩ := char_open h.ms (.inl rfl) f4 (fun hx => hE.resolve_left (by omega))
      exact SPo.bad (E := 101) h h.lq a1 (by decide) a2 (by decide) hlt rfl a3
    clear h hE
    go_enter Tryd.func25, Tryd.ntmps25
    go_wp2_with fail
    refine wp_scope_go 1 rfl ?_
    go_wp2_with fail
    go_step3
    refine ⟨rfl, ?_⟩
    go_wp2_with (first | (go_at_call 33; refine HEn.out.mono ?_; rintro e w1 ⟨rfl, hw⟩; replace hw := hw.symm; subst hw))
    simp only [Exit.jump]
    go_ret
    exact HF.out
  · have hp : p < s.size := by omega
    have h10 : by8 s p ≠ 10 := fun e => hE (.inr e)
    have HEn : Hid (Calls Tryd.prog 33 #[.int .i32 (xp s p)] W fun e w' => e = .returned (.bool false) ∧ w' = W) := lends_at W false ⟨fun h => (by cases h), fun h => absurd h hE⟩
    have z5 : W.frozen? ⟨g, 5, none⟩ = false := by
      obtain ⟨vt, vo, vs, h1, h2⟩ := h.lq
      exact h1.frozen 5
    by_cases hct : tkCtl s p = true
    · have HCt : Hid (Calls Tryd.prog 53 #[.int .i32 (xp s p)] W fun e w' => e = .returned (.bool true) ∧ w' = W) := lctl_at hp W true hct.symm
      have HF : Hid (SPo S w0 g s o T0 p (.returned (.int .i64 102)) W) := by
        obtain ⟨a1, a2⟩ := char_bad h.ms hp h10 (.inl hct)
        exact SPo.bad (E := 102) h h.lq a1 (by decide) a2 (by decide) hlt rfl (fun _ => not_early (by decide))
      clear h hE h10 hct
      go_enter Tryd.func25, Tryd.ntmps25
      go_wp2_with fail
      refine wp_scope_go 1 rfl ?_
      go_wp2_with fail
      go_step3
      refine ⟨rfl, ?_⟩
      go_wp2_with (first | (go_at_call 33; refine HEn.out.mono ?_; rintro e w1 ⟨rfl, hw⟩; replace hw := hw.symm; subst hw) | (go_at_call 53; refine HCt.out.mono ?_; rintro e w1 ⟨rfl, hw⟩; replace hw := hw.symm; subst hw))
      simp only [Exit.jump]
      go_ret
      exact HF.out
    · have hct0 : tkCtl s p = false := by simpa using hct
      have HCt : Hid (Calls Tryd.prog 53 #[.int .i32 (xp s p)] W fun e w' => e = .returned (.bool false) ∧ w' = W) := lctl_at hp W false hct0.symm
      by_cases hq : by8 s p = 39
      · have q39 : (xp s p == 39) = true := by rw [beq_iff_eq, xp_in hp]; exact (x_is s p 39 (by decide)).2 hq
        have HF : Hid (SPo S w0 g s o T0 p (.returned (.int .i64 102)) W) := by
          obtain ⟨a1, a2⟩ := char_bad h.ms hp h10 (.inr hq)
          exact SPo.bad (E := 102) h h.lq a1 (by decide) a2 (by decide) hlt rfl (fun _ => not_early (by decide))
        clear h hE h10 hct hct0 hq
        go_enter Tryd.func25, Tryd.ntmps25
        go_wp2_with fail
        refine wp_scope_go 1 rfl ?_
        go_wp2_with fail
        go_step3
        refine ⟨rfl, ?_⟩
        go_wp2_with (first | (go_at_call 33; refine HEn.out.mono ?_; rintro e w1 ⟨rfl, hw⟩; replace hw := hw.symm; subst hw) | (go_at_call 53; refine HCt.out.mono ?_; rintro e w1 ⟨rfl, hw⟩; replace hw := hw.symm; subst hw))
        simp only [Exit.jump]
        go_ret
        exact HF.out
      · have q39 : (xp s p == 39) = false := by rw [beq_eq_false_iff_ne, xp_in hp]; exact fun e => hq ((x_is s p 39 (by decide)).1 e)
        have HAd : Hid (Calls Tryd.prog 27 #[.pointer (some ⟨g, 0, none⟩), .string (s.extract p (xq s p))] (W.setCell ⟨g, 5, none⟩ (.int .i64 8)) fun e w' => SPo S w0 g s o T0 p e w') := by
          obtain ⟨a1, a2⟩ := char_on h.ms hp h10 hct0 hq
          refine ladd_po (kk := 5) (k' := 8) h ?_ hp hlt (by omega) (by decide) (fun hx => absurd hx a2) (fun _ => a1)
          obtain ⟨vt, vo, vs, h1, h2⟩ := h.lq
          exact ⟨vt, vo, vs, blk_set h1 5 _, h2.set h1 5 _⟩
        clear h hE h10 hct hct0 hq
        go_enter Tryd.func25, Tryd.ntmps25
        go_wp2_with fail
        refine wp_scope_go 1 rfl ?_
        go_wp2_with fail
        go_step3
        refine ⟨rfl, ?_⟩
        go_wp2_with (first | (go_at_call 33; refine HEn.out.mono ?_; rintro e w1 ⟨rfl, hw⟩; replace hw := hw.symm; subst hw) | (go_at_call 53; refine HCt.out.mono ?_; rintro e w1 ⟨rfl, hw⟩; replace hw := hw.symm; subst hw) | (go_at_call 27; refine HAd.out.mono ?_; intro e w1 hz; obtain ⟨E, k', b', f', p', new', rfl, hz'⟩ := hz; have HF : Hid (SPo S w0 g s o T0 p (.returned (.int .i64 E)) w1) := ⟨E, k', b', f', p', new', rfl, hz'⟩; clear hz'))
        simp only [Exit.jump]
        go_ret
        exact HF.out

set_option maxRecDepth 100000 in
set_option maxHeartbeats 2000000 in
theorem linside_quote {S : Nat → Prop} {w0 W : World} {g : Nat} {s o : ByteArray} {T0 : List Tk} {p b f : Nat} {new : List Tk} (h : SPr S w0 W g s o T0 p 8 b f new) (hs : s.size ≤ 1000000000) :
    Calls Tryd.prog 25 #[.pointer (some ⟨g, 0, none⟩), .int .i32 (xp s p), .string (s.extract p (xq s p))] W fun e w' => SPo S w0 g s o T0 p e w' := by
  obtain ⟨f1, f2, f3, f4, f5, f6⟩ := h.facts
  have hlt : b < s.size := by
    cases h.ms with
    | quote h1 _ _ => omega
  have c5 : W.cell? ⟨g, 5, none⟩ = some (.int .i64 8) := by
    obtain ⟨vt, vo, vs, h1, h2⟩ := h.lq
    exact blk_cell h1 rfl
  by_cases hE : s.size ≤ p ∨ by8 s p = 10
  · have HEn : Hid (Calls Tryd.prog 33 #[.int .i32 (xp s p)] W fun e w' => e = .returned (.bool true) ∧ w' = W) := lends_at W true ⟨fun _ => hE, fun _ => rfl⟩
    have HF : Hid (SPo S w0 g s o T0 p (.returned (.int .i64 101)) W) := by
      obtain ⟨a1, a2, a3, _⟩ := char_open h.ms (.inr rfl) f4 (fun hx => hE.resolve_left (by omega))
      exact SPo.bad (E := 101) h h.lq a1 (by decide) a2 (by decide) hlt rfl a3
    clear h hE
    go_enter Tryd.func25, Tryd.ntmps25
    go_wp2_with fail
    refine wp_scope_go 2 rfl ?_
    go_wp2_with fail
    go_step3
    refine ⟨rfl, ?_⟩
    go_wp2_with (first | (go_at_call 33; refine HEn.out.mono ?_; rintro e w1 ⟨rfl, hw⟩; replace hw := hw.symm; subst hw))
    simp only [Exit.jump]
    go_ret
    exact HF.out
  · have hp : p < s.size := by omega
    have h10 : by8 s p ≠ 10 := fun e => hE (.inr e)
    have HEn : Hid (Calls Tryd.prog 33 #[.int .i32 (xp s p)] W fun e w' => e = .returned (.bool false) ∧ w' = W) := lends_at W false ⟨fun h => (by cases h), fun h => absurd h hE⟩
    by_cases hq : by8 s p = 39
    · have q39 : (xp s p != 39) = false := by rw [bne_eq_false_iff_eq, xp_in hp]; exact (x_is s p 39 (by decide)).2 hq
      have HLa : Hid (Calls Tryd.prog 54 #[.pointer (some ⟨g, 0, none⟩), .string (s.extract p (xq s p)), .int .u8 5] W fun e w' => SPo S w0 g s o T0 p e w') := by
        obtain ⟨a1, a2, a3⟩ := quote_last h.ms hp hq
        exact llast_po (kk := 5) h h.lq hp hlt hs (.inr (.inl rfl)) (fun hx => absurd hx a3) (fun hx => ⟨a1, a2⟩)
      clear h hE h10 hq
      go_enter Tryd.func25, Tryd.ntmps25
      go_wp2_with fail
      refine wp_scope_go 2 rfl ?_
      go_wp2_with fail
      go_step3
      refine ⟨rfl, ?_⟩
      go_wp2_with (first | (go_at_call 33; refine HEn.out.mono ?_; rintro e w1 ⟨rfl, hw⟩; replace hw := hw.symm; subst hw) | (go_at_call 54; refine HLa.out.mono ?_; intro e w1 hz; obtain ⟨E, k', b', f', p', new', rfl, hz'⟩ := hz; have HF : Hid (SPo S w0 g s o T0 p (.returned (.int .i64 E)) w1) := ⟨E, k', b', f', p', new', rfl, hz'⟩; clear hz'))
      simp only [Exit.jump]
      go_ret
      exact HF.out
    · have q39 : (xp s p != 39) = true := by rw [bne_iff_ne, xp_in hp]; exact fun e => hq ((x_is s p 39 (by decide)).1 e)
      have HF : Hid (SPo S w0 g s o T0 p (.returned (.int .i64 102)) W) := by
        obtain ⟨a1, a2⟩ := quote_bad h.ms hp h10 hq
        exact SPo.bad (E := 102) h h.lq a1 (by decide) a2 (by decide) hlt rfl (fun _ => not_early (by decide))
      clear h hE h10 hq
      go_enter Tryd.func25, Tryd.ntmps25
      go_wp2_with fail
      refine wp_scope_go 2 rfl ?_
      go_wp2_with fail
      go_step3
      refine ⟨rfl, ?_⟩
      go_wp2_with (first | (go_at_call 33; refine HEn.out.mono ?_; rintro e w1 ⟨rfl, hw⟩; replace hw := hw.symm; subst hw))
      simp only [Exit.jump]
      go_ret
      exact HF.out

end Go.Proofs.YtnmjkgjhjnpijaaDoor
