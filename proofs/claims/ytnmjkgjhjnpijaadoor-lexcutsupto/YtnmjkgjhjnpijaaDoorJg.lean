import Derived.Test.YtnmjkgjhjnpijaaDoorJ5
import Derived.Defers
set_option linter.unusedVariables false
set_option linter.unusedSimpArgs false
namespace Go.Proofs.YtnmjkgjhjnpijaaDoor
open Go.RowKit

set_option maxRecDepth 100000 in
set_option maxHeartbeats 2000000 in
/-- shut, deferred. -/
theorem lshutD_any {W : World} {g : Nat} {cl : Bool} {e x y z : Int} {k : Nat} {b L C f : Int} {vt vo vs : Value} (u : FrameMode) (h : LxB W g cl e x y z k b L C f vt vo vs) :
    CallsD Tryd.prog 17 #[.pointer (some ⟨g, 0, none⟩)] u W fun e' u' w' => u' = u ∧ (e' = .returned (.tuple #[]) ∧ LxC w' g ∧ Kp (fun k => k = g) W w') := by
  obtain ⟨c0, c1, c2, c3, c4, c5, c6, c7, c8, c9, c10, c11, c12⟩ := h.cells
  have hlt := blk_lt h
  have z0 := h.frozen 0
  have z1 := h.frozen 1
  have z2 := h.frozen 2
  have z3 := h.frozen 3
  have z4 := h.frozen 4
  have z5 := h.frozen 5
  have z6 := h.frozen 6
  have z7 := h.frozen 7
  have z8 := h.frozen 8
  have z9 := h.frozen 9
  have z10 := h.frozen 10
  have z11 := h.frozen 11
  have z12 := h.frozen 12
  have HL : Hid (LxB W g cl e x y z k b L C f vt vo vs) := h
  clear h
  go_enter_d Tryd.func17, Tryd.ntmps17
  go_wp2_with fail
  obtain ⟨y1, y2⟩ := lx_all HL.out (.bool true) (.int .i64 0) (.int .i64 0) (.int .i64 0) (.int .i64 0) (.int .i64 0) (.int .i64 0) (.int .i64 0) (.int .i64 0) (.int .i64 0) (.slice none 0 0) (.slice none 0 0) (.slice none 0 0)
  go_end0
  exact ⟨rfl, y1, y2⟩
theorem lshutD_nil (W : World) (u : FrameMode) :
    CallsD Tryd.prog 17 #[.pointer none] u W fun e' u' w' => u' = u ∧ (e' = .returned (.tuple #[]) ∧ w' = W) := by
  go_enter_d Tryd.func17, Tryd.ntmps17
  go_wp2_with fail
  go_end0
  exact ⟨rfl, rfl⟩

/-- What Close answers, ahead of its end. -/
def CPa (own : Nat → Prop) (w : World) (g : Nat) (S : ByteArray) (T : List Tk) (v : Value) (E : Nat) (A L C : Int) (w' : World) : Prop :=
  ∃ (new : List Tk) (a : Nat), Rt w.heap.size w' v (new.map (tv S)) ∧ Kp (Onw own w.heap.size) w w' ∧ (∃ cl e x y z k b L C f vt vo vs, LxB w' g cl e x y z k b L C f vt vo vs) ∧ scn S = (T ++ new, E, a) ∧
    ((E = 0 ∧ A = 0 ∧ L = 0 ∧ C = 0) ∨ (E ≠ 0 ∧ A = a ∧ L = pL S a ∧ C = pC S a))
/-- What Close answers, and leaves. -/
def CPo (own : Nat → Prop) (w : World) (g : Nat) (S : ByteArray) (T : List Tk) (v : Value) (E : Nat) (A L C : Int) (w' : World) : Prop :=
  ∃ (new : List Tk) (a : Nat), Fd own w w' (fun q => q = g) v (new.map (tv S)) ∧ LxC w' g ∧ scn S = (T ++ new, E, a) ∧
    ((E = 0 ∧ A = 0 ∧ L = 0 ∧ C = 0) ∨ (E ≠ 0 ∧ A = a ∧ L = pL S a ∧ C = pC S a))
theorem lans_close {own : Nat → Prop} {w V : World} {g : Nat} {S : ByteArray} {T : List Tk} (hs : S.size ≤ 1000000000) {E : Nat} {o : ByteArray}
    (h : (E = 0 ∧ ∃ k b L C f t new, Lq (Onw own w.heap.size) w V g k b L C f t o (new.map (tv S)) ∧ scn S = (T ++ new, 0, 0)) ∨ (E ≠ 0 ∧ Flt (Onw own w.heap.size) w V g S o T False E)) :
    Calls Tryd.prog 15 #[.pointer (some ⟨g, 0, none⟩), .int .i64 E] V fun e' w' => ∃ v A L C, e' = .returned (.tuple #[v, .int .i64 E, .agg #[.int .i64 A, .int .i64 L, .int .i64 C]]) ∧ CPa own w g S T v E A L C w' := by
  rcases h with ⟨rfl, k, b, L, C, f, t, new, hq, hS⟩ | ⟨hE, k, b, f, p', new, a, h1, h2, h3, h4, h5, h6, h7⟩
  · refine (lans_ok hq).mono ?_
    rintro e' w' ⟨v, rfl, hr, vt, vo, l1, l2⟩
    exact ⟨v, 0, 0, 0, rfl, new, 0, hr, l2.kp, ⟨_, _, _, _, _, _, _, _, _, _, _, _, _, l1⟩, hS, .inl ⟨rfl, rfl, rfl, rfl⟩⟩
  · refine (lans_bad h1 (by omega) h4 h2 h3 E a hE h7).mono ?_
    rintro e' w' ⟨v, rfl, hr, l1, l2⟩
    exact ⟨v, a, pL S a, pC S a, rfl, new, a, hr, l2, ⟨_, _, _, _, _, _, _, _, _, _, _, _, _, l1⟩, h5, .inr ⟨hE, rfl, rfl, rfl⟩⟩
theorem CPa.base {own : Nat → Prop} {W B V : World} {g : Nat} {S : ByteArray} {T : List Tk} {v : Value} {E : Nat} {A L C : Int} (hb : Below W.heap.size W B) (h : CPa own B g S T v E A L C V) : CPa own W g S T v E A L C V := by
  obtain ⟨new, a, h1, h2, h3, h4, h5⟩ := h
  exact ⟨new, a, lrt_low h1 hb.size, kp_base hb h2, h3, h4, h5⟩
theorem CPa.box {own : Nat → Prop} {w w' : World} {g : Nat} {S : ByteArray} {T : List Tk} {v : Value} {E : Nat} {A L C : Int} (h : CPa own w g S T v E A L C w') {r : Nat} {a b c : Int} (hr : Box3 w r a b c) (ho : ¬ own r) : Box3 w' r a b c := by
  obtain ⟨new, _, _, hk, _⟩ := h
  exact hk.blk hr (fun e => by
    rcases e with e | e
    · exact ho e
    · have := hr.lt
      omega)
theorem CPa.typ {own : Nat → Prop} {w w' w'' : World} {g : Nat} {S : ByteArray} {T : List Tk} {v : Value} {E : Nat} {A L C : Int} (h : CPa own w g S T v E A L C w') {r : Nat} {cs : Array Value} {fr : Nat × Nat} (hr : w'.heap[r]? = some (.cells cs 30 fr)) (hk : Kp (fun q => q = r) w' w'') (h1 : w.heap.size ≤ r) : CPa own w g S T v E A L C w'' := by
  obtain ⟨new, a, r1, r2, ⟨cl, e, x, y, z, k, b, L', C', f, vt, vo, vs, r3⟩, r4, r5⟩ := h
  refine ⟨new, a, r1.kp hk (r1.ne hr (by decide)), r2.step hk (fun j _ e => .inr (by rw [e]; exact h1)), ⟨cl, e, x, y, z, k, b, L', C', f, vt, vo, vs, hk.blk r3 (fun e => ?_)⟩, r4, r5⟩
  rw [← e, show w'.heap[g]? = _ from r3] at hr
  cases hr
theorem CPa.shut {own : Nat → Prop} {w w' w'' : World} {g : Nat} {S : ByteArray} {T : List Tk} {v : Value} {E : Nat} {A L C : Int} (h : CPa own w g S T v E A L C w') (hg : own g) (hc : LxC w'' g) (hk : Kp (fun q => q = g) w' w'') : CPo own w g S T v E A L C w'' := by
  obtain ⟨new, a, r1, r2, ⟨cl, e, x, y, z, k, b, L', C', f, vt, vo, vs, r3⟩, r4, r5⟩ := h
  refine ⟨new, a, ⟨?_, ?_, ?_, r1.kp hk (r1.ne r3 (by decide)), r2.step hk (fun j _ e => .inl (by rw [e]; exact hg))⟩, hc, r4, r5⟩
  · rintro q rfl
    exact .inl hg
  · rintro q rfl
    exact blk_lt hc
  · rintro q hq rfl
    exact r1.ne r3 (by decide) _ hq rfl

set_option maxRecDepth 100000 in
set_option maxHeartbeats 2000000 in
/-- Close, of a lexer that goes on. -/
theorem lclose_live {own : Nat → Prop} {W : World} {g : Nat} {S : ByteArray} {T : List Tk} {k b f : Nat} (h : LZ own W g S T k b f) (hown : ∀ q, own q → q < W.heap.size) (hK : ∀ V, Kp (Onw own W.heap.size) W V → Kab V) (hs : S.size ≤ 1000000000) :
    Calls Tryd.prog 9 #[.pointer (some ⟨g, 0, none⟩)] W fun e w' => ∃ (v : Value) (E : Nat) (A L C : Int), e = .returned (.tuple #[v, .int .i64 E, .agg #[.int .i64 A, .int .i64 L, .int .i64 C]]) ∧ CPo own W g S T v E A L C w' := by
  obtain ⟨h1, h2, vt, vo, h3, h4, h5, h6⟩ := h
  obtain ⟨op, oc, eo⟩ := h5.shape
  have hwl := whl_size S
  have hwb := wh_bd S
  have hoz := opE_size S
  have hb := h2.bds.1
  have ew := whl_opE S ByteArray.empty
  rw [app_empty, app_empty] at ew
  obtain ⟨t1, t2⟩ := h2.close
  have hbd : bd S (whl S).size := by
    have b1 := bd_wh S ByteArray.empty
    rw [app_empty] at b1
    rw [hwl]; exact b1
  have hadd : ¬ (9223372036854775807 < (opE S).size) := by omega
  have HRf : Hid (∀ V, Below W.heap.size W V → Calls Tryd.prog 13 #[.pointer (some ⟨g, 0, none⟩)] V fun e' w' => e' = .returned (.agg #[.int .i64 0, .int .i64 0, .int .i64 0, .int .i64 0]) ∧ Below V.heap.size V w') := fun V hV => lrefuse_any (blk_below h3 hV)
  have HB : Hid (∀ V, Below W.heap.size W V → V.cell? ⟨g, 11, none⟩ = some vo ∧ (convert 44 9 vo).run Tryd.prog V = .ok (.string (opE S)) V ∧ g < V.heap.size) := fun V hV => ⟨blk_cell (blk_below h3 hV) rfl, conv_open (h5.below hV), blk_lt (blk_below h3 hV)⟩
  have HRd : Hid (∀ B, Below W.heap.size W B → Calls Tryd.prog 16 #[.pointer (some ⟨g, 0, none⟩), .string (opE S)] B fun e w' => RPo (Onw own B.heap.size) B g S (opE S) T e w') := fun B hB => by
    have e1 : S.extract b (whl S).size = (whl S).extract b (whl S).size := by
      have := ext_first (whl S) (opE S) b (whl S).size (Nat.le_refl _)
      rw [← ew] at this
      exact this
    have e2 : pL S b = pL (whl S) b ∧ pC S b = pC (whl S) b := by
      have := pL_first (whl S) (opE S) b hb
      rw [← ew] at this
      exact this
    refine lread_any (T0 := T) (p0 := (whl S).size) (k := k) (b := b) (f := f) (new := []) ⟨?_, by rw [List.append_nil]; exact t1, t2, hbd⟩ hs (fun V hV => hK V (kp_base hB hV)) (by rw [hwl]; rfl)
    rw [e1, e2.1, e2.2]
    exact ⟨vt, vo, .slice none 0 0, blk_below h3 hB, Kp.refl _ _, .inl h1, fun q hq => .inr hq, (h4.mono (fun q hq => .inl (h4.2 q hq))).below hB, (h5.mono (fun q hq => .inl (h5.2 q hq))).below hB, h6, rt_nil _ _⟩
  have HSt : Hid (∀ B V, Below W.heap.size W B → ∀ {k b f : Nat} {new : List Tk}, SPr (Onw own B.heap.size) B V g S (opE S) T S.size k b f new → Calls Tryd.prog 18 #[.pointer (some ⟨g, 0, none⟩), .int .i32 (-1), .string ⟨#[]⟩] V fun e w' => SPo (Onw own B.heap.size) B g S (opE S) T S.size e w') := fun B V hB k b f new hV => by
    have h9 := lstep_any hV hs (fun V hV => hK V (kp_base hB hV))
    rw [xp_out (Nat.le_refl _), xq_out (Nat.le_refl _), ext_same S _ (Nat.le_refl _)] at h9
    exact h9
  have HAn : Hid (∀ B V E, ((E = 0 ∧ ∃ k b L C f t new, Lq (Onw own B.heap.size) B V g k b L C f t (opE S) (new.map (tv S)) ∧ scn S = (T ++ new, 0, 0)) ∨ (E ≠ 0 ∧ Flt (Onw own B.heap.size) B V g S (opE S) T False E)) → Calls Tryd.prog 15 #[.pointer (some ⟨g, 0, none⟩), .int .i64 (E : Nat)] V fun e' w' => ∃ v A L C, e' = .returned (.tuple #[v, .int .i64 E, .agg #[.int .i64 A, .int .i64 L, .int .i64 C]]) ∧ CPa own B g S T v E A L C w') := fun B V E hz => lans_close hs hz
  have HOwn : Hid (∀ q, own q → q < W.heap.size) := hown
  have hb00 : Below W.heap.size W (W.alloc (.cells #[.int .i64 0, .int .i64 0, .int .i64 0] 30)) := (Below.refl _ _).alloc (Nat.le_refl _) _
  have k00 : Box3 (W.alloc (.cells #[.int .i64 0, .int .i64 0, .int .i64 0] 30)) W.heap.size 0 0 0 := Box3.new W 0 0 0
  subst eo
  clear h2 h3 h4 h5 h6 hK hown hwl hwb hoz hb ew t1 t2 hbd
  go_enter_defers Tryd.func9, Tryd.ntmps9
  go_wp2_with (first | (go_at_call 13; refine (HRf.out _ hb00).mono ?_; rintro e w1 ⟨rfl, hb1⟩; have hbw1 := hb00.trans (hb1.mono hb00.size); have hbV : Below W.heap.size W (w1.alloc (.cells #[.int .i64 0, .int .i64 0, .int .i64 0, .int .i64 0] 42)) := hbw1.alloc hbw1.size _; obtain ⟨c11, _, hlt1⟩ := HB.out _ hbw1; obtain ⟨_, hcv, _⟩ := HB.out _ hbV; have k01 := (k00.below hb1).below ((Below.refl _ _).alloc (Nat.le_refl _) (.cells #[.int .i64 0, .int .i64 0, .int .i64 0, .int .i64 0] 42))))
  refine (HRd.out _ hbV).mono ?_
  intro e w5 hz
  obtain ⟨E, rfl, hz⟩ := hz
  rcases hz with ⟨rfl, k', b', f', new', hp⟩ | ⟨hE, hf⟩
  · have HS2 := HSt.out _ _ hbV hp
    have HS3 : Hid (Calls _ _ _ _ _) := HS2
    clear HS2 hp HSt HRd HRf
    go_wp2_with fail
    refine HS3.out.mono ?_
    intro e w7 hz2
    obtain ⟨E2, k2, b2, f2, p2, new2, rfl, z1, z2, z3, z4, z5⟩ := hz2
    have HZ : Hid (Calls _ _ _ _ _) := HAn.out _ w7 E2 (by
      rcases z5 with ⟨_, y1, _⟩ | ⟨y0, _, y2⟩ | ⟨y1, A, y2, y3, y4⟩
      · omega
      · exact .inl ⟨y0, _, _, _, _, _, _, new2, z1, y2⟩
      · exact .inr ⟨y1, k2, b2, f2, p2, new2, A, z1, z2, z3, z4, y2, fun h => h.elim, y4⟩)
    clear HAn HS3 z1 z2 z3 z4 z5
    go_wp2_with (first | (go_at_call 15; refine HZ.out.mono ?_; rintro e w6 ⟨v, A', L', C', rfl, hf⟩; have k06 : Box3 w6 W.heap.size 0 0 0 := hf.box k01 (fun e => absurd (HOwn.out _ e) (Nat.lt_irrefl _)); have g0 := k06.cell0; have g1 := k06.cell1; have g2 := k06.cell2; have f0 := k06.frozen 0; have f1 := k06.frozen 1; have f2 := k06.frozen 2; have HF : Hid (CPa own W g S T v E2 A' L' C' (((w6.setCell ⟨W.heap.size, 0, none⟩ (.int .i64 A')).setCell ⟨W.heap.size, 1, none⟩ (.int .i64 L')).setCell ⟨W.heap.size, 2, none⟩ (.int .i64 C'))) := (hf.base hbV).typ k06 (((Kp.set _ _ _ _).trans (Kp.set _ _ _ _)).trans (Kp.set _ _ _ _)) (Nat.le_refl _); clear hf))
    have b6 := ((k06.set0 A').set1 L').set2 C'
    have HD : Hid (CallsD Tryd.prog 17 #[.pointer (some ⟨g, 0, none⟩)] .returning (((w6.setCell ⟨W.heap.size, 0, none⟩ (.int .i64 A')).setCell ⟨W.heap.size, 1, none⟩ (.int .i64 L')).setCell ⟨W.heap.size, 2, none⟩ (.int .i64 C')) fun e' u' w' => u' = .returning ∧ (e' = .returned (.tuple #[]) ∧ LxC w' g ∧ Kp (fun k => k = g) (((w6.setCell ⟨W.heap.size, 0, none⟩ (.int .i64 A')).setCell ⟨W.heap.size, 1, none⟩ (.int .i64 L')).setCell ⟨W.heap.size, 2, none⟩ (.int .i64 C')) w')) := by
      obtain ⟨_, _, _, _, ⟨cl, e, x, y, z, k, b, L, C, f, vt, vo, vs, r3⟩, _⟩ := HF.out
      exact lshutD_any _ r3
    refine leaves_cons (f := 17) (args := #[.pointer (some ⟨g, 0, none⟩)]) (by simp) (by simp [go_sem]) ?_
    refine HD.out.mono ?_
    rintro e u' w8 ⟨rfl, rfl, hc, hk⟩
    have b8 : Box3 w8 W.heap.size A' L' C' := hk.blk b6 (fun e => absurd (HOwn.out _ h1) (by omega))
    have m0 := b8.cell0
    have m1 := b8.cell1
    have m2 := b8.cell2
    exact ⟨.tuple #[v, .int .i64 E2, .agg #[.int .i64 A', .int .i64 L', .int .i64 C']], by simp [results, Tryd.f9, go_sem, m0, m1, m2], v, E2, A', L', C', rfl, HF.out.shut h1 hc hk⟩
  · have qE : ((E : Int) == 0) = false := by simp; omega
    have HZ : Hid (Calls _ _ _ _ _) := HAn.out _ w5 E (.inr ⟨hE, by
      obtain ⟨k2, b2, f2, p2, new2, A, z1, z2, z3, z4, y2, _, y4⟩ := hf
      exact ⟨k2, b2, f2, p2, new2, A, z1, z2, z3, z4, y2, fun h => h.elim, y4⟩⟩)
    clear hf HAn HSt HRd HRf
    go_wp2_with (first | (go_at_call 15; refine HZ.out.mono ?_; rintro e w6 ⟨v, A', L', C', rfl, hf⟩; have k06 : Box3 w6 W.heap.size 0 0 0 := hf.box k01 (fun e => absurd (HOwn.out _ e) (Nat.lt_irrefl _)); have g0 := k06.cell0; have g1 := k06.cell1; have g2 := k06.cell2; have f0 := k06.frozen 0; have f1 := k06.frozen 1; have f2 := k06.frozen 2; have HF : Hid (CPa own W g S T v E A' L' C' (((w6.setCell ⟨W.heap.size, 0, none⟩ (.int .i64 A')).setCell ⟨W.heap.size, 1, none⟩ (.int .i64 L')).setCell ⟨W.heap.size, 2, none⟩ (.int .i64 C'))) := (hf.base hbV).typ k06 (((Kp.set _ _ _ _).trans (Kp.set _ _ _ _)).trans (Kp.set _ _ _ _)) (Nat.le_refl _); clear hf))
    have b6 := ((k06.set0 A').set1 L').set2 C'
    have HD : Hid (CallsD Tryd.prog 17 #[.pointer (some ⟨g, 0, none⟩)] .returning (((w6.setCell ⟨W.heap.size, 0, none⟩ (.int .i64 A')).setCell ⟨W.heap.size, 1, none⟩ (.int .i64 L')).setCell ⟨W.heap.size, 2, none⟩ (.int .i64 C')) fun e' u' w' => u' = .returning ∧ (e' = .returned (.tuple #[]) ∧ LxC w' g ∧ Kp (fun k => k = g) (((w6.setCell ⟨W.heap.size, 0, none⟩ (.int .i64 A')).setCell ⟨W.heap.size, 1, none⟩ (.int .i64 L')).setCell ⟨W.heap.size, 2, none⟩ (.int .i64 C')) w')) := by
      obtain ⟨_, _, _, _, ⟨cl, e, x, y, z, k, b, L, C, f, vt, vo, vs, r3⟩, _⟩ := HF.out
      exact lshutD_any _ r3
    refine leaves_cons (f := 17) (args := #[.pointer (some ⟨g, 0, none⟩)]) (by simp) (by simp [go_sem]) ?_
    refine HD.out.mono ?_
    rintro e u' w8 ⟨rfl, rfl, hc, hk⟩
    have b8 : Box3 w8 W.heap.size A' L' C' := hk.blk b6 (fun e => absurd (HOwn.out _ h1) (by omega))
    have m0 := b8.cell0
    have m1 := b8.cell1
    have m2 := b8.cell2
    exact ⟨.tuple #[v, .int .i64 E, .agg #[.int .i64 A', .int .i64 L', .int .i64 C']], by simp [results, Tryd.f9, go_sem, m0, m1, m2], v, E, A', L', C', rfl, HF.out.shut h1 hc hk⟩

set_option maxRecDepth 100000 in
set_option maxHeartbeats 1000000 in
/-- Close, behind an error. -/
theorem lclose_bad {W : World} {g E A : Nat} {L C : Int} (h : LxE W g E A L C) (hE : E ≠ 0) :
    Calls Tryd.prog 9 #[.pointer (some ⟨g, 0, none⟩)] W fun e w' => e = .returned (.tuple #[.slice none 0 0, .int .i64 E, .agg #[.int .i64 A, .int .i64 L, .int .i64 C]]) ∧ LxC w' g ∧ Kp (fun q => q = g) W w' := by
  have hb00 : Below W.heap.size W (W.alloc (.cells #[.int .i64 0, .int .i64 0, .int .i64 0] 30)) := (Below.refl _ _).alloc (Nat.le_refl _) _
  have k00 : Box3 (W.alloc (.cells #[.int .i64 0, .int .i64 0, .int .i64 0] 30)) W.heap.size 0 0 0 := Box3.new W 0 0 0
  have HRf : Hid (Calls Tryd.prog 13 #[.pointer (some ⟨g, 0, none⟩)] (W.alloc (.cells #[.int .i64 0, .int .i64 0, .int .i64 0] 30)) fun e' w' => e' = .returned (.agg #[.int .i64 E, .int .i64 A, .int .i64 L, .int .i64 C]) ∧ Below (W.alloc (.cells #[.int .i64 0, .int .i64 0, .int .i64 0] 30)).heap.size (W.alloc (.cells #[.int .i64 0, .int .i64 0, .int .i64 0] 30)) w') := lrefuse_any (blk_below h hb00)
  have qE : ((E : Int) != 0) = true := by rw [bne_iff_ne]; omega
  have HL : Hid (∀ V, Below W.heap.size W V → ∃ cl e x y z k b L C f vt vo vs, LxB V g cl e x y z k b L C f vt vo vs) := fun V hV => ⟨_, _, _, _, _, _, _, _, _, _, _, _, _, blk_below h hV⟩
  have HG : Hid (g < W.heap.size) := blk_lt h
  clear h
  go_enter_defers Tryd.func9, Tryd.ntmps9
  go_wp2_with (first | (go_at_call 13; refine HRf.out.mono ?_; rintro e w1 ⟨rfl, hb1⟩; have k01 := k00.below hb1; have g0 := k01.cell0; have g1 := k01.cell1; have g2 := k01.cell2; have f0 := k01.frozen 0; have f1 := k01.frozen 1; have f2 := k01.frozen 2; have hl1 := k01.lt; have hbw := hb00.trans (hb1.mono hb00.size)))
  have b6 := (((k01.set0 A).set1 L).set2 C).below (((Below.refl _ _).alloc (Nat.le_refl _) (.cells #[.int .i64 E, .int .i64 A, .int .i64 L, .int .i64 C] 42)).drew)
  have hbX : Below W.heap.size W (((w1.setCell ⟨W.heap.size, 0, none⟩ (.int .i64 A)).setCell ⟨W.heap.size, 1, none⟩ (.int .i64 L)).setCell ⟨W.heap.size, 2, none⟩ (.int .i64 C)) := ((hbw.setCell (p := ⟨W.heap.size, 0, none⟩) (Nat.le_refl _) _).setCell (p := ⟨W.heap.size, 1, none⟩) (Nat.le_refl _) _).setCell (p := ⟨W.heap.size, 2, none⟩) (Nat.le_refl _) _
  have hB6 : Below W.heap.size W ((((w1.setCell ⟨W.heap.size, 0, none⟩ (.int .i64 A)).setCell ⟨W.heap.size, 1, none⟩ (.int .i64 L)).setCell ⟨W.heap.size, 2, none⟩ (.int .i64 C)).alloc (.cells #[.int .i64 E, .int .i64 A, .int .i64 L, .int .i64 C] 42)).drew := (hbX.alloc hbX.size _).drew
  have HB6 : Hid (Box3 ((((w1.setCell ⟨W.heap.size, 0, none⟩ (.int .i64 A)).setCell ⟨W.heap.size, 1, none⟩ (.int .i64 L)).setCell ⟨W.heap.size, 2, none⟩ (.int .i64 C)).alloc (.cells #[.int .i64 E, .int .i64 A, .int .i64 L, .int .i64 C] 42)).drew W.heap.size A L C ∧ Below W.heap.size W ((((w1.setCell ⟨W.heap.size, 0, none⟩ (.int .i64 A)).setCell ⟨W.heap.size, 1, none⟩ (.int .i64 L)).setCell ⟨W.heap.size, 2, none⟩ (.int .i64 C)).alloc (.cells #[.int .i64 E, .int .i64 A, .int .i64 L, .int .i64 C] 42)).drew) := ⟨b6, hB6⟩
  have HD : Hid (CallsD Tryd.prog 17 #[.pointer (some ⟨g, 0, none⟩)] .returning ((((w1.setCell ⟨W.heap.size, 0, none⟩ (.int .i64 A)).setCell ⟨W.heap.size, 1, none⟩ (.int .i64 L)).setCell ⟨W.heap.size, 2, none⟩ (.int .i64 C)).alloc (.cells #[.int .i64 E, .int .i64 A, .int .i64 L, .int .i64 C] 42)).drew fun e' u' w' => u' = .returning ∧ (e' = .returned (.tuple #[]) ∧ LxC w' g ∧ Kp (fun k => k = g) ((((w1.setCell ⟨W.heap.size, 0, none⟩ (.int .i64 A)).setCell ⟨W.heap.size, 1, none⟩ (.int .i64 L)).setCell ⟨W.heap.size, 2, none⟩ (.int .i64 C)).alloc (.cells #[.int .i64 E, .int .i64 A, .int .i64 L, .int .i64 C] 42)).drew w')) := by
    obtain ⟨cl, e, x, y, z, k, b, L, C, f, vt, vo, vs, r3⟩ := HL.out _ hB6
    exact lshutD_any _ r3
  clear hbX hbw b6 hB6
  have hn0 : (w1.alloc (.cells #[.int .i64 E, .int .i64 A, .int .i64 L, .int .i64 C] 42)).heap[w1.heap.size]? = some (.cells #[.int .i64 E, .int .i64 A, .int .i64 L, .int .i64 C] 42 (0, 0)) := World.alloc_heap_new w1 _
  have n0 : (w1.alloc (.cells #[.int .i64 E, .int .i64 A, .int .i64 L, .int .i64 C] 42)).cell? ⟨w1.heap.size, 0, none⟩ = some (.int .i64 E) := blk_cell hn0 rfl
  have n1 : (w1.alloc (.cells #[.int .i64 E, .int .i64 A, .int .i64 L, .int .i64 C] 42)).cell? ⟨w1.heap.size, 1, none⟩ = some (.int .i64 A) := blk_cell hn0 rfl
  have n2 : (w1.alloc (.cells #[.int .i64 E, .int .i64 A, .int .i64 L, .int .i64 C] 42)).cell? ⟨w1.heap.size, 2, none⟩ = some (.int .i64 L) := blk_cell hn0 rfl
  have n3 : (w1.alloc (.cells #[.int .i64 E, .int .i64 A, .int .i64 L, .int .i64 C] 42)).cell? ⟨w1.heap.size, 3, none⟩ = some (.int .i64 C) := blk_cell hn0 rfl
  have hn1 : ((((w1.setCell ⟨W.heap.size, 0, none⟩ (.int .i64 A)).setCell ⟨W.heap.size, 1, none⟩ (.int .i64 L)).setCell ⟨W.heap.size, 2, none⟩ (.int .i64 C)).alloc (.cells #[.int .i64 E, .int .i64 A, .int .i64 L, .int .i64 C] 42)).drew.heap[w1.heap.size]? = some (.cells #[.int .i64 E, .int .i64 A, .int .i64 L, .int .i64 C] 42 (0, 0)) := by
    have h9 := World.alloc_heap_new (((w1.setCell ⟨W.heap.size, 0, none⟩ (.int .i64 A)).setCell ⟨W.heap.size, 1, none⟩ (.int .i64 L)).setCell ⟨W.heap.size, 2, none⟩ (.int .i64 C)) (.cells #[.int .i64 E, .int .i64 A, .int .i64 L, .int .i64 C] 42)
    simp only [World.size_setCell] at h9
    exact h9
  have q0 : ((((w1.setCell ⟨W.heap.size, 0, none⟩ (.int .i64 A)).setCell ⟨W.heap.size, 1, none⟩ (.int .i64 L)).setCell ⟨W.heap.size, 2, none⟩ (.int .i64 C)).alloc (.cells #[.int .i64 E, .int .i64 A, .int .i64 L, .int .i64 C] 42)).drew.cell? ⟨w1.heap.size, 0, none⟩ = some (.int .i64 E) := blk_cell hn1 rfl
  have q1 : ((((w1.setCell ⟨W.heap.size, 0, none⟩ (.int .i64 A)).setCell ⟨W.heap.size, 1, none⟩ (.int .i64 L)).setCell ⟨W.heap.size, 2, none⟩ (.int .i64 C)).alloc (.cells #[.int .i64 E, .int .i64 A, .int .i64 L, .int .i64 C] 42)).drew.cell? ⟨w1.heap.size, 1, none⟩ = some (.int .i64 A) := blk_cell hn1 rfl
  have q2 : ((((w1.setCell ⟨W.heap.size, 0, none⟩ (.int .i64 A)).setCell ⟨W.heap.size, 1, none⟩ (.int .i64 L)).setCell ⟨W.heap.size, 2, none⟩ (.int .i64 C)).alloc (.cells #[.int .i64 E, .int .i64 A, .int .i64 L, .int .i64 C] 42)).drew.cell? ⟨w1.heap.size, 2, none⟩ = some (.int .i64 L) := blk_cell hn1 rfl
  have q3 : ((((w1.setCell ⟨W.heap.size, 0, none⟩ (.int .i64 A)).setCell ⟨W.heap.size, 1, none⟩ (.int .i64 L)).setCell ⟨W.heap.size, 2, none⟩ (.int .i64 C)).alloc (.cells #[.int .i64 E, .int .i64 A, .int .i64 L, .int .i64 C] 42)).drew.cell? ⟨w1.heap.size, 3, none⟩ = some (.int .i64 C) := blk_cell hn1 rfl
  go_region_held3 (fun w' => w'.cell? ⟨w1.heap.size, 0, none⟩ = some (.int .i64 E) ∧ w'.cell? ⟨w1.heap.size, 1, none⟩ = some (.int .i64 A) ∧ w'.cell? ⟨w1.heap.size, 2, none⟩ = some (.int .i64 L) ∧ w'.cell? ⟨w1.heap.size, 3, none⟩ = some (.int .i64 C)) (first | (exact ⟨n0, n1, n2, n3⟩) | (exact ⟨q0, q1, q2, q3⟩) | go_keep) (fail)
  all_goals (
    go_wp2_with fail
    refine leaves_cons (f := 17) (args := #[.pointer (some ⟨g, 0, none⟩)]) (by simp) (by simp [go_sem]) ?_
    refine HD.out.mono ?_
    rintro e u' w8 ⟨rfl, rfl, hc, hk⟩
    have b8 : Box3 w8 W.heap.size A L C := hk.blk HB6.out.1 (fun e => by have := HG.out; omega)
    have m0 := b8.cell0
    have m1 := b8.cell1
    have m2 := b8.cell2
    exact ⟨.tuple #[.slice none 0 0, .int .i64 E, .agg #[.int .i64 A, .int .i64 L, .int .i64 C]], by simp [results, Tryd.f9, go_sem, m0, m1, m2], rfl, hc, (Kp.of_below HB6.out.2).trans hk⟩)

set_option maxRecDepth 100000 in
set_option maxHeartbeats 1000000 in
/-- Close, behind Close. -/
theorem lclose_done {W : World} {g : Nat} (h : LxC W g) :
    Calls Tryd.prog 9 #[.pointer (some ⟨g, 0, none⟩)] W fun e w' => e = .returned (.tuple #[.slice none 0 0, .int .i64 4, .agg #[.int .i64 0, .int .i64 0, .int .i64 0]]) ∧ LxC w' g ∧ Kp (fun q => q = g) W w' := by
  have hb00 : Below W.heap.size W (W.alloc (.cells #[.int .i64 0, .int .i64 0, .int .i64 0] 30)) := (Below.refl _ _).alloc (Nat.le_refl _) _
  have k00 : Box3 (W.alloc (.cells #[.int .i64 0, .int .i64 0, .int .i64 0] 30)) W.heap.size 0 0 0 := Box3.new W 0 0 0
  have HRf : Hid (Calls Tryd.prog 13 #[.pointer (some ⟨g, 0, none⟩)] (W.alloc (.cells #[.int .i64 0, .int .i64 0, .int .i64 0] 30)) fun e' w' => e' = .returned (.agg #[.int .i64 4, .int .i64 0, .int .i64 0, .int .i64 0]) ∧ Below (W.alloc (.cells #[.int .i64 0, .int .i64 0, .int .i64 0] 30)).heap.size (W.alloc (.cells #[.int .i64 0, .int .i64 0, .int .i64 0] 30)) w') := lrefuse_any (blk_below h hb00)
  skip
  have HL : Hid (∀ V, Below W.heap.size W V → ∃ cl e x y z k b L C f vt vo vs, LxB V g cl e x y z k b L C f vt vo vs) := fun V hV => ⟨_, _, _, _, _, _, _, _, _, _, _, _, _, blk_below h hV⟩
  have HG : Hid (g < W.heap.size) := blk_lt h
  clear h
  go_enter_defers Tryd.func9, Tryd.ntmps9
  go_wp2_with (first | (go_at_call 13; refine HRf.out.mono ?_; rintro e w1 ⟨rfl, hb1⟩; have k01 := k00.below hb1; have g0 := k01.cell0; have g1 := k01.cell1; have g2 := k01.cell2; have f0 := k01.frozen 0; have f1 := k01.frozen 1; have f2 := k01.frozen 2; have hl1 := k01.lt; have hbw := hb00.trans (hb1.mono hb00.size)))
  have b6 := (((k01.set0 0).set1 0).set2 0).below (((Below.refl _ _).alloc (Nat.le_refl _) (.cells #[.int .i64 4, .int .i64 0, .int .i64 0, .int .i64 0] 42)).drew)
  have hbX : Below W.heap.size W (((w1.setCell ⟨W.heap.size, 0, none⟩ (.int .i64 0)).setCell ⟨W.heap.size, 1, none⟩ (.int .i64 0)).setCell ⟨W.heap.size, 2, none⟩ (.int .i64 0)) := ((hbw.setCell (p := ⟨W.heap.size, 0, none⟩) (Nat.le_refl _) _).setCell (p := ⟨W.heap.size, 1, none⟩) (Nat.le_refl _) _).setCell (p := ⟨W.heap.size, 2, none⟩) (Nat.le_refl _) _
  have hB6 : Below W.heap.size W ((((w1.setCell ⟨W.heap.size, 0, none⟩ (.int .i64 0)).setCell ⟨W.heap.size, 1, none⟩ (.int .i64 0)).setCell ⟨W.heap.size, 2, none⟩ (.int .i64 0)).alloc (.cells #[.int .i64 4, .int .i64 0, .int .i64 0, .int .i64 0] 42)).drew := (hbX.alloc hbX.size _).drew
  have HB6 : Hid (Box3 ((((w1.setCell ⟨W.heap.size, 0, none⟩ (.int .i64 0)).setCell ⟨W.heap.size, 1, none⟩ (.int .i64 0)).setCell ⟨W.heap.size, 2, none⟩ (.int .i64 0)).alloc (.cells #[.int .i64 4, .int .i64 0, .int .i64 0, .int .i64 0] 42)).drew W.heap.size 0 0 0 ∧ Below W.heap.size W ((((w1.setCell ⟨W.heap.size, 0, none⟩ (.int .i64 0)).setCell ⟨W.heap.size, 1, none⟩ (.int .i64 0)).setCell ⟨W.heap.size, 2, none⟩ (.int .i64 0)).alloc (.cells #[.int .i64 4, .int .i64 0, .int .i64 0, .int .i64 0] 42)).drew) := ⟨b6, hB6⟩
  have HD : Hid (CallsD Tryd.prog 17 #[.pointer (some ⟨g, 0, none⟩)] .returning ((((w1.setCell ⟨W.heap.size, 0, none⟩ (.int .i64 0)).setCell ⟨W.heap.size, 1, none⟩ (.int .i64 0)).setCell ⟨W.heap.size, 2, none⟩ (.int .i64 0)).alloc (.cells #[.int .i64 4, .int .i64 0, .int .i64 0, .int .i64 0] 42)).drew fun e' u' w' => u' = .returning ∧ (e' = .returned (.tuple #[]) ∧ LxC w' g ∧ Kp (fun k => k = g) ((((w1.setCell ⟨W.heap.size, 0, none⟩ (.int .i64 0)).setCell ⟨W.heap.size, 1, none⟩ (.int .i64 0)).setCell ⟨W.heap.size, 2, none⟩ (.int .i64 0)).alloc (.cells #[.int .i64 4, .int .i64 0, .int .i64 0, .int .i64 0] 42)).drew w')) := by
    obtain ⟨cl, e, x, y, z, k, b, L, C, f, vt, vo, vs, r3⟩ := HL.out _ hB6
    exact lshutD_any _ r3
  clear hbX hbw b6 hB6
  have hn0 : (w1.alloc (.cells #[.int .i64 4, .int .i64 0, .int .i64 0, .int .i64 0] 42)).heap[w1.heap.size]? = some (.cells #[.int .i64 4, .int .i64 0, .int .i64 0, .int .i64 0] 42 (0, 0)) := World.alloc_heap_new w1 _
  have n0 : (w1.alloc (.cells #[.int .i64 4, .int .i64 0, .int .i64 0, .int .i64 0] 42)).cell? ⟨w1.heap.size, 0, none⟩ = some (.int .i64 4) := blk_cell hn0 rfl
  have n1 : (w1.alloc (.cells #[.int .i64 4, .int .i64 0, .int .i64 0, .int .i64 0] 42)).cell? ⟨w1.heap.size, 1, none⟩ = some (.int .i64 0) := blk_cell hn0 rfl
  have n2 : (w1.alloc (.cells #[.int .i64 4, .int .i64 0, .int .i64 0, .int .i64 0] 42)).cell? ⟨w1.heap.size, 2, none⟩ = some (.int .i64 0) := blk_cell hn0 rfl
  have n3 : (w1.alloc (.cells #[.int .i64 4, .int .i64 0, .int .i64 0, .int .i64 0] 42)).cell? ⟨w1.heap.size, 3, none⟩ = some (.int .i64 0) := blk_cell hn0 rfl
  have hn1 : ((((w1.setCell ⟨W.heap.size, 0, none⟩ (.int .i64 0)).setCell ⟨W.heap.size, 1, none⟩ (.int .i64 0)).setCell ⟨W.heap.size, 2, none⟩ (.int .i64 0)).alloc (.cells #[.int .i64 4, .int .i64 0, .int .i64 0, .int .i64 0] 42)).drew.heap[w1.heap.size]? = some (.cells #[.int .i64 4, .int .i64 0, .int .i64 0, .int .i64 0] 42 (0, 0)) := by
    have h9 := World.alloc_heap_new (((w1.setCell ⟨W.heap.size, 0, none⟩ (.int .i64 0)).setCell ⟨W.heap.size, 1, none⟩ (.int .i64 0)).setCell ⟨W.heap.size, 2, none⟩ (.int .i64 0)) (.cells #[.int .i64 4, .int .i64 0, .int .i64 0, .int .i64 0] 42)
    simp only [World.size_setCell] at h9
    exact h9
  have q0 : ((((w1.setCell ⟨W.heap.size, 0, none⟩ (.int .i64 0)).setCell ⟨W.heap.size, 1, none⟩ (.int .i64 0)).setCell ⟨W.heap.size, 2, none⟩ (.int .i64 0)).alloc (.cells #[.int .i64 4, .int .i64 0, .int .i64 0, .int .i64 0] 42)).drew.cell? ⟨w1.heap.size, 0, none⟩ = some (.int .i64 4) := blk_cell hn1 rfl
  have q1 : ((((w1.setCell ⟨W.heap.size, 0, none⟩ (.int .i64 0)).setCell ⟨W.heap.size, 1, none⟩ (.int .i64 0)).setCell ⟨W.heap.size, 2, none⟩ (.int .i64 0)).alloc (.cells #[.int .i64 4, .int .i64 0, .int .i64 0, .int .i64 0] 42)).drew.cell? ⟨w1.heap.size, 1, none⟩ = some (.int .i64 0) := blk_cell hn1 rfl
  have q2 : ((((w1.setCell ⟨W.heap.size, 0, none⟩ (.int .i64 0)).setCell ⟨W.heap.size, 1, none⟩ (.int .i64 0)).setCell ⟨W.heap.size, 2, none⟩ (.int .i64 0)).alloc (.cells #[.int .i64 4, .int .i64 0, .int .i64 0, .int .i64 0] 42)).drew.cell? ⟨w1.heap.size, 2, none⟩ = some (.int .i64 0) := blk_cell hn1 rfl
  have q3 : ((((w1.setCell ⟨W.heap.size, 0, none⟩ (.int .i64 0)).setCell ⟨W.heap.size, 1, none⟩ (.int .i64 0)).setCell ⟨W.heap.size, 2, none⟩ (.int .i64 0)).alloc (.cells #[.int .i64 4, .int .i64 0, .int .i64 0, .int .i64 0] 42)).drew.cell? ⟨w1.heap.size, 3, none⟩ = some (.int .i64 0) := blk_cell hn1 rfl
  go_region_held3 (fun w' => w'.cell? ⟨w1.heap.size, 0, none⟩ = some (.int .i64 4) ∧ w'.cell? ⟨w1.heap.size, 1, none⟩ = some (.int .i64 0) ∧ w'.cell? ⟨w1.heap.size, 2, none⟩ = some (.int .i64 0) ∧ w'.cell? ⟨w1.heap.size, 3, none⟩ = some (.int .i64 0)) (first | (exact ⟨n0, n1, n2, n3⟩) | (exact ⟨q0, q1, q2, q3⟩) | go_keep) (fail)
  all_goals (
    go_wp2_with fail
    refine leaves_cons (f := 17) (args := #[.pointer (some ⟨g, 0, none⟩)]) (by simp) (by simp [go_sem]) ?_
    refine HD.out.mono ?_
    rintro e u' w8 ⟨rfl, rfl, hc, hk⟩
    have b8 : Box3 w8 W.heap.size 0 0 0 := hk.blk HB6.out.1 (fun e => by have := HG.out; omega)
    have m0 := b8.cell0
    have m1 := b8.cell1
    have m2 := b8.cell2
    exact ⟨.tuple #[.slice none 0 0, .int .i64 4, .agg #[.int .i64 0, .int .i64 0, .int .i64 0]], by simp [results, Tryd.f9, go_sem, m0, m1, m2], rfl, hc, (Kp.of_below HB6.out.2).trans hk⟩)

set_option maxRecDepth 100000 in
set_option maxHeartbeats 1000000 in
/-- Close, of none. -/
theorem lclose_nil (W : World) :
    Calls Tryd.prog 9 #[.pointer none] W fun e w' => e = .returned (.tuple #[.slice none 0 0, .int .i64 3, .agg #[.int .i64 0, .int .i64 0, .int .i64 0]]) ∧ Below W.heap.size W w' := by
  have hb00 : Below W.heap.size W (W.alloc (.cells #[.int .i64 0, .int .i64 0, .int .i64 0] 30)) := (Below.refl _ _).alloc (Nat.le_refl _) _
  have k00 : Box3 (W.alloc (.cells #[.int .i64 0, .int .i64 0, .int .i64 0] 30)) W.heap.size 0 0 0 := Box3.new W 0 0 0
  have HRf : Hid (Calls Tryd.prog 13 #[.pointer none] (W.alloc (.cells #[.int .i64 0, .int .i64 0, .int .i64 0] 30)) fun e' w' => e' = .returned (.agg #[.int .i64 3, .int .i64 0, .int .i64 0, .int .i64 0]) ∧ Below (W.alloc (.cells #[.int .i64 0, .int .i64 0, .int .i64 0] 30)).heap.size (W.alloc (.cells #[.int .i64 0, .int .i64 0, .int .i64 0] 30)) w') := lrefuse_nil _
  skip
  go_enter_defers Tryd.func9, Tryd.ntmps9
  go_wp2_with (first | (go_at_call 13; refine HRf.out.mono ?_; rintro e w1 ⟨rfl, hb1⟩; have k01 := k00.below hb1; have g0 := k01.cell0; have g1 := k01.cell1; have g2 := k01.cell2; have f0 := k01.frozen 0; have f1 := k01.frozen 1; have f2 := k01.frozen 2; have hl1 := k01.lt; have hbw := hb00.trans (hb1.mono hb00.size)))
  have b6 := (((k01.set0 0).set1 0).set2 0).below (((Below.refl _ _).alloc (Nat.le_refl _) (.cells #[.int .i64 3, .int .i64 0, .int .i64 0, .int .i64 0] 42)).drew)
  have hbX : Below W.heap.size W (((w1.setCell ⟨W.heap.size, 0, none⟩ (.int .i64 0)).setCell ⟨W.heap.size, 1, none⟩ (.int .i64 0)).setCell ⟨W.heap.size, 2, none⟩ (.int .i64 0)) := ((hbw.setCell (p := ⟨W.heap.size, 0, none⟩) (Nat.le_refl _) _).setCell (p := ⟨W.heap.size, 1, none⟩) (Nat.le_refl _) _).setCell (p := ⟨W.heap.size, 2, none⟩) (Nat.le_refl _) _
  have hB6 : Below W.heap.size W ((((w1.setCell ⟨W.heap.size, 0, none⟩ (.int .i64 0)).setCell ⟨W.heap.size, 1, none⟩ (.int .i64 0)).setCell ⟨W.heap.size, 2, none⟩ (.int .i64 0)).alloc (.cells #[.int .i64 3, .int .i64 0, .int .i64 0, .int .i64 0] 42)).drew := (hbX.alloc hbX.size _).drew
  have HB6 : Hid (Box3 ((((w1.setCell ⟨W.heap.size, 0, none⟩ (.int .i64 0)).setCell ⟨W.heap.size, 1, none⟩ (.int .i64 0)).setCell ⟨W.heap.size, 2, none⟩ (.int .i64 0)).alloc (.cells #[.int .i64 3, .int .i64 0, .int .i64 0, .int .i64 0] 42)).drew W.heap.size 0 0 0 ∧ Below W.heap.size W ((((w1.setCell ⟨W.heap.size, 0, none⟩ (.int .i64 0)).setCell ⟨W.heap.size, 1, none⟩ (.int .i64 0)).setCell ⟨W.heap.size, 2, none⟩ (.int .i64 0)).alloc (.cells #[.int .i64 3, .int .i64 0, .int .i64 0, .int .i64 0] 42)).drew) := ⟨b6, hB6⟩
  have HD : Hid (CallsD Tryd.prog 17 #[.pointer none] .returning ((((w1.setCell ⟨W.heap.size, 0, none⟩ (.int .i64 0)).setCell ⟨W.heap.size, 1, none⟩ (.int .i64 0)).setCell ⟨W.heap.size, 2, none⟩ (.int .i64 0)).alloc (.cells #[.int .i64 3, .int .i64 0, .int .i64 0, .int .i64 0] 42)).drew fun e' u' w' => u' = .returning ∧ (e' = .returned (.tuple #[]) ∧ w' = ((((w1.setCell ⟨W.heap.size, 0, none⟩ (.int .i64 0)).setCell ⟨W.heap.size, 1, none⟩ (.int .i64 0)).setCell ⟨W.heap.size, 2, none⟩ (.int .i64 0)).alloc (.cells #[.int .i64 3, .int .i64 0, .int .i64 0, .int .i64 0] 42)).drew)) := lshutD_nil _ _
  clear hbX hbw b6 hB6
  have hn0 : (w1.alloc (.cells #[.int .i64 3, .int .i64 0, .int .i64 0, .int .i64 0] 42)).heap[w1.heap.size]? = some (.cells #[.int .i64 3, .int .i64 0, .int .i64 0, .int .i64 0] 42 (0, 0)) := World.alloc_heap_new w1 _
  have n0 : (w1.alloc (.cells #[.int .i64 3, .int .i64 0, .int .i64 0, .int .i64 0] 42)).cell? ⟨w1.heap.size, 0, none⟩ = some (.int .i64 3) := blk_cell hn0 rfl
  have n1 : (w1.alloc (.cells #[.int .i64 3, .int .i64 0, .int .i64 0, .int .i64 0] 42)).cell? ⟨w1.heap.size, 1, none⟩ = some (.int .i64 0) := blk_cell hn0 rfl
  have n2 : (w1.alloc (.cells #[.int .i64 3, .int .i64 0, .int .i64 0, .int .i64 0] 42)).cell? ⟨w1.heap.size, 2, none⟩ = some (.int .i64 0) := blk_cell hn0 rfl
  have n3 : (w1.alloc (.cells #[.int .i64 3, .int .i64 0, .int .i64 0, .int .i64 0] 42)).cell? ⟨w1.heap.size, 3, none⟩ = some (.int .i64 0) := blk_cell hn0 rfl
  have hn1 : ((((w1.setCell ⟨W.heap.size, 0, none⟩ (.int .i64 0)).setCell ⟨W.heap.size, 1, none⟩ (.int .i64 0)).setCell ⟨W.heap.size, 2, none⟩ (.int .i64 0)).alloc (.cells #[.int .i64 3, .int .i64 0, .int .i64 0, .int .i64 0] 42)).drew.heap[w1.heap.size]? = some (.cells #[.int .i64 3, .int .i64 0, .int .i64 0, .int .i64 0] 42 (0, 0)) := by
    have h9 := World.alloc_heap_new (((w1.setCell ⟨W.heap.size, 0, none⟩ (.int .i64 0)).setCell ⟨W.heap.size, 1, none⟩ (.int .i64 0)).setCell ⟨W.heap.size, 2, none⟩ (.int .i64 0)) (.cells #[.int .i64 3, .int .i64 0, .int .i64 0, .int .i64 0] 42)
    simp only [World.size_setCell] at h9
    exact h9
  have q0 : ((((w1.setCell ⟨W.heap.size, 0, none⟩ (.int .i64 0)).setCell ⟨W.heap.size, 1, none⟩ (.int .i64 0)).setCell ⟨W.heap.size, 2, none⟩ (.int .i64 0)).alloc (.cells #[.int .i64 3, .int .i64 0, .int .i64 0, .int .i64 0] 42)).drew.cell? ⟨w1.heap.size, 0, none⟩ = some (.int .i64 3) := blk_cell hn1 rfl
  have q1 : ((((w1.setCell ⟨W.heap.size, 0, none⟩ (.int .i64 0)).setCell ⟨W.heap.size, 1, none⟩ (.int .i64 0)).setCell ⟨W.heap.size, 2, none⟩ (.int .i64 0)).alloc (.cells #[.int .i64 3, .int .i64 0, .int .i64 0, .int .i64 0] 42)).drew.cell? ⟨w1.heap.size, 1, none⟩ = some (.int .i64 0) := blk_cell hn1 rfl
  have q2 : ((((w1.setCell ⟨W.heap.size, 0, none⟩ (.int .i64 0)).setCell ⟨W.heap.size, 1, none⟩ (.int .i64 0)).setCell ⟨W.heap.size, 2, none⟩ (.int .i64 0)).alloc (.cells #[.int .i64 3, .int .i64 0, .int .i64 0, .int .i64 0] 42)).drew.cell? ⟨w1.heap.size, 2, none⟩ = some (.int .i64 0) := blk_cell hn1 rfl
  have q3 : ((((w1.setCell ⟨W.heap.size, 0, none⟩ (.int .i64 0)).setCell ⟨W.heap.size, 1, none⟩ (.int .i64 0)).setCell ⟨W.heap.size, 2, none⟩ (.int .i64 0)).alloc (.cells #[.int .i64 3, .int .i64 0, .int .i64 0, .int .i64 0] 42)).drew.cell? ⟨w1.heap.size, 3, none⟩ = some (.int .i64 0) := blk_cell hn1 rfl
  go_region_held3 (fun w' => w'.cell? ⟨w1.heap.size, 0, none⟩ = some (.int .i64 3) ∧ w'.cell? ⟨w1.heap.size, 1, none⟩ = some (.int .i64 0) ∧ w'.cell? ⟨w1.heap.size, 2, none⟩ = some (.int .i64 0) ∧ w'.cell? ⟨w1.heap.size, 3, none⟩ = some (.int .i64 0)) (first | (exact ⟨n0, n1, n2, n3⟩) | (exact ⟨q0, q1, q2, q3⟩) | go_keep) (fail)
  all_goals (
    go_wp2_with fail
    refine leaves_cons (f := 17) (args := #[.pointer none]) (by simp) (by simp [go_sem]) ?_
    refine HD.out.mono ?_
    rintro e u' w8 ⟨rfl, rfl, rfl⟩
    have m0 := HB6.out.1.cell0
    have m1 := HB6.out.1.cell1
    have m2 := HB6.out.1.cell2
    exact ⟨.tuple #[.slice none 0 0, .int .i64 3, .agg #[.int .i64 0, .int .i64 0, .int .i64 0]], by simp [results, Tryd.f9, go_sem, m0, m1, m2], rfl, HB6.out.2⟩)

end Go.Proofs.YtnmjkgjhjnpijaaDoor
