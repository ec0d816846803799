import Derived.Test.YtkglkhijngpgiaaGreatCu
import Derived.Defers
set_option linter.unusedVariables false
set_option linter.unusedSimpArgs false
namespace Go.Proofs.YtkglkhijngpgiaaGreat
open Go.RowKit

theorem shut_d (u : FrameMode) {W : World} {g : Nat} {c : Bool} {e n : Int} {vs vt : Value} (h : PB W g c e n vs vt) : CallsD Tryz.prog 23 #[pt g] u W fun r u' w' => u' = u ∧ (r = .returned (.tuple #[]) ∧ PB w' g true 0 0 nilS nilS ∧ Kp (fun k => k = g) W w') := by
  obtain ⟨c0, c1, c2, c3, c4⟩ := h.cells
  have f0 := h.frozen 0
  have f1 := h.frozen 1
  have f2 := h.frozen 2
  have f3 := h.frozen 3
  have f4 := h.frozen 4
  have HX : Hid (PB (((((W.setCell ⟨g, 0, none⟩ (.bool true)).setCell ⟨g, 1, none⟩ (.int .i64 0)).setCell ⟨g, 2, none⟩ (.int .i64 0)).setCell ⟨g, 3, none⟩ nilS).setCell ⟨g, 4, none⟩ nilS) g true 0 0 nilS nilS ∧ Kp (fun k => k = g) W (((((W.setCell ⟨g, 0, none⟩ (.bool true)).setCell ⟨g, 1, none⟩ (.int .i64 0)).setCell ⟨g, 2, none⟩ (.int .i64 0)).setCell ⟨g, 3, none⟩ nilS).setCell ⟨g, 4, none⟩ nilS)) :=
    ⟨blk_set (blk_set (blk_set (blk_set (blk_set h 0 _) 1 _) 2 _) 3 _) 4 _, (((((Kp.set W g 0 _).trans (Kp.set _ g 1 _)).trans (Kp.set _ g 2 _)).trans (Kp.set _ g 3 _)).trans (Kp.set _ g 4 _))⟩
  clear h
  go_enter_d Tryz.func23, Tryz.ntmps23
  go_wp2_with fail
  go_end0
  exact ⟨rfl, HX.out⟩
theorem shut_dnil (u : FrameMode) (W : World) : CallsD Tryz.prog 23 #[.pointer none] u W fun r u' w' => u' = u ∧ (r = .returned (.tuple #[]) ∧ w' = W) := by
  go_enter_d Tryz.func23, Tryz.ntmps23
  go_wp2_with fail
  go_end0
  exact ⟨rfl, rfl⟩
theorem close_off {S : Nat → Prop} {W : World} {g : Nat} {c : Bool} {e n : Int} {vs vt : Value} (h : PB W g c e n vs vt) (hS : S g) (hc : (if c then 4 else e) ≠ 0) :
    Calls Tryz.prog 14 #[pt g] W fun r w' => r = .returned (.tuple #[nilS, .int .i64 (if c then 4 else e)]) ∧ Pa S g W w' nilS [] .shut := by
  obtain ⟨z, hz⟩ : ∃ z : Int, (if c then 4 else e) = z := ⟨_, rfl⟩
  have HR : Hid (Calls Tryz.prog 20 #[pt g] W fun r w' => r = .returned (.int .i64 z) ∧ w' = W) := by
    have := refusal_any h
    rw [hz] at this
    exact this
  rw [hz] at hc ⊢
  have hz1 : (z != 0) = true := by simpa using hc
  have HD : Hid (CallsD Tryz.prog 23 #[pt g] .returning W fun r u' w' => u' = .returning ∧ (r = .returned (.tuple #[]) ∧ PB w' g true 0 0 nilS nilS ∧ Kp (fun k => k = g) W w')) := shut_d .returning h
  have HS : Hid (∀ w', PB w' g true 0 0 nilS nilS → Kp (fun k => k = g) W w' → Pa S g W w' nilS [] .shut) := fun w' hp hk => pa_nil ⟨hp, hS⟩ (hk.sub (fun k e => by rw [e]; exact hS))
  clear h hz hc hS
  go_enter_defers Tryz.func14, Tryz.ntmps14
  go_wp2_with (go_at_call 20; refine HR.out.mono ?_; rintro r w1 ⟨rfl, hw⟩; subst hw)
  refine leaves_cons (f := 23) (args := #[pt g]) (by simp) (by simp [go_sem]) ?_
  refine HD.out.mono ?_
  rintro r u' w2 ⟨rfl, rfl, hp, hk⟩
  exact ⟨_, (by simp [results, Tryz.f14, go_sem]), rfl, HS.out _ hp hk⟩
theorem re_new (W : World) (d : Ev) : Re (W.alloc (.cells #[.int .u8 d.k, .int .u8 d.n, .int .u8 d.d.k, .string d.d.t, .int .i64 d.d.a, .int .i64 d.d.l, .int .i64 d.d.c, .int .i64 d.d.f] 59)) (.slice (some ⟨W.heap.size, 0, none⟩) 1 1) [d] := by
  refine ⟨rfl, .inr ⟨_, 1, _, rfl, Nat.zero_le _, new_at W _, Nat.le_refl _, by unfold maxLen; omega, rfl, ?_⟩⟩
  simp [ecs, flat, Ev.cs]
/-- Close. -/
inductive Clor : St → List Ev → Int → Prop
  | shut : Clor .shut [] 4
  | stuck {e n : Int} : Clor (.stuck e n) [] e
  | all {K : List It} {n : Int} : K.length = 1 → Clor (.live K n) [⟨3, 1, tv0⟩] 0
  | open {K : List It} {n : Int} : K.length ≠ 1 → Clor (.live K n) [] 121
set_option maxHeartbeats 1000000 in
theorem close_live {S : Nat → Prop} {W : World} {g : Nat} {K : List It} {n : Int} {D : Nat → Prop} {vs : Value} (h : Lv1 S W g K n D vs) (hl : ∀ k, S k → k < W.heap.size) (hK : K.length ≤ 1000000) {ev : List Ev} {code : Int} (hp : Clor (.live K n) ev code) :
    Calls Tryz.prog 14 #[pt g] W fun r w' => ∃ v, r = .returned (.tuple #[v, .int .i64 code]) ∧ Pa S g W w' v ev .shut := by
  have HR : Hid (Calls Tryz.prog 20 #[pt g] W fun r w' => r = .returned (.int .i64 0) ∧ w' = W) := refusal_any h.ps.pb
  obtain ⟨xs, r1, r2⟩ := h.ps.st
  have hxl : xs.length = K.length := by rw [r2.len, List.length_reverse]
  obtain ⟨pp, cp, rfl, _⟩ := r1.shape
  obtain ⟨c0, c1, c2, c3, c4⟩ := h.ps.pb.cells
  have HD : Hid (∀ V, Below W.heap.size W V → CallsD Tryz.prog 23 #[pt g] .returning V fun r u' w' => u' = .returning ∧ (r = .returned (.tuple #[]) ∧ PB w' g true 0 0 nilS nilS ∧ Kp (fun k => k = g) V w')) := fun V hb => shut_d .returning (h.ps.pb.below hb)
  have hS := h.sg
  have HS : Hid (∀ w', PB w' g true 0 0 nilS nilS → Kp (fun k => k = g) W w' → Pa S g W w' nilS [] .shut) := fun w' hp hk => pa_nil ⟨hp, hS⟩ (hk.sub (fun k e => by rw [e]; exact hS))
  have HT : Hid (∀ w', PB w' g true 0 0 nilS nilS → Kp (fun k => k = g) (W.alloc (.cells #[.int .u8 3, .int .u8 1, .int .u8 0, .string ⟨#[]⟩, .int .i64 0, .int .i64 0, .int .i64 0, .int .i64 0] 59)) w' → Pa S g W w' (.slice (some ⟨W.heap.size, 0, none⟩) 1 1) [⟨3, 1, tv0⟩] .shut) := fun w' hp hk => by
    have hg := h.ps.pb.lt
    refine ⟨(re_new W ⟨3, 1, tv0⟩).kp hk (fun k e => ?_), ⟨S, ⟨hp, hS⟩, fun _ h => h, fun _ h => .inl h, fun k e => ?_⟩, ((Kp.of_below (below_new W _)).step hk (fun k _ e => by rw [e]; exact hS))⟩
    · cases e
      show ¬ W.heap.size = g
      omega
    · cases e
      exact ⟨Nat.le_refl _, fun h => absurd (hl _ h) (Nat.lt_irrefl _)⟩
  have HB : Hid (∀ o, Below W.heap.size W (W.alloc o)) := fun o => below_new W o
  have hgl := h.ps.pb.lt
  have HL : Hid (xs.length = K.length ∧ K.length ≤ 1000000) := ⟨hxl, hK⟩
  clear h hl hS r1 r2 hxl hK
  cases hp with
  | all h1 =>
    have q1 : ((xs.length : Int) != 1) = false := by rw [HL.out.1, h1]; rfl
    clear h1
    go_enter_defers Tryz.func14, Tryz.ntmps14
    go_wp2_with (go_at_call 20; refine HR.out.mono ?_; rintro r w1 ⟨rfl, hw⟩; subst hw)
    refine leaves_cons (f := 23) (args := #[pt g]) (by simp) (by simp [go_sem]) ?_
    refine (HD.out _ (HB.out _)).mono ?_
    rintro r u' w2 ⟨rfl, rfl, hp, hk⟩
    exact ⟨_, (by simp [results, Tryz.f14, go_sem]), _, rfl, HT.out _ hp hk⟩
  | «open» h1 =>
    have q1 : ((xs.length : Int) != 1) = true := by rw [HL.out.1]; simp; omega
    clear h1
    go_enter_defers Tryz.func14, Tryz.ntmps14
    go_wp2_with (go_at_call 20; refine HR.out.mono ?_; rintro r w1 ⟨rfl, hw⟩; subst hw)
    refine leaves_cons (f := 23) (args := #[pt g]) (by simp) (by simp [go_sem]) ?_
    refine (HD.out _ (Below.refl _ _)).mono ?_
    rintro r u' w2 ⟨rfl, rfl, hp, hk⟩
    exact ⟨_, (by simp [results, Tryz.f14, go_sem]), _, rfl, HS.out _ hp hk⟩

/-! The interface. -/
/-- Put, whatever the parser's state. -/
theorem put_any {S : Nat → Prop} {W : World} {g : Nat} {st : St} (h : Pq S W g st) (hl : ∀ k, S k → k < W.heap.size) (hz : st.ok) {t : Tv} {ev : List Ev} {code : Int} {st' : St} (hp : Putr t st ev code st') :
    Calls Tryz.prog 12 #[pt g, t.v] W fun r w' => ∃ v, r = .returned (.tuple #[v, .int .i64 code]) ∧ Pa S g W w' v ev st' := by
  cases st with
  | live K n => obtain ⟨D, vs, h⟩ := h; exact put_live h hl hz hp
  | stuck e n =>
    obtain ⟨rfl, rfl, rfl⟩ : ev = [] ∧ code = e ∧ st' = .stuck e n := by cases hp; exact ⟨rfl, rfl, rfl⟩
    refine (put_off (st := .stuck code n) h hl t (c := false) (e := code) (n := n) h.1 hz).mono ?_
    rintro r w' ⟨rfl, hP⟩
    exact ⟨_, rfl, hP⟩
  | shut =>
    cases hp
    refine (put_off (st := .shut) h hl t (c := true) (e := 0) (n := 0) h.1 (by decide)).mono ?_
    rintro r w' ⟨rfl, hP⟩
    exact ⟨_, rfl, hP⟩
theorem close_any {S : Nat → Prop} {W : World} {g : Nat} {st : St} (h : Pq S W g st) (hl : ∀ k, S k → k < W.heap.size) (hz : st.ok) {ev : List Ev} {code : Int} (hp : Clor st ev code) :
    Calls Tryz.prog 14 #[pt g] W fun r w' => ∃ v, r = .returned (.tuple #[v, .int .i64 code]) ∧ Pa S g W w' v ev .shut := by
  cases st with
  | live K n => obtain ⟨D, vs, h⟩ := h; exact close_live h hl (by have := hz.sk; omega) hp
  | stuck e n =>
    obtain ⟨rfl, rfl⟩ : ev = [] ∧ code = e := by cases hp; exact ⟨rfl, rfl⟩
    refine (close_off (c := false) (e := code) h.1 h.2 hz).mono ?_
    rintro r w' ⟨rfl, hP⟩
    exact ⟨_, rfl, hP⟩
  | shut =>
    cases hp
    refine (close_off (c := true) (e := 0) h.1 h.2 (by decide)).mono ?_
    rintro r w' ⟨rfl, hP⟩
    exact ⟨_, rfl, hP⟩
/-- How many nodes are open. -/
def St.depth : St → Int
  | .live K n => n
  | .stuck e n => n
  | .shut => 0
theorem depth_st {S : Nat → Prop} {W : World} {g : Nat} {st : St} (h : Pq S W g st) : Calls Tryz.prog 13 #[pt g] W fun r w' => r = .returned (.int .i64 st.depth) ∧ w' = W := by
  cases st with
  | live K n => obtain ⟨D, vs, h⟩ := h; exact depth_any h.ps.pb
  | stuck e n => exact depth_any h.1
  | shut => exact depth_any h.1
/-- A new parser. -/
theorem new_st (W : World) : Calls Tryz.prog 5 #[] W fun r w' => r = .returned (pt W.heap.size) ∧ Pq (fun k => k = W.heap.size) w' W.heap.size (.live [] 0) ∧ Below W.heap.size W w' ∧ w'.heap.size = W.heap.size + 1 := by
  refine (new_any W).mono ?_
  rintro r w' ⟨rfl, rfl⟩
  refine ⟨rfl, ⟨fun _ => False, nilS, ⟨new_at _ _, ⟨[], rs_nil _, .nil⟩, re_nil _, (fun h => h), (fun k e => by cases e), (fun k e => by cases e), (fun k h => False.elim h)⟩, rfl, (fun k e => by cases e), (fun k h => False.elim h)⟩, below_new _ _, by rw [World.size_alloc]⟩

end Go.Proofs.YtkglkhijngpgiaaGreat
