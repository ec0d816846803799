import Derived.Test.YtkglkhijngpgiaaGreatCr
set_option linter.unusedVariables false
set_option linter.unusedSimpArgs false
namespace Go.Proofs.YtkglkhijngpgiaaGreat
open Go.RowKit

/-! Put, Close, Depth, New. -/
theorem note_any {g : Nat} {D : Nat → Prop} {W : World} {n : Int} {K : List It} {E : List Ev} {vs vt : Value} (h : Ps g D W n K E vs vt) (t : Tv) (h7 : (t.k == 7 || t.k == 8) = true) (hE : E.length ≤ 1000000000) :
    Calls Tryz.prog 22 #[pt g, t.v] W fun e w' => e = .returned (.int .i64 0) ∧ Gone g D vs vt W w' n K (E ++ [⟨4, 0, t⟩]) := by
  have hb : Below W.heap.size W (W.alloc (.cells #[.int .u8 t.k, .string t.t, .int .i64 t.a, .int .i64 t.l, .int .i64 t.c, .int .i64 t.f] 35)) := below_new _ _
  have HT : Hid (Calls Tryz.prog 33 #[pt g, .agg #[.int .u8 4, .int .u8 0, .int .u8 t.k, .string t.t, .int .i64 t.a, .int .i64 t.l, .int .i64 t.c, .int .i64 t.f]] (W.alloc (.cells #[.int .u8 t.k, .string t.t, .int .i64 t.a, .int .i64 t.l, .int .i64 t.c, .int .i64 t.f] 35)) fun e w' => e = .returned (.tuple #[]) ∧ Gone g D vs vt W w' n K (E ++ [⟨4, 0, t⟩])) := tell_gone (h.quiet hb) ⟨4, 0, t⟩ hE
  clear h hb hE
  dsimp only [Tv.v]
  by_cases h1 : (t.k == 7) = true
  · clear h7
    go_enter Tryz.func22, Tryz.ntmps22
    go_wp2_with fail
    refine wp_scope_jumps 0 (fun _ _ => False) (fun _ _ => 0) rfl ?_ (fun _ _ h => h.elim)
    go_wp2_with (go_at_call 33; refine HT.out.mono ?_; rintro e w3 ⟨rfl, hG3⟩; have HG3 : Hid (Gone g D vs vt W w3 n K (E ++ [⟨4, 0, t⟩])) := hG3; clear hG3)
    simp only [Exit.jump]
    go_ret
    exact ⟨rfl, HG3.out⟩
  · have h2 : (t.k == 7) = false := by simpa using h1
    have h3 : (t.k == 8) = true := by rw [h2] at h7; simpa using h7
    clear h7 h1
    go_enter Tryz.func22, Tryz.ntmps22
    go_wp2_with fail
    refine wp_scope_jumps 0 (fun _ _ => False) (fun _ _ => 0) rfl ?_ (fun _ _ h => h.elim)
    go_wp2_with (go_at_call 33; refine HT.out.mono ?_; rintro e w3 ⟨rfl, hG3⟩; have HG3 : Hid (Gone g D vs vt W w3 n K (E ++ [⟨4, 0, t⟩])) := hG3; clear hG3)
    simp only [Exit.jump]
    go_ret
    exact ⟨rfl, HG3.out⟩

theorem refusal_any {W : World} {g : Nat} {c : Bool} {e n : Int} {vs vt : Value} (h : PB W g c e n vs vt) : Calls Tryz.prog 20 #[pt g] W fun r w' => r = .returned (.int .i64 (if c then 4 else e)) ∧ w' = W := by
  obtain ⟨c0, c1, c2, c3, c4⟩ := h.cells
  clear h
  cases c
  · go_enter Tryz.func20, Tryz.ntmps20
    go_wp2_with fail
    go_ret
    exact ⟨rfl, rfl⟩
  · go_enter Tryz.func20, Tryz.ntmps20
    go_wp2_with fail
    go_ret
    exact ⟨rfl, rfl⟩
theorem refusal_nil (W : World) : Calls Tryz.prog 20 #[.pointer none] W fun r w' => r = .returned (.int .i64 3) ∧ w' = W := by
  go_enter Tryz.func20, Tryz.ntmps20
  go_wp2_with fail
  go_ret
  exact ⟨rfl, rfl⟩
theorem depth_any {W : World} {g : Nat} {c : Bool} {e n : Int} {vs vt : Value} (h : PB W g c e n vs vt) : Calls Tryz.prog 13 #[pt g] W fun r w' => r = .returned (.int .i64 n) ∧ w' = W := by
  obtain ⟨c0, c1, c2, c3, c4⟩ := h.cells
  clear h
  go_enter Tryz.func13, Tryz.ntmps13
  go_wp2_with fail
  go_ret
  exact ⟨rfl, rfl⟩
theorem depth_nil (W : World) : Calls Tryz.prog 13 #[.pointer none] W fun r w' => r = .returned (.int .i64 0) ∧ w' = W := by
  go_enter Tryz.func13, Tryz.ntmps13
  go_wp2_with fail
  go_ret
  exact ⟨rfl, rfl⟩
abbrev nilS : Value := .slice none 0 0
theorem new_any (W : World) : Calls Tryz.prog 5 #[] W fun r w' => r = .returned (pt W.heap.size) ∧ w' = W.alloc (.cells #[.bool false, .int .i64 0, .int .i64 0, nilS, nilS] 46) := by
  go_enter Tryz.func5, Tryz.ntmps5
  go_wp2_with fail
  go_ret
  exact ⟨rfl, rfl⟩
theorem shut_any {W : World} {g : Nat} {c : Bool} {e n : Int} {vs vt : Value} (h : PB W g c e n vs vt) : Calls Tryz.prog 23 #[pt g] W fun r w' => r = .returned (.tuple #[]) ∧ PB w' g true 0 0 nilS nilS ∧ Kp (fun k => k = g) W w' := by
  obtain ⟨c0, c1, c2, c3, c4⟩ := h.cells
  have f0 := h.frozen 0
  have f1 := h.frozen 1
  have f2 := h.frozen 2
  have f3 := h.frozen 3
  have f4 := h.frozen 4
  have HP : Hid (PB W g c e n vs vt) := h
  have HX : Hid (PB (((((W.setCell ⟨g, 0, none⟩ (.bool true)).setCell ⟨g, 1, none⟩ (.int .i64 0)).setCell ⟨g, 2, none⟩ (.int .i64 0)).setCell ⟨g, 3, none⟩ nilS).setCell ⟨g, 4, none⟩ nilS) g true 0 0 nilS nilS ∧ Kp (fun k => k = g) W (((((W.setCell ⟨g, 0, none⟩ (.bool true)).setCell ⟨g, 1, none⟩ (.int .i64 0)).setCell ⟨g, 2, none⟩ (.int .i64 0)).setCell ⟨g, 3, none⟩ nilS).setCell ⟨g, 4, none⟩ nilS)) :=
    ⟨blk_set (blk_set (blk_set (blk_set (blk_set h 0 _) 1 _) 2 _) 3 _) 4 _, (((((Kp.set W g 0 _).trans (Kp.set _ g 1 _)).trans (Kp.set _ g 2 _)).trans (Kp.set _ g 3 _)).trans (Kp.set _ g 4 _))⟩
  clear h
  go_enter Tryz.func23, Tryz.ntmps23
  go_wp2_with fail
  go_end0
  exact ⟨rfl, HX.out⟩
theorem shut_nil (W : World) : Calls Tryz.prog 23 #[.pointer none] W fun r w' => r = .returned (.tuple #[]) ∧ w' = W := by
  go_enter Tryz.func23, Tryz.ntmps23
  go_wp2_with fail
  go_end0
  exact ⟨rfl, rfl⟩

end Go.Proofs.YtkglkhijngpgiaaGreat

set_option linter.unusedVariables false
set_option linter.unusedSimpArgs false
namespace Go.Proofs.YtkglkhijngpgiaaGreat
open Go.RowKit

/-! The parser as its caller sees it. -/
inductive St | live (K : List It) (n : Int) | stuck (e n : Int) | shut
/-- What begins with the first token. -/
def beg (K : List It) (n : Int) : List It := if n == 0 then progR ++ .lv 1 :: K else K
def begN (n : Int) : Int := if n == 0 then 1 else n
def begE (n : Int) : List Ev := if n == 0 then [⟨1, 1, tv0⟩] else []
/-- Put: what is told, the error, the parser behind it. -/
inductive Putr (t : Tv) : St → List Ev → Int → St → Prop
  | shut : Putr t .shut [] 4 .shut
  | stuck {e n : Int} : Putr t (.stuck e n) [] e (.stuck e n)
  | note {K : List It} {n : Int} : (t.k == 7 || t.k == 8) = true → Putr t (.live K n) (begE n ++ [⟨4, 0, t⟩]) 0 (.live (beg K n) (begN n))
  | no {K : List It} {n : Int} {k : Nat} : (t.k == 7 || t.k == 8) = false → Ru t k (beg K n) (begN n) (begE n) .no → k ≤ (beg K n).length + 20 → Putr t (.live K n) [] 120 (.stuck 120 n)
  | deep {K L : List It} {n m : Int} {E : List Ev} {k : Nat} : (t.k == 7 || t.k == 8) = false → Ru t k (beg K n) (begN n) (begE n) (.yes L m E) → k ≤ (beg K n).length + 20 → 1000 < m → Putr t (.live K n) [] 122 (.stuck 122 n)
  | yes {K L : List It} {n m : Int} {E : List Ev} {k : Nat} : (t.k == 7 || t.k == 8) = false → Ru t k (beg K n) (begN n) (begE n) (.yes L m E) → k ≤ (beg K n).length + 20 → m ≤ 1000 → Putr t (.live K n) (E ++ [⟨2, 0, t⟩]) 0 (.live L m)
/-- Of a size. -/
structure Lz (K : List It) (n : Int) : Prop where
  wf : wfs K
  lv : ((lvs K).length : Int) = n
  sn : (lvs K).length ≤ 5000000
  sk : K.length ≤ 500000
def St.ok : St → Prop
  | .live K n => Lz K n
  | .stuck e n => e ≠ 0
  | .shut => True
/-- In memory; S: all blocks of its own. -/
structure Lv1 (S : Nat → Prop) (W : World) (g : Nat) (K : List It) (n : Int) (D : Nat → Prop) (vs : Value) : Prop where
  ps : Ps g D W n K [] vs nilS
  sg : S g
  ss : ∀ k, vs.ownBlock = some k → S k
  sd : ∀ k, D k → S k
def Pq (S : Nat → Prop) (W : World) (g : Nat) : St → Prop
  | .live K n => ∃ D vs, Lv1 S W g K n D vs
  | .stuck e n => PB W g false e n nilS nilS ∧ S g
  | .shut => PB W g true 0 0 nilS nilS ∧ S g
theorem Pq.kp {S U : Nat → Prop} {W W' : World} {g : Nat} {st : St} (h : Pq S W g st) (hk : Kp U W W') (hU : ∀ k, S k → ¬ U k) : Pq S W' g st := by
  cases st with
  | live K n =>
    obtain ⟨D, vs, h⟩ := h
    obtain ⟨xs, h1, h2⟩ := h.ps.st
    exact ⟨D, vs, ⟨h.ps.pb.kp hk (hU g h.sg), ⟨xs, h1.kp hk (fun k e => hU k (h.ss k e)), h2.mono (fun v x hx => hx.turn (fun _ h => h) (fun k o hd ho => hk.blk ho (hU k (h.sd k hd))))⟩, h.ps.ev.kp hk (fun k e => by cases e), h.ps.dg, h.ps.ds, h.ps.dt, fun k hd => Nat.lt_of_lt_of_le (h.ps.dl k hd) hk.size⟩, h.sg, h.ss, h.sd⟩
  | stuck e n => exact ⟨h.1.kp hk (hU g h.2), h.2⟩
  | shut => exact ⟨h.1.kp hk (hU g h.2), h.2⟩
theorem Pq.below {S : Nat → Prop} {W W' : World} {g : Nat} {st : St} (h : Pq S W g st) (hb : Below W.heap.size W W') : Pq S W' g st := h.kp (Kp.of_below (S := fun _ => False) hb) (fun _ _ h => h)
theorem Pq.pb {S : Nat → Prop} {W : World} {g : Nat} {st : St} (h : Pq S W g st) : (∃ c e n vs, PB W g c e n vs nilS) ∧ S g := by
  cases st with
  | live K n => obtain ⟨D, vs, h⟩ := h; exact ⟨⟨_, _, _, _, h.ps.pb⟩, h.sg⟩
  | stuck e n => exact ⟨⟨_, _, _, _, h.1⟩, h.2⟩
  | shut => exact ⟨⟨_, _, _, _, h.1⟩, h.2⟩
/-- What a call leaves: its row is new, and not the parser's. -/
structure Pa (S : Nat → Prop) (g : Nat) (W W' : World) (v : Value) (ev : List Ev) (st : St) : Prop where
  re : Re W' v ev
  ex : ∃ S', Pq S' W' g st ∧ (∀ k, S k → S' k) ∧ (∀ k, S' k → S k ∨ (W.heap.size ≤ k ∧ k < W'.heap.size)) ∧ (∀ k, v.ownBlock = some k → W.heap.size ≤ k ∧ ¬ S' k)
  kp : Kp S W W'
theorem pa_nil {S : Nat → Prop} {g : Nat} {W W' : World} {st : St} (h : Pq S W' g st) (hk : Kp S W W') : Pa S g W W' nilS [] st :=
  ⟨re_nil _, ⟨S, h, fun _ h => h, fun _ h => .inl h, fun k e => by cases e⟩, hk⟩
/-- The told row is handed over. -/
theorem pa_told {S : Nat → Prop} {g : Nat} {W w : World} {K K' : List It} {n n' : Int} {D : Nat → Prop} {vs : Value} (h : Lv1 S W g K n D vs) (hl : ∀ k, S k → k < W.heap.size) {E : List Ev} (hG : Gone g D vs nilS W w n' K' E) :
    ∃ vs' vt', PB w g false 0 n' vs' vt' ∧ Pa S g W (w.setCell ⟨g, 4, none⟩ nilS) vt' E (.live K' n') := by
  obtain ⟨D1, vs1, vt1, p1, k1, ns1, nt1, d1, d2⟩ := hG
  have hk := Kp.set w g 4 nilS
  obtain ⟨xs, h1, h2⟩ := p1.st
  have hvt : ∀ k, vt1.ownBlock = some k → W.heap.size ≤ k := by
    intro k e
    rcases nt1 with e1 | ⟨q, e1, hq⟩
    · rw [e1] at e; cases e
    · rw [e1] at e; simp at e; omega
  have hvs : ∀ k, vs1.ownBlock = some k → S k ∨ W.heap.size ≤ k := by
    intro k e
    rcases ns1 with e1 | ⟨q, e1, hq⟩
    · exact .inl (h.ss k (by rw [← e1]; exact e))
    · rw [e1] at e; simp at e; exact .inr (by omega)
  have hsz : (w.setCell ⟨g, 4, none⟩ nilS).heap.size = w.heap.size := by show (w.heap.modify g _).size = _; rw [Array.size_modify]
  refine ⟨vs1, vt1, p1.pb, p1.ev.kp hk (p1.ev.ne p1.pb (by decide)), ⟨fun k => S k ∨ D1 k ∨ vs1.ownBlock = some k, ⟨D1, vs1, ⟨blk_set p1.pb 4 _, ⟨xs, h1.kp hk (h1.ne p1.pb (by decide)), h2.mono (fun v x hx => hx.turn (fun _ h => h) (fun k o hd ho => hk.blk ho (fun e => p1.dg (e ▸ hd))))⟩, re_nil _, p1.dg, p1.ds, (fun k e => by cases e), (fun k hd => by rw [hsz]; exact p1.dl k hd)⟩, .inl h.sg, fun k e => .inr (.inr e), fun k hd => .inr (.inl hd)⟩, fun k hk => .inl hk, ?_, ?_⟩, ?_⟩
  · rintro k (a | a | a)
    · exact .inl a
    · rcases d2 k a with b | b
      · exact .inl (h.sd k b)
      · exact .inr ⟨b, by rw [hsz]; exact p1.dl k a⟩
    · rcases hvs k a with b | b
      · exact .inl b
      · exact .inr ⟨b, by rw [hsz]; exact h1.lt k a⟩
  · intro k e
    refine ⟨hvt k e, ?_⟩
    rintro (a | a | a)
    · have := hl k a
      have := hvt k e
      omega
    · exact p1.dt k e a
    · obtain ⟨b, cap', cur, hv, hc⟩ : ∃ b cap' cur, vs1 = .slice (some ⟨b, 0, none⟩) xs.length cap' ∧ w.heap[b]? = some (.cells cur 69 (0, 0)) := by
        rcases h1.2 with ⟨e1, _⟩ | ⟨b, cap', cur, hv, _, h3, _⟩
        · rw [e1] at a; cases a
        · exact ⟨b, cap', cur, hv, h3⟩
      rw [hv] at a
      simp only [Value.ownBlock, Option.some.injEq] at a
      exact p1.ev.ne hc (by decide) k e a.symm
  · refine (k1.sub ?_).step hk (fun k _ e => by rw [e]; exact h.sg)
    rintro k (e | e | e)
    · rw [e]; exact h.sg
    · exact h.ss k e
    · cases e
/-- Behind an error. -/
theorem pa_err {S : Nat → Prop} {g : Nat} {W w : World} {K : List It} {n : Int} {D : Nat → Prop} {vs : Value} (h : Lv1 S W g K n D vs) {n' : Int} {K' : List It} {E : List Ev} (hG : Gone g D vs nilS W w n' K' E) (e m : Int) :
    (∃ vs' vt', PB w g false 0 n' vs' vt') ∧ PB (((((w.setCell ⟨g, 0, none⟩ (.bool false)).setCell ⟨g, 1, none⟩ (.int .i64 e)).setCell ⟨g, 2, none⟩ (.int .i64 m)).setCell ⟨g, 3, none⟩ nilS).setCell ⟨g, 4, none⟩ nilS) g false e m nilS nilS ∧
    Pa S g W ((((((w.setCell ⟨g, 0, none⟩ (.bool false)).setCell ⟨g, 1, none⟩ (.int .i64 e)).setCell ⟨g, 2, none⟩ (.int .i64 m)).setCell ⟨g, 3, none⟩ nilS).setCell ⟨g, 4, none⟩ nilS).setCell ⟨g, 4, none⟩ nilS) nilS [] (.stuck e m) := by
  obtain ⟨D1, vs1, vt1, p1, k1, _⟩ := hG
  have pb := blk_set (blk_set (blk_set (blk_set (blk_set p1.pb 0 (.bool false)) 1 (.int .i64 e)) 2 (.int .i64 m)) 3 nilS) 4 nilS
  refine ⟨⟨vs1, vt1, p1.pb⟩, pb, pa_nil ⟨blk_set pb 4 _, h.sg⟩ ?_⟩
  have k2 := ((((((Kp.set w g 0 (.bool false)).trans (Kp.set _ g 1 (.int .i64 e))).trans (Kp.set _ g 2 (.int .i64 m))).trans (Kp.set _ g 3 nilS)).trans (Kp.set _ g 4 nilS)).trans (Kp.set _ g 4 nilS))
  refine (k1.sub ?_).step k2 (fun k _ e => by rw [e]; exact h.sg)
  rintro k (e | e | e)
  · rw [e]; exact h.sg
  · exact h.ss k e
  · cases e

/-- Where the parser takes nothing any more. -/
theorem put_off {S : Nat → Prop} {W : World} {g : Nat} {st : St} (h : Pq S W g st) (hl : ∀ k, S k → k < W.heap.size) (t : Tv) {c : Bool} {e n : Int} (hp : PB W g c e n nilS nilS) (hc : (if c then 4 else e) ≠ 0) :
    Calls Tryz.prog 12 #[pt g, t.v] W fun r w' => r = .returned (.tuple #[nilS, .int .i64 (if c then 4 else e)]) ∧ Pa S g W w' nilS [] st := by
  obtain ⟨z, hz⟩ : ∃ z : Int, (if c then 4 else e) = z := ⟨_, rfl⟩
  rw [hz] at hc ⊢
  have hb : Below W.heap.size W (W.alloc (.cells #[.int .u8 t.k, .string t.t, .int .i64 t.a, .int .i64 t.l, .int .i64 t.c, .int .i64 t.f] 35)) := tok_below W t
  have HR : Hid (Calls Tryz.prog 20 #[pt g] (W.alloc (.cells #[.int .u8 t.k, .string t.t, .int .i64 t.a, .int .i64 t.l, .int .i64 t.c, .int .i64 t.f] 35)) fun r w' => r = .returned (.int .i64 z) ∧ w' = W.alloc (.cells #[.int .u8 t.k, .string t.t, .int .i64 t.a, .int .i64 t.l, .int .i64 t.c, .int .i64 t.f] 35)) := by
    have := refusal_any (hp.below hb)
    rw [hz] at this
    exact this
  have HX : Hid (Pa S g W (W.alloc (.cells #[.int .u8 t.k, .string t.t, .int .i64 t.a, .int .i64 t.l, .int .i64 t.c, .int .i64 t.f] 35)) nilS [] st) := pa_nil (h.below hb) (Kp.of_below hb)
  have hz1 : (z != 0) = true := by simpa using hc
  clear h hp hb hz hc hl
  dsimp only [Tv.v]
  go_enter Tryz.func12, Tryz.ntmps12
  go_wp2_with (go_at_call 20; refine HR.out.mono ?_; rintro r w1 ⟨rfl, rfl⟩)
  refine bodyPost_ret (v := .tuple #[nilS, .int .i64 z]) (by simp [results, Tryz.f12, go_sem]) rfl ?_
  exact ⟨rfl, HX.out⟩

end Go.Proofs.YtkglkhijngpgiaaGreat
