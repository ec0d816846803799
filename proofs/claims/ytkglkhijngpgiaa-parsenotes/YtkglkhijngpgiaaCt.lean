import Derived.Test.YtkglkhijngpgiaaCs
set_option linter.unusedVariables false
set_option linter.unusedSimpArgs false
namespace Go.Proofs.Ytkglkhijngpgiaa
open Go.RowKit

/-! The parser as its caller sees it. -/
inductive St | live (K : List It) (n : Int) | stuck (e n : Int) | shut
/-- What begins with the first token. -/
def beg (K : List It) (n : Int) : List It := if n == 0 then progR ++ .lv 1 :: K else K
def begN (n : Int) : Int := if n == 0 then 1 else n
def begE (n : Int) : List Ev := if n == 0 then [⟨1, 1, tv0⟩] else []
/-- Put: what is told, the error, the parser behind it. -/
inductive Putr (t : Tv) : St → List Ev → Int → St → Prop
  | shut : Putr t .shut [] 4 .shut
  | stuck {e n : Int} : Putr t (.stuck e n) [] e (.stuck e n)
  | note {K : List It} {n : Int} : (t.k == 7 || t.k == 8) = true → Putr t (.live K n) (begE n ++ [⟨4, 0, t⟩]) 0 (.live (beg K n) (begN n))
  | no {K : List It} {n : Int} {k : Nat} : (t.k == 7 || t.k == 8) = false → Ru t k (beg K n) (begN n) (begE n) .no → k ≤ (beg K n).length + 20 → Putr t (.live K n) [] 120 (.stuck 120 n)
  | deep {K L : List It} {n m : Int} {E : List Ev} {k : Nat} : (t.k == 7 || t.k == 8) = false → Ru t k (beg K n) (begN n) (begE n) (.yes L m E) → k ≤ (beg K n).length + 20 → 1000 < m → Putr t (.live K n) [] 122 (.stuck 122 n)
  | yes {K L : List It} {n m : Int} {E : List Ev} {k : Nat} : (t.k == 7 || t.k == 8) = false → Ru t k (beg K n) (begN n) (begE n) (.yes L m E) → k ≤ (beg K n).length + 20 → m ≤ 1000 → Putr t (.live K n) (E ++ [⟨2, 0, t⟩]) 0 (.live L m)
/-- Of a size. -/
structure Lz (K : List It) (n : Int) : Prop where
  wf : wfs K
  lv : ((lvs K).length : Int) = n
  sn : (lvs K).length ≤ 5000000
  sk : K.length ≤ 500000
def St.ok : St → Prop
  | .live K n => Lz K n
  | .stuck e n => e ≠ 0
  | .shut => True
/-- In memory; S: all blocks of its own. -/
structure Lv1 (S : Nat → Prop) (W : World) (g : Nat) (K : List It) (n : Int) (D : Nat → Prop) (vs : Value) : Prop where
  ps : Ps g D W n K [] vs nilS
  sg : S g
  ss : ∀ k, vs.ownBlock = some k → S k
  sd : ∀ k, D k → S k
def Pq (S : Nat → Prop) (W : World) (g : Nat) : St → Prop
  | .live K n => ∃ D vs, Lv1 S W g K n D vs
  | .stuck e n => PB W g false e n nilS nilS ∧ S g
  | .shut => PB W g true 0 0 nilS nilS ∧ S g
theorem Pq.kp {S U : Nat → Prop} {W W' : World} {g : Nat} {st : St} (h : Pq S W g st) (hk : Kp U W W') (hU : ∀ k, S k → ¬ U k) : Pq S W' g st := by
  cases st with
  | live K n =>
    obtain ⟨D, vs, h⟩ := h
    obtain ⟨xs, h1, h2⟩ := h.ps.st
    exact ⟨D, vs, ⟨h.ps.pb.kp hk (hU g h.sg), ⟨xs, h1.kp hk (fun k e => hU k (h.ss k e)), h2.mono (fun v x hx => hx.turn (fun _ h => h) (fun k o hd ho => hk.blk ho (hU k (h.sd k hd))))⟩, h.ps.ev.kp hk (fun k e => by cases e), h.ps.dg, h.ps.ds, h.ps.dt, fun k hd => Nat.lt_of_lt_of_le (h.ps.dl k hd) hk.size⟩, h.sg, h.ss, h.sd⟩
  | stuck e n => exact ⟨h.1.kp hk (hU g h.2), h.2⟩
  | shut => exact ⟨h.1.kp hk (hU g h.2), h.2⟩
theorem Pq.below {S : Nat → Prop} {W W' : World} {g : Nat} {st : St} (h : Pq S W g st) (hb : Below W.heap.size W W') : Pq S W' g st := h.kp (Kp.of_below (S := fun _ => False) hb) (fun _ _ h => h)
theorem Pq.pb {S : Nat → Prop} {W : World} {g : Nat} {st : St} (h : Pq S W g st) : (∃ c e n vs, PB W g c e n vs nilS) ∧ S g := by
  cases st with
  | live K n => obtain ⟨D, vs, h⟩ := h; exact ⟨⟨_, _, _, _, h.ps.pb⟩, h.sg⟩
  | stuck e n => exact ⟨⟨_, _, _, _, h.1⟩, h.2⟩
  | shut => exact ⟨⟨_, _, _, _, h.1⟩, h.2⟩
/-- What a call leaves: its row is new, and not the parser's. -/
structure Pa (S : Nat → Prop) (g : Nat) (W W' : World) (v : Value) (ev : List Ev) (st : St) : Prop where
  re : Re W' v ev
  ex : ∃ S', Pq S' W' g st ∧ (∀ k, S k → S' k) ∧ (∀ k, S' k → S k ∨ (W.heap.size ≤ k ∧ k < W'.heap.size)) ∧ (∀ k, v.ownBlock = some k → W.heap.size ≤ k ∧ ¬ S' k)
  kp : Kp S W W'
theorem pa_nil {S : Nat → Prop} {g : Nat} {W W' : World} {st : St} (h : Pq S W' g st) (hk : Kp S W W') : Pa S g W W' nilS [] st :=
  ⟨re_nil _, ⟨S, h, fun _ h => h, fun _ h => .inl h, fun k e => by cases e⟩, hk⟩
/-- The told row is handed over. -/
theorem pa_told {S : Nat → Prop} {g : Nat} {W w : World} {K K' : List It} {n n' : Int} {D : Nat → Prop} {vs : Value} (h : Lv1 S W g K n D vs) (hl : ∀ k, S k → k < W.heap.size) {E : List Ev} (hG : Gone g D vs nilS W w n' K' E) :
    ∃ vs' vt', PB w g false 0 n' vs' vt' ∧ Pa S g W (w.setCell ⟨g, 4, none⟩ nilS) vt' E (.live K' n') := by
  obtain ⟨D1, vs1, vt1, p1, k1, ns1, nt1, d1, d2⟩ := hG
  have hk := Kp.set w g 4 nilS
  obtain ⟨xs, h1, h2⟩ := p1.st
  have hvt : ∀ k, vt1.ownBlock = some k → W.heap.size ≤ k := by
    intro k e
    rcases nt1 with e1 | ⟨q, e1, hq⟩
    · rw [e1] at e; cases e
    · rw [e1] at e; simp at e; omega
  have hvs : ∀ k, vs1.ownBlock = some k → S k ∨ W.heap.size ≤ k := by
    intro k e
    rcases ns1 with e1 | ⟨q, e1, hq⟩
    · exact .inl (h.ss k (by rw [← e1]; exact e))
    · rw [e1] at e; simp at e; exact .inr (by omega)
  have hsz : (w.setCell ⟨g, 4, none⟩ nilS).heap.size = w.heap.size := by show (w.heap.modify g _).size = _; rw [Array.size_modify]
  refine ⟨vs1, vt1, p1.pb, p1.ev.kp hk (p1.ev.ne p1.pb (by decide)), ⟨fun k => S k ∨ D1 k ∨ vs1.ownBlock = some k, ⟨D1, vs1, ⟨blk_set p1.pb 4 _, ⟨xs, h1.kp hk (h1.ne p1.pb (by decide)), h2.mono (fun v x hx => hx.turn (fun _ h => h) (fun k o hd ho => hk.blk ho (fun e => p1.dg (e ▸ hd))))⟩, re_nil _, p1.dg, p1.ds, (fun k e => by cases e), (fun k hd => by rw [hsz]; exact p1.dl k hd)⟩, .inl h.sg, fun k e => .inr (.inr e), fun k hd => .inr (.inl hd)⟩, fun k hk => .inl hk, ?_, ?_⟩, ?_⟩
  · rintro k (a | a | a)
    · exact .inl a
    · rcases d2 k a with b | b
      · exact .inl (h.sd k b)
      · exact .inr ⟨b, by rw [hsz]; exact p1.dl k a⟩
    · rcases hvs k a with b | b
      · exact .inl b
      · exact .inr ⟨b, by rw [hsz]; exact h1.lt k a⟩
  · intro k e
    refine ⟨hvt k e, ?_⟩
    rintro (a | a | a)
    · have := hl k a
      have := hvt k e
      omega
    · exact p1.dt k e a
    · obtain ⟨b, cap', cur, hv, hc⟩ : ∃ b cap' cur, vs1 = .slice (some ⟨b, 0, none⟩) xs.length cap' ∧ w.heap[b]? = some (.cells cur 56 (0, 0)) := by
        rcases h1.2 with ⟨e1, _⟩ | ⟨b, cap', cur, hv, _, h3, _⟩
        · rw [e1] at a; cases a
        · exact ⟨b, cap', cur, hv, h3⟩
      rw [hv] at a
      simp only [Value.ownBlock, Option.some.injEq] at a
      exact p1.ev.ne hc (by decide) k e a.symm
  · refine (k1.sub ?_).step hk (fun k _ e => by rw [e]; exact h.sg)
    rintro k (e | e | e)
    · rw [e]; exact h.sg
    · exact h.ss k e
    · cases e
/-- Behind an error. -/
theorem pa_err {S : Nat → Prop} {g : Nat} {W w : World} {K : List It} {n : Int} {D : Nat → Prop} {vs : Value} (h : Lv1 S W g K n D vs) {n' : Int} {K' : List It} {E : List Ev} (hG : Gone g D vs nilS W w n' K' E) (e m : Int) :
    (∃ vs' vt', PB w g false 0 n' vs' vt') ∧ PB (((((w.setCell ⟨g, 0, none⟩ (.bool false)).setCell ⟨g, 1, none⟩ (.int .i64 e)).setCell ⟨g, 2, none⟩ (.int .i64 m)).setCell ⟨g, 3, none⟩ nilS).setCell ⟨g, 4, none⟩ nilS) g false e m nilS nilS ∧
    Pa S g W ((((((w.setCell ⟨g, 0, none⟩ (.bool false)).setCell ⟨g, 1, none⟩ (.int .i64 e)).setCell ⟨g, 2, none⟩ (.int .i64 m)).setCell ⟨g, 3, none⟩ nilS).setCell ⟨g, 4, none⟩ nilS).setCell ⟨g, 4, none⟩ nilS) nilS [] (.stuck e m) := by
  obtain ⟨D1, vs1, vt1, p1, k1, _⟩ := hG
  have pb := blk_set (blk_set (blk_set (blk_set (blk_set p1.pb 0 (.bool false)) 1 (.int .i64 e)) 2 (.int .i64 m)) 3 nilS) 4 nilS
  refine ⟨⟨vs1, vt1, p1.pb⟩, pb, pa_nil ⟨blk_set pb 4 _, h.sg⟩ ?_⟩
  have k2 := ((((((Kp.set w g 0 (.bool false)).trans (Kp.set _ g 1 (.int .i64 e))).trans (Kp.set _ g 2 (.int .i64 m))).trans (Kp.set _ g 3 nilS)).trans (Kp.set _ g 4 nilS)).trans (Kp.set _ g 4 nilS))
  refine (k1.sub ?_).step k2 (fun k _ e => by rw [e]; exact h.sg)
  rintro k (e | e | e)
  · rw [e]; exact h.sg
  · exact h.ss k e
  · cases e

/-- Where the parser takes nothing any more. -/
theorem put_off {S : Nat → Prop} {W : World} {g : Nat} {st : St} (h : Pq S W g st) (hl : ∀ k, S k → k < W.heap.size) (t : Tv) {c : Bool} {e n : Int} (hp : PB W g c e n nilS nilS) (hc : (if c then 4 else e) ≠ 0) :
    Calls Try.prog 12 #[pt g, t.v] W fun r w' => r = .returned (.tuple #[nilS, .int .i64 (if c then 4 else e)]) ∧ Pa S g W w' nilS [] st := by
  obtain ⟨z, hz⟩ : ∃ z : Int, (if c then 4 else e) = z := ⟨_, rfl⟩
  rw [hz] at hc ⊢
  have hb : Below W.heap.size W (W.alloc (.cells #[.int .u8 t.k, .string t.t, .int .i64 t.a, .int .i64 t.l, .int .i64 t.c, .int .i64 t.f] 35)) := tok_below W t
  have HR : Hid (Calls Try.prog 15 #[pt g] (W.alloc (.cells #[.int .u8 t.k, .string t.t, .int .i64 t.a, .int .i64 t.l, .int .i64 t.c, .int .i64 t.f] 35)) fun r w' => r = .returned (.int .i64 z) ∧ w' = W.alloc (.cells #[.int .u8 t.k, .string t.t, .int .i64 t.a, .int .i64 t.l, .int .i64 t.c, .int .i64 t.f] 35)) := by
    have := refusal_any (hp.below hb)
    rw [hz] at this
    exact this
  have HX : Hid (Pa S g W (W.alloc (.cells #[.int .u8 t.k, .string t.t, .int .i64 t.a, .int .i64 t.l, .int .i64 t.c, .int .i64 t.f] 35)) nilS [] st) := pa_nil (h.below hb) (Kp.of_below hb)
  have hz1 : (z != 0) = true := by simpa using hc
  clear h hp hb hz hc hl
  dsimp only [Tv.v]
  go_enter Try.func12, Try.ntmps12
  go_wp2_with (go_at_call 15; refine HR.out.mono ?_; rintro r w1 ⟨rfl, rfl⟩)
  refine bodyPost_ret (v := .tuple #[nilS, .int .i64 z]) (by simp [results, Try.f12, go_sem]) rfl ?_
  exact ⟨rfl, HX.out⟩

end Go.Proofs.Ytkglkhijngpgiaa
