import Derived.Test.YtkglkhijngpgiaaGreatZa1
set_option linter.unusedVariables false
set_option linter.unusedSimpArgs false
namespace Go.Proofs.YtkglkhijngpgiaaGreat
open Go.RowKit

/-! A pair: the parser and the document's, over one course of tokens. -/
structure PS (own : Nat → Prop) (W : World) (gl gr m : Nat) : Prop where
  lt : ∀ q, own q → q < W.heap.size
  gl0 : own gl
  gr0 : own gr
  ex : ∃ S U st T now e c vL vN, Pq S W gl st ∧ Good st ∧ DP U W gr T now e c vL vN ∧ (∀ q, S q → own q ∧ ¬ U q) ∧ (∀ q, U q → own q) ∧ Rel st T now e c ∧ T.length ≤ m
theorem PS.kp {own V : Nat → Prop} {W W' : World} {gl gr m : Nat} (h : PS own W gl gr m) (hk : Kp V W W') (hV : ∀ q, own q → ¬ V q) : PS own W' gl gr m := by
  obtain ⟨S, U, st, T, now, e, c, vL, vN, h1, h2, h3, h4, h5, h6, h7⟩ := h.ex
  exact ⟨fun q hq => Nat.lt_of_lt_of_le (h.lt q hq) hk.size, h.gl0, h.gr0, S, U, st, T, now, e, c, vL, vN, h1.kp hk (fun q hq => hV q (h4 q hq).1), h2, h3.kp hk (fun q hq => hV q (h5 q hq)), h4, h5, h6, h7⟩
theorem PS.below {own : Nat → Prop} {W W' : World} {gl gr m : Nat} (h : PS own W gl gr m) (hb : Below W.heap.size W W') : PS own W' gl gr m := h.kp (Kp.of_below (S := fun _ => False) hb) (fun _ _ h => h)
/-- The pair behind a call. -/
structure Pnx (own : Nat → Prop) (W w' : World) (gl gr m : Nat) (own' : Nat → Prop) : Prop where
  ps : PS own' w' gl gr m
  sub : ∀ q, own' q → own q ∨ W.heap.size ≤ q
  kp : Kp own W w'
theorem Pnx.below {own own' : Nat → Prop} {W w' w2 : World} {gl gr m : Nat} (h : Pnx own W w' gl gr m own') (hb : Below w'.heap.size w' w2) : Pnx own W w2 gl gr m own' := ⟨h.ps.below hb, h.sub, h.kp.step (Kp.of_below (S := fun _ => False) hb) (fun _ _ h => h.elim)⟩
theorem rel_depth {st : St} {T : List Tv} {now : List (Int × Nat)} {e : Int} {c : Bool} (h : Rel st T now e c) : st.depth = if c then 0 else (now.length : Int) := by
  cases st with
  | live K n => obtain ⟨_, rfl, hd⟩ := h; exact hd.len.symm
  | stuck e2 n => obtain ⟨_, rfl, _, hn, _⟩ := h; exact hn.symm
  | shut => have hc : c = true := h.1; subst hc; rfl
/-- Both tell how many nodes are open. -/
def Dps (W : World) (gl gr : Nat) : Prop := ∃ n : Int, (∀ V, Below W.heap.size W V → Calls Tryz.prog 13 #[pt gl] V fun e w' => e = .returned (.int .i64 n) ∧ Below V.heap.size V w') ∧ (∀ V, Below W.heap.size W V → Calls Tryz.prog 18 #[pt gr] V fun e w' => e = .returned (.int .i64 n) ∧ Below V.heap.size V w')
theorem dps_of {S U : Nat → Prop} {W : World} {gl gr : Nat} {st : St} {T : List Tv} {now : List (Int × Nat)} {e : Int} {c : Bool} {vL vN : Value} (h1 : Pq S W gl st) (h3 : DP U W gr T now e c vL vN) (h6 : Rel st T now e c) : Dps W gl gr := by
  refine ⟨st.depth, fun V hb => (depth_st (h1.below hb)).mono ?_, fun V hb => ?_⟩
  · rintro e w' ⟨rfl, rfl⟩
    exact ⟨rfl, Below.refl _ _⟩
  · rw [rel_depth h6]
    refine (rdepth_any (h3.below hb) (by have := rel_now h6; omega)).mono ?_
    rintro e w' ⟨rfl, rfl⟩
    exact ⟨rfl, Below.refl _ _⟩
theorem ps_step {own S U : Nat → Prop} {W W1 w2 w3 w4 w5 : World} {gl gr m : Nat} {va vb : Value} {ev ev2 : List Ev} {st' : St} {T' : List Tv} {now' : List (Int × Nat)} {e' : Int} {c' : Bool}
    (hlt : ∀ q, own q → q < W.heap.size) (hgl : own gl) (hgr : U gr) (hS : ∀ q, S q → own q ∧ ¬ U q) (hU : ∀ q, U q → own q) (hbW : Below W.heap.size W W1) (hpa : Pa S gl W1 w2 va ev st') (hda : DA U gr w2 w3 vb ev2 T' now' e' c') (hb4 : Below w3.heap.size w3 w4) (hk5 : Kp (fun k => some k = va.ownBlock) w4 w5) (hg' : Good st') (hrel : Rel st' T' now' e' c') (hT : T'.length ≤ m) :
    (∃ own', Pnx own W w5 gl gr m own') ∧ Dps w5 gl gr := by
  obtain ⟨S', p1, p2, p3, p4⟩ := hpa.ex
  obtain ⟨U', vL, vN, d1, d2, d3, d4⟩ := hda.ex
  have s1 := hbW.size
  have s2 := hpa.kp.size
  have s3 := hda.kp.size
  have s4 := hb4.size
  have s5 := hk5.size
  have hSl : ∀ q, S q → q < W.heap.size := fun q hq => hlt q (hS q hq).1
  have hUl : ∀ q, U q → q < W.heap.size := fun q hq => hlt q (hU q hq)
  have hgrl := hUl gr hgr
  have hSgr : ¬ S' gr := fun hs => by
    rcases p3 gr hs with a | a
    · exact (hS gr a).2 hgr
    · omega
  have q3 : Pq S' w3 gl st' := p1.kp hda.kp (fun k hk e => hSgr (e ▸ hk))
  have q4 := q3.below hb4
  have va2 : ∀ k, va.ownBlock = some k → W1.heap.size ≤ k ∧ k < w2.heap.size := fun k e => ⟨(p4 k e).1, hpa.re.lt k e⟩
  have q5 : Pq S' w5 gl st' := q4.kp hk5 (fun k hk e => (p4 k e.symm).2 hk)
  have d5 : DP U' w5 gr T' now' e' c' vL vN := (d1.below hb4).kp hk5 (fun k hk e => by
    have := va2 k e.symm
    rcases d3 k hk with a | a
    · have := hUl k a; omega
    · omega)
  have hdis : ∀ q, S' q → ¬ U' q := fun q hs hu => by
    rcases p3 q hs with a | a
    · rcases d3 q hu with b | b
      · exact (hS q a).2 b
      · have := hSl q a; omega
    · rcases d3 q hu with b | b
      · have := hUl q b; omega
      · omega
  refine ⟨⟨fun q => S' q ∨ U' q, ⟨?_, .inl ?_, .inr (d2 gr hgr), S', U', st', T', now', e', c', vL, vN, q5, hg', d5, fun q hq => ⟨.inl hq, hdis q hq⟩, fun q hq => .inr hq, hrel, hT⟩, ?_, ?_⟩, dps_of q5 d5 hrel⟩
  · intro q hq
    rcases hq with hq | hq
    · rcases p3 q hq with a | a
      · have := hSl q a; omega
      · omega
    · rcases d3 q hq with a | a
      · have := hUl q a; omega
      · omega
  · exact p1.pb.2
  · intro q hq
    rcases hq with hq | hq
    · rcases p3 q hq with a | a
      · exact .inl (hS q a).1
      · exact .inr (by omega)
    · rcases d3 q hq with a | a
      · exact .inl (hU q a)
      · exact .inr (by omega)
  · refine ((((Kp.of_below (S := own) hbW).step hpa.kp (fun j _ e => (hS j e).1)).step hda.kp (fun j _ e => by rw [e]; exact hU gr hgr)).step (Kp.of_below (S := fun _ => False) hb4) (fun _ _ h => h.elim)).step hk5 (fun j hj e => ?_)
    have := va2 j e.symm
    omega
/-- The document's parser behind the code's call. -/
theorem dp_after {own S U : Nat → Prop} {W W1 w2 : World} {gl gr : Nat} {va : Value} {ev : List Ev} {st' : St} {T : List Tv} {now : List (Int × Nat)} {e : Int} {c : Bool} {vL vN : Value} (hS : ∀ q, S q → own q ∧ ¬ U q) (hd : DP U W gr T now e c vL vN) (hbW : Below W.heap.size W W1) (hpa : Pa S gl W1 w2 va ev st') : DP U w2 gr T now e c vL vN := (hd.below hbW).kp hpa.kp (fun k hu hs => (hS k hs).2 hu)
theorem re_after {U : Nat → Prop} {w2 w3 : World} {gr : Nat} {va vb : Value} {ev ev2 : List Ev} {T' : List Tv} {now' : List (Int × Nat)} {e' : Int} {c' : Bool} {cs : Array Value} {TT : TypeId} (h : Re w2 va ev) (hda : DA U gr w2 w3 vb ev2 T' now' e' c') (hg : w2.heap[gr]? = some (.cells cs TT (0, 0))) (hT : TT ≠ 59) : Re w3 va ev := h.kp hda.kp (fun k e => h.ne hg hT k e)

end Go.Proofs.YtkglkhijngpgiaaGreat
