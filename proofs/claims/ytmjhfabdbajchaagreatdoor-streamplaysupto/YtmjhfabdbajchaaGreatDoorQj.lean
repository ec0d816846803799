import Derived.Test.YtmjhfabdbajchaaGreatDoorHa9
import Derived.Test.YtmjhfabdbajchaaGreatDoorHb4
set_option linter.unusedVariables false
set_option linter.unusedSimpArgs false
namespace Go.Proofs.YtmjhfabdbajchaaGreatDoor
open Go.RowKit

/-- The document's printer, as the code's is told. -/
def R9 (S : Nat → Prop) (W : World) (g N : Nat) (s : S9) : Prop := ∃ gp vw, P9 S W g gp N s vw
theorem RW.sub {S S' : Nat → Prop} {W : World} {v : Value} {l : List Dc} (h : RW S W v l) (hs : ∀ k, k < W.heap.size → S k → S' k) : RW S' W v l := by
  rcases h with h | ⟨b, off, cap, cur, h1, h2, h3, h4, h5, h6⟩
  · exact .inl h
  · exact .inr ⟨b, off, cap, cur, h1, h2, h3, h4, hs b (blk_lt h4) h5, h6⟩
theorem R9.sub {S S' : Nat → Prop} {W : World} {g N : Nat} {s : S9} (h : R9 S W g N s) (hs : ∀ k, k < W.heap.size → S k → S' k) : R9 S' W g N s := by
  obtain ⟨gp, vw, h⟩ := h
  exact ⟨gp, vw, h.blk, h.row.sub hs, h.pg.sub (fun k cs t hk hb _ => hs k (blk_lt hb) hk), hs g (blk_lt h.blk) h.sg⟩
theorem OwS.oth {S T : Nat → Prop} {W W' : World} {e sz n : Nat} {v : Value} {xs : List Value} (h : OwS S W e sz v n xs) (hk : Kp T W W') (hT : ∀ k, k < W.heap.size → S k → ¬ T k) : OwS S W' e sz v n xs := by
  refine ⟨⟨h.1.1, ?_⟩, h.2⟩
  rcases h.1.2 with h1 | ⟨q, cap, cur, rfl, h2, h3, h4⟩
  · exact .inl h1
  · exact .inr ⟨q, cap, cur, rfl, h2, hk.blk h3 (hT q (blk_lt h3) (h.2 q rfl)), h4⟩
theorem R9.oth {S T : Nat → Prop} {W W' : World} {g N : Nat} {s : S9} (h : R9 S W g N s) (hk : Kp T W W') (hT : ∀ k, k < W.heap.size → S k → ¬ T k) : R9 S W' g N s := by
  obtain ⟨gp, vw, h⟩ := h
  refine ⟨gp, vw, hk.blk h.blk (hT g (blk_lt h.blk) h.sg), ?_, ?_, h.sg⟩
  · rcases h.row with h1 | ⟨b, off, cap, cur, e1, e2, e3, e4, e5, e6⟩
    · exact .inl h1
    · exact .inr ⟨b, off, cap, cur, e1, e2, e3, hk.blk e4 (hT b (blk_lt e4) e5), e5, e6⟩
  · obtain ⟨vo, vb, sm, em, hq⟩ := h.pg
    exact ⟨vo, vb, sm, em, hk.blk hq.blk (hT gp (blk_lt hq.blk) hq.gB), OwS.oth hq.out hk hT, OwS.oth hq.pbs hk hT, hq.en, hq.som, hq.wt, hq.gB⟩
theorem R9.new (S : Nat → Prop) (n : Nat) (h1 : 1 ≤ n) (h2 : n ≤ 4096) (W : World) (hB : Nw S W.heap.size) : Calls Tryz.prog 11 #[.int .i64 (n : Int)] W fun e w' => ∃ g, e = .returned (.tuple #[.pointer (some ⟨g, 0, none⟩), .int .i64 0]) ∧ R9 S w' g n s90 ∧ Below W.heap.size W w' := by
  refine (rnew_any S n h1 h2 W hB).mono ?_
  rintro e w' ⟨g, gp, vw, rfl, a, b⟩
  exact ⟨g, rfl, ⟨gp, vw, a⟩, b⟩
theorem R9.put {S : Nat → Prop} {W : World} {g N : Nat} {s : S9} (h : R9 S W g N s) (hB : Nw S W.heap.size) (hN : N ≤ 4096) {T C : Nat} (hb : Bud s T C) (d : Dc) (hds : d.t.size ≤ 9223372036854775807) (hT : T + ud d ≤ 268435456) (hC : C + 1 ≤ 100000000) : Calls Tryz.prog 24 #[.pointer (some ⟨g, 0, none⟩), .agg #[.int .u8 d.k, .string d.t, .int .i64 d.b, .int .i64 d.i, .bool d.e]] W fun e w' => e = .returned (.tuple #[.string ⟨(s.told (s.put N d).1).toArray⟩, .int .i64 (s.put N d).2]) ∧ R9 S w' g N (s.put N d).1 ∧ Kp S W w' := by
  obtain ⟨gp, vw, h⟩ := h
  refine (rput_any h hB hN hb d hds hT hC).mono ?_
  rintro e w' ⟨rfl, ⟨vw', a⟩, b⟩
  exact ⟨rfl, ⟨gp, vw', a⟩, b⟩
theorem R9.close {S : Nat → Prop} {W : World} {g N : Nat} {s : S9} (h : R9 S W g N s) (hB : Nw S W.heap.size) (hN : N ≤ 4096) {T C : Nat} (hb : Bud s T C) (hT : T ≤ 268435456) (hC : C ≤ 100000000) : Calls Tryz.prog 22 #[.pointer (some ⟨g, 0, none⟩)] W fun e w' => e = .returned (.tuple #[.string ⟨(s.told (s.close N).1).toArray⟩, .int .i64 (s.close N).2]) ∧ R9 S w' g N (s.close N).1 ∧ Kp S W w' := by
  obtain ⟨gp, vw, h⟩ := h
  refine (rclose_any h hB hN hb hT hC).mono ?_
  rintro e w' ⟨rfl, ⟨vw', a⟩, b⟩
  exact ⟨rfl, ⟨gp, vw', a⟩, b⟩
theorem R9.held {S : Nat → Prop} {W : World} {g N : Nat} {s : S9} (h : R9 S W g N s) : Calls Tryz.prog 23 #[.pointer (some ⟨g, 0, none⟩)] W fun e w' => e = .returned (.int .i64 (s.wt.length : Nat)) ∧ w' = W := by
  obtain ⟨gp, vw, h⟩ := h
  exact rheld_any h

/-! Labels: several things side by side. -/
def LabI (i : Nat) (own : Nat → Nat) (W w' : World) : Nat → Nat := fun k => if k < W.heap.size then own k else if k < w'.heap.size then i else 0
theorem lab_call {i : Nat} (hi : i ≠ 0) {own : Nat → Nat} {W w' : World} (hE : En own W) (hk : Kp (fun k => own k = i ∨ W.heap.size ≤ k) W w') : En (LabI i own W w') w' ∧ Fr i own (LabI i own W w') W w' ∧ ∀ k, k < w'.heap.size → own k = i ∨ W.heap.size ≤ k → LabI i own W w' k = i := by
  have hf : Fr i own (LabI i own W w') W w' := ⟨hk.os, hk.tape, hk.output, hk.size, fun k hl hn => hk.block k hl (fun e => by rcases e with e | e; exact hn e; omega), fun k hl => if_pos hl⟩
  have hn : Nf (LabI i own W w') w' := fun k hl => by
    have := hk.size
    unfold LabI
    rw [if_neg (by omega), if_neg (by omega)]
  refine ⟨hE.fr hi hn hf, hf, fun k hl e => ?_⟩
  unfold LabI
  by_cases hw : k < W.heap.size
  · rw [if_pos hw]
    rcases e with e | e
    · exact e
    · omega
  · rw [if_neg hw, if_pos hl]
theorem nwI (i : Nat) (own : Nat → Nat) (W : World) : Nw (fun k => own k = i ∨ W.heap.size ≤ k) W.heap.size := fun k hk => .inr hk
/-- Another thing stands. -/
theorem fr_kp {i : Nat} {own own' : Nat → Nat} {W w' : World} (h : Fr i own own' W w') : Kp (fun k => own k = i) W w' := ⟨h.os, h.tape, h.output, h.size, fun k hk hn => h.block k hk hn⟩
theorem R9.stands {i j : Nat} (hij : j ≠ i) {own own' : Nat → Nat} {W w' : World} {g N : Nat} {s : S9} (hj : j ≠ 0) (hn : Nf own W) (hf : Fr i own own' W w') (h : R9 (fun k => own k = j) W g N s) : R9 (fun k => own' k = j) w' g N s := by
  refine (h.oth (fr_kp hf) (fun k _ e1 e2 => hij (e1.symm.trans e2))).sub (fun k _ e => ?_)
  by_cases hw : k < W.heap.size
  · rw [hf.old k hw]; exact e
  · exact absurd (e.symm.trans (hn k (by omega))) hj
theorem Ctr.stands {R : (Nat → Prop) → World → Nat → Nat → S9 → Prop} (hC : Ctr R) {i j : Nat} (hij : j ≠ i) {own own' : Nat → Nat} {W w' : World} {g N : Nat} {s : S9} (hj : j ≠ 0) (hn : Nf own W) (hf : Fr i own own' W w') (h : R (fun k => own k = j) W g N s) : R (fun k => own' k = j) w' g N s := by
  refine hC.sub _ _ _ _ _ _ (hC.oth _ _ _ _ _ _ _ h (fr_kp hf) (fun k _ e1 e2 => hij (e1.symm.trans e2))) (fun k _ e => ?_)
  by_cases hw : k < W.heap.size
  · rw [hf.old k hw]; exact e
  · exact absurd (e.symm.trans (hn k (by omega))) hj
end Go.Proofs.YtmjhfabdbajchaaGreatDoor
