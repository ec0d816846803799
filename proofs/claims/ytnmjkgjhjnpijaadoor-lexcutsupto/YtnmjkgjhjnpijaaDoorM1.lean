import Derived.Test.YtnmjkgjhjnpijaaDoorL1
import Derived.Test.YtnmjkgjhjnpijaaDoorQ1
import Derived.Test.YtnmjkgjhjnpijaaDoorBt
import Derived.Maps.AppendAt
import Derived.Laws.AppendOwnNone
set_option linter.unusedVariables false
set_option linter.unusedSimpArgs false
namespace Go.Proofs.YtnmjkgjhjnpijaaDoor
open Go.RowKit

/-- A row behind a row. -/
theorem app_toks {W : World} {ops : Array Oper} {rest : List Oper} {o : Oper} {a : Act} {Q : Exit → Act → World → Prop} (hgd : o.guard = none) (s x : Operand)
    (ho : o.op = .call { callee := .builtin .append, args := #[s, x], argTypes := #[27, 27] }) (B B' : Nat) (v vx : Value) (l ds : List Tv) (hs : a.eval s = v) (hr : Rt B W v l)
    (hx : a.eval x = vx) (hrx : Rt B' W vx ds) (hl : l.length + ds.length ≤ 1000000000) (hB : B ≤ W.heap.size)
    (h : ∀ v' w', Rt B w' v' (l ++ ds) → Kp (fun k => some k = v.ownBlock) W w' → (v'.ownBlock = v.ownBlock ∨ v'.ownBlock = some W.heap.size) → wpList Tryd.prog ops Q rest (a.put o.dst v') w') : wpList Tryd.prog ops Q (o :: rest) a W := by
  have hc := fun g (hg : vx.ownBlock = some g) => hrx.cells hg
  obtain ⟨i0, hi, hz0, hz1, hz2⟩ := info_parts Tryd.info39
  rcases hrx.2 with ⟨rfl, h0⟩ | ⟨g, cap, cur, rfl, _⟩
  · obtain rfl : ds = [] := List.eq_nil_of_length_eq_zero h0
    refine wpList_append_own_none (P := Tryd.prog) (w := W) hgd s x 27 ho B 39 i0 6 Tryd.underlying27 hi v _ _ hs hr hx ?_
    exact h v W (by rw [List.append_nil]; exact hr) (Kp.refl _ _) (.inl rfl)
  · refine wpList_append_own_at (P := Tryd.prog) (w := W) hgd s x 27 ho B 39 i0 _ 6 56 Tryd.underlying27 hi hz0 hz1 hz2 rfl (by decide) v _ _ hs hr ⟨g, 0, none⟩ ds.length cap (tcs ds) hx (tcs_len ds) (hc g rfl) (tcs_one _) (by unfold maxLen; omega) (by omega) hB ?_
    intro v' w' h1 h2 _ h4
    refine h v' w' ?_ (Kp.of_grown h2) h4
    unfold Rt
    rw [List.length_append, tcs_app]
    exact h1

/-- All chunks, one behind the other. -/
def cat : List ByteArray → ByteArray
  | [] => ByteArray.empty
  | x :: l => x ++ cat l
theorem cat_size (l : List ByteArray) : (cat l).size = bsz l := by
  induction l with
  | nil => rfl
  | cons a l ih => unfold cat bsz; rw [size_app, ih]
theorem empty_app (s : ByteArray) : ByteArray.empty ++ s = s := by
  refine by8_ext _ _ (by rw [size_app]; show 0 + s.size = s.size; omega) (fun j hj => ?_)
  rw [by8_app]
  split
  · rename_i h; have : ByteArray.empty.size = 0 := rfl; omega
  · rfl
theorem cat_app (a b : List ByteArray) : cat (a ++ b) = cat a ++ cat b := by
  induction a with
  | nil => exact (empty_app _).symm
  | cons x a ih => show x ++ cat (a ++ b) = (x ++ cat a) ++ cat b; rw [ih, app_assoc]
theorem cat_take {l : List ByteArray} {k : Nat} {s : ByteArray} (h : l[k]? = some s) : cat (l.take (k + 1)) = cat (l.take k) ++ s := by
  rw [List.take_add_one, h, cat_app]
  show _ ++ (s ++ ByteArray.empty) = _
  rw [app_empty]
theorem cat_cut (l : List ByteArray) (k : Nat) : cat l = cat (l.take k) ++ cat (l.drop k) := by rw [← cat_app, List.take_append_drop]
theorem tvs_first {S c : ByteArray} {T : List Tk} (h : ∀ t ∈ T, t.a ≤ t.e ∧ t.e ≤ (whl S).size) : T.map (tv (whl S)) = T.map (tv (S ++ c)) := by
  refine List.map_congr_left (fun t ht => ?_)
  obtain ⟨h1, h2⟩ := h t ht
  rw [whl_with S c]
  exact (tv_first _ _ t (by omega) h2).symm

end Go.Proofs.YtnmjkgjhjnpijaaDoor

set_option linter.unusedVariables false
set_option linter.unusedSimpArgs false
namespace Go.Proofs.YtnmjkgjhjnpijaaDoor
open Go.RowKit

theorem fnd_len (s : ByteArray) : ∀ (d a f : Nat), s.size - a ≤ d → (fnd s a f).1.length ≤ s.size - a
  | d, a, f, hd => by
    by_cases h : a < s.size
    · rw [fnd_step s a f h]
      cases d with
      | zero => omega
      | succ d =>
        by_cases h1 : by8 s a = 10
        · rw [if_pos h1]; have := fnd_len s d (a + 1) (f + 1) (by omega); omega
        · rw [if_neg h1]
          by_cases h2 : tkBl (by8 s a) = true
          · rw [if_pos h2]; have := fnd_len s d (a + 1) f (by omega); omega
          · rw [if_neg h2]
            by_cases h3 : tkBgn s a = 0
            · rw [if_pos h3]; exact Nat.zero_le _
            · rw [if_neg h3]
              by_cases h4 : (tkEnd s a (tkBgn s a)).2 ≠ 0
              · rw [if_pos h4]; exact Nat.zero_le _
              · rw [if_neg h4]
                have h5 := tkEnd_ok s a (tkBgn s a) (tkEnd s a (tkBgn s a)).1 h rfl h3 (Prod.ext rfl (by simpa using h4))
                have := fnd_len s d (tkEnd s a (tkBgn s a)).1 0 (by omega)
                show (fnd s (tkEnd s a (tkBgn s a)).1 0).1.length + 1 ≤ _
                omega
    · rw [fnd_end s a f (by omega)]; exact Nat.zero_le _
theorem Cov_len {s : ByteArray} {Lk : List Tk} {E a : Nat} (h : scn s = (Lk, E, a)) : Lk.length ≤ s.size := by
  have := fnd_len s s.size 0 0 (by omega)
  have e : (fnd s 0 0).1 = Lk := by show (scn s).1 = Lk; rw [h]
  rw [e] at this
  omega
theorem Rt.ownlt {B : Nat} {w : World} {v : Value} {l : List Tv} (h : Rt B w v l) : ∀ q, v.ownBlock = some q → q < w.heap.size := by
  obtain ⟨ao, cap, rfl, _, hg, _⟩ := Lt.row h
  intro q hq
  rcases hg with rfl | ⟨g, rfl, _, hl⟩
  · cases hq
  · have : g = q := Option.some.inj hq
    omega
/-- The lexer goes on: to it S has come, of s. -/
def CL (w wr : World) (g P : Nat) (S s : ByteArray) (v : Value) : Prop := ∃ own T k b f, LZ own wr g S T k b f ∧ Box3 wr P 0 0 0 ∧ w.heap.size ≤ P ∧ Rt w.heap.size wr v (T.map (tv s)) ∧ Aw w own wr ∧ ¬ own P ∧ (∀ q, v.ownBlock = some q → ¬ own q)
/-- All was told, and what is wrong. -/
def CF (w wr : World) (P : Nat) (s : ByteArray) (v : Value) (E : Nat) : Prop := E = (scn s).2.1 ∧ Box3 wr P (if (scn s).2.1 = 0 then 0 else (scn s).2.2) (if (scn s).2.1 = 0 then 0 else pL s (scn s).2.2) (if (scn s).2.1 = 0 then 0 else pC s (scn s).2.2) ∧ Rt w.heap.size wr v ((scn s).1.map (tv s)) ∧ Below w.heap.size w wr
theorem CL.below {w wr W : World} {g P : Nat} {S s : ByteArray} {v : Value} (h : CL w wr g P S s v) (hb : Below wr.heap.size wr W) : CL w W g P S s v := by
  obtain ⟨own, T, k, b, f, h1, h2, h3, h4, h5, h6, h7⟩ := h
  exact ⟨own, T, k, b, f, h1.below hb, h2.below hb, h3, h4.below hb, h5.below hb, h6, h7⟩
theorem CF.below {w wr W : World} {P : Nat} {s : ByteArray} {v : Value} {E : Nat} (h : CF w wr P s v E) (hb : Below wr.heap.size wr W) : CF w W P s v E :=
  ⟨h.1, h.2.1.below hb, h.2.2.1.below hb, h.2.2.2.trans (hb.mono h.2.2.2.size)⟩
theorem CL.bel {w wr : World} {g P : Nat} {S s : ByteArray} {v : Value} (h : CL w wr g P S s v) : Below w.heap.size w wr := by
  obtain ⟨own, T, k, b, f, h1, h2, h3, h4, h5, h6, h7⟩ := h
  exact h5.1
/-- The place, stored. -/
abbrev st3 (w : World) (P : Nat) (A L C : Int) : World := ((w.setCell ⟨P, 0, none⟩ (.int .i64 A)).setCell ⟨P, 1, none⟩ (.int .i64 L)).setCell ⟨P, 2, none⟩ (.int .i64 C)
theorem st3_kp (w : World) (P : Nat) (A L C : Int) : Kp (fun q => q = P) w (st3 w P A L C) := ((Kp.set _ _ _ _).trans (Kp.set _ _ _ _)).trans (Kp.set _ _ _ _)
/-- Behind the append. -/
def Ap (V w4 : World) (v v4 : Value) : Prop := Kp (fun k => some k = v.ownBlock) V w4 ∧ (v4.ownBlock = v.ownBlock ∨ v4.ownBlock = some V.heap.size)
/-- What stands behind Feed or Close, the place stored: both rows; and behind the append. -/
structure Bh (w V : World) (P : Nat) (A L C : Int) (v v2 : Value) (l n : List Tv) (F : World → Value → Prop) : Prop where
  box : Box3 V P A L C
  row : Rt w.heap.size V v l
  new : Rt w.heap.size V v2 n
  size : w.heap.size ≤ V.heap.size
  fin : ∀ w4 v4, Rt w.heap.size w4 v4 (l ++ n) → Ap V w4 v v4 → F w4 v4
theorem bh_core {w wr w2 : World} {P : Nat} {own own' : Nat → Prop} {v v2 : Value} {l n : List Tv} {A L C : Int} {F : World → Value → Prop}
    (hp : Box3 wr P 0 0 0) (h3 : w.heap.size ≤ P) (hr : Rt w.heap.size wr v l) (ha : Aw w own wr) (hP : ¬ own P) (hv : ∀ q, v.ownBlock = some q → ¬ own q) (hf : Fd own wr w2 own' v2 n)
    (hF : ∀ w4 v4, Rt w.heap.size w4 v4 (l ++ n) → Box3 w4 P A L C → Below w.heap.size w w4 → Aw w own' w4 → ¬ own' P → (∀ q, v4.ownBlock = some q → ¬ own' q) → (∀ U, Kp U w2 w4 → True) → (∃ U, Kp U w2 w4 ∧ ∀ q, own' q → ¬ U q) → F w4 v4) :
    Bh w (st3 w2 P A L C) P A L C v v2 l n F := by
  have hPl : P < wr.heap.size := blk_lt hp
  have hvl := hr.ownlt
  have hvo := hr.own
  have hz := hf.kp.size
  have hzw := ha.1.size
  have p2 : Box3 w2 P 0 0 0 := hf.kp.blk hp (fun e => by rcases e with e | e; exact hP e; omega)
  have r2 : Rt w.heap.size w2 v l := hr.kp hf.kp (fun k hk e => by rcases e with e | e; exact hv k hk e; have := hvl k hk; omega)
  have n2 : Rt w.heap.size w2 v2 n := lrt_low hf.row hzw
  have hk3 := st3_kp w2 P A L C
  have r3 : Rt w.heap.size (st3 w2 P A L C) v l := r2.kp hk3 (fun k hk e => r2.ne p2 (by decide) k hk e)
  have n3 : Rt w.heap.size (st3 w2 P A L C) v2 n := n2.kp hk3 (fun k hk e => n2.ne p2 (by decide) k hk e)
  have b3 : Box3 (st3 w2 P A L C) P A L C := ((p2.set0 A).set1 L).set2 C
  have hz3 := hk3.size
  have hP' : ¬ own' P := fun e => by rcases hf.sub P e with e | e; exact hP e; omega
  have hv' : ∀ q, v.ownBlock = some q → ¬ own' q := fun q hq e => by rcases hf.sub q e with e | e; exact hv q hq e; have := hvl q hq; omega
  refine ⟨b3, r3, n3, by omega, fun w4 v4 hr4 hap => ?_⟩
  have hPv : some P ≠ v.ownBlock := fun e => r2.ne p2 (by decide) P e.symm rfl
  have hk24 : Kp (fun q => q = P ∨ some q = v.ownBlock) w2 w4 := (hk3.sub (fun q e => .inl e)).trans (hap.1.sub (fun q e => .inr e))
  have a2 : Aw w own' w2 := ha.step ⟨hf.sub, hf.lt, hf.kp⟩
  have hU : ∀ q, own' q → ¬ (q = P ∨ some q = v.ownBlock) := fun q hq e => by
    rcases e with e | e
    · exact hP' (by rw [← e]; exact hq)
    · exact hv' q e.symm hq
  have b4 : Below w.heap.size w w4 := bl_kp a2.1 hk24 (fun j e => by
    rcases e with e | e
    · omega
    · exact hvo j e.symm)
  refine hF w4 v4 hr4 (hap.1.blk b3 hPv) b4 ⟨b4, fun q hq => ⟨(a2.2 q hq).1, Nat.lt_of_lt_of_le (a2.2 q hq).2 hk24.size⟩⟩ hP' (fun q hq e => ?_) (fun _ _ => trivial) ⟨_, hk24, hU⟩
  rcases hap.2 with h | h
  · exact hv' q (by rw [← h]; exact hq) e
  · rw [h] at hq
    have : (st3 w2 P A L C).heap.size = q := Option.some.inj hq
    have := hf.lt q e
    omega
/-- Held, where it is called. -/
def HdC (w4 : World) (g : Nat) (s : ByteArray) (h : Nat) : Prop := h ≤ 65540 ∧ h ≤ s.size ∧ Calls Tryd.prog 8 #[.pointer (some ⟨g, 0, none⟩)] w4 fun e w' => e = .returned (.int .i64 h) ∧ Below w4.heap.size w4 w'
theorem hd_live {own : Nat → Prop} {W : World} {g : Nat} {S s c : ByteArray} {T : List Tk} {k b f : Nat} (h : LZ own W g S T k b f) (hs : s = S ++ c) (hz : s.size ≤ 1000000000) : ∃ n, HdC W g s n := by
  obtain ⟨z1, z2, vt, vo, z3, z4, z5, z6⟩ := h
  obtain ⟨pt, ct, et, _⟩ := z4.shape
  obtain ⟨po, co, eo⟩ := z5.shape
  have hb := z2.bds
  have hm := z2.ms.len
  have hw := whl_size S
  have hwb := wh_bd S
  have ho := opE_size S
  have hsz := size_app S c
  rw [← hs] at hsz
  have hz2 := size_ext (whl S) b (whl S).size (Nat.le_refl _)
  refine ⟨S.size - b, by omega, by omega, ?_⟩
  have h9 := lheld_any z3 pt po _ _ ct co et eo (by omega) (by omega)
  rw [show ((whl S).extract b (whl S).size).size + (opE S).size = S.size - b by omega] at h9
  exact h9
/-- Behind Feed. -/
theorem cl_feed {w wr w2 : World} {g P : Nat} {S s x c : ByteArray} {v v2 : Value} {own : Nat → Prop} {T : List Tk} {E : Nat} {A L C : Int} (hs : s = (S ++ x) ++ c) (hz : s.size ≤ 1000000000)
    (hp : Box3 wr P 0 0 0) (h3 : w.heap.size ≤ P) (hr : Rt w.heap.size wr v (T.map (tv s))) (ha : Aw w own wr) (hP : ¬ own P) (hv : ∀ q, v.ownBlock = some q → ¬ own q) (hf : FPo own wr g (S ++ x) T v2 E A L C w2) :
    ∃ n : List Tv, (T.map (tv s)).length + n.length ≤ 1000000000 ∧ Bh w (st3 w2 P A L C) P A L C v v2 (T.map (tv s)) n (fun w4 v4 => ((E = 0 ∧ CL w w4 g P (S ++ x) s v4) ∨ (E ≠ 0 ∧ CF w w4 P s v4 E)) ∧ ∃ h, HdC w4 g s h) := by
  obtain ⟨new, own', hfd, hc⟩ := hf
  have hsz := size_app (S ++ x) c
  rw [← hs] at hsz
  have hw := whl_size (S ++ x)
  have hwb := wh_bd (S ++ x)
  rcases hc with ⟨rfl, rfl, rfl, rfl, k', b', f', hl⟩ | ⟨hE, a, rfl, rfl, rfl, hS, hn, hg, hx⟩
  · have hb := hl.2.1.bds
    have htk : ∀ t ∈ T ++ new, t.a ≤ t.e ∧ t.e ≤ (whl (S ++ x)).size := fun t ht => by
      have h1 := hl.2.1.told.bds
      have h2 := h1.2.2.2.2 t ht
      omega
    have e2 : new.map (tv (whl (S ++ x))) = new.map (tv s) := by rw [hs]; exact tvs_first (fun t ht => htk t (List.mem_append_right _ ht))
    rw [e2] at hfd
    refine ⟨_, ?_, bh_core hp h3 hr ha hP hv hfd ?_⟩
    · have := hb.2.2
      rw [List.length_append] at this
      rw [List.length_map, List.length_map]
      omega
    · rintro w4 v4 hr4 b4 _ a4 hP4 hv4 _ ⟨U, hk, hU⟩
      rw [← List.map_append] at hr4
      have hl4 := hl.kp hk hU
      exact ⟨.inl ⟨rfl, own', T ++ new, k', b', f', hl4, b4, h3, hr4, a4, hP4, hv4⟩, hd_live hl4 hs hz⟩
  · have hsc : scn s = (T ++ new, E, a) := by
      rw [hs, err_first (S ++ x) c (by rw [hS]; exact hE) (by rw [hS]; exact hn)]
      exact hS
    have htk := fnd_toks (whl (S ++ x)) _ 0 0 (Nat.le_refl _)
    have hab : a ≤ (whl (S ++ x)).size := by
      have hbd := (scn_bd (whl (S ++ x))).2
      rw [hS] at hbd
      exact bd_le (hbd hE)
    have hT1 : ∀ t ∈ T ++ new, t.a ≤ t.e ∧ t.e ≤ (whl (S ++ x)).size := fun t ht => by
      have h9 := htk t (by show t ∈ (scn (whl (S ++ x))).1; rw [hS]; exact ht)
      omega
    have e2 : new.map (tv (whl (S ++ x))) = new.map (tv s) := by rw [hs]; exact tvs_first (fun t ht => hT1 t (List.mem_append_right _ ht))
    have eL := pL_first (whl (S ++ x)) ((S ++ x).extract (wh (S ++ x)) (S ++ x).size ++ c) a hab
    rw [← whl_with, ← hs] at eL
    rw [e2] at hfd
    have hlen := Cov_len hS
    refine ⟨_, ?_, bh_core hp h3 hr ha hP hv hfd ?_⟩
    · rw [List.length_append] at hlen
      rw [List.length_map, List.length_map]
      omega
    · rintro w4 v4 hr4 b4 hb4 a4 hP4 hv4 _ ⟨U, hk, hU⟩
      rw [← List.map_append] at hr4
      refine ⟨.inr ⟨hE, ?_, ?_, ?_, hb4⟩, 0, by omega, by omega, ?_⟩
      · rw [hsc]
      · rw [hsc]
        rw [← eL.1, ← eL.2] at b4
        simp only [if_neg hE]
        exact b4
      · rw [hsc]; exact hr4
      · exact lheld_any (hk.blk hx (hU g hg)) none none 0 0 0 0 rfl rfl (by omega) (by omega)
/-- Behind Close. -/
theorem cl_close {w wr w2 : World} {g P : Nat} {s : ByteArray} {v v2 : Value} {own : Nat → Prop} {T : List Tk} {E : Nat} {A L C : Int} (hz : s.size ≤ 1000000000)
    (hp : Box3 wr P 0 0 0) (h3 : w.heap.size ≤ P) (hr : Rt w.heap.size wr v (T.map (tv s))) (ha : Aw w own wr) (hP : ¬ own P) (hv : ∀ q, v.ownBlock = some q → ¬ own q) (hf : CPo own wr g s T v2 E A L C w2) :
    ∃ n : List Tv, (T.map (tv s)).length + n.length ≤ 1000000000 ∧ Bh w (st3 w2 P A L C) P A L C v v2 (T.map (tv s)) n (fun w4 v4 => CF w w4 P s v4 E) := by
  obtain ⟨new, a, hfd, hc, hS, hz2⟩ := hf
  have hlen := Cov_len hS
  refine ⟨_, ?_, bh_core hp h3 hr ha hP hv hfd ?_⟩
  · rw [List.length_append] at hlen
    rw [List.length_map, List.length_map]
    omega
  · rintro w4 v4 hr4 b4 hb4 a4 hP4 hv4 _ _
    rw [← List.map_append] at hr4
    refine ⟨by rw [hS], ?_, by rw [hS]; exact hr4, hb4⟩
    rw [hS]
    rcases hz2 with ⟨rfl, rfl, rfl, rfl⟩ | ⟨hE, rfl, rfl, rfl⟩
    · exact b4
    · simp only [if_neg hE]
      exact b4

end Go.Proofs.YtnmjkgjhjnpijaaDoor
