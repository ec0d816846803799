import Derived.Test.YtnmjkgjhjnpijaaDoorG2
import Derived.Test.YtnmjkgjhjnpijaaDoorJe
set_option linter.unusedVariables false
set_option linter.unusedSimpArgs false
namespace Go.Proofs.YtnmjkgjhjnpijaaDoor
open Go.RowKit

set_option maxHeartbeats 400000 in
theorem goes_core (s t q : ByteArray) (g : Bool) (d p : Nat) (w : World) (hs : s.size ≤ 2147483647) (hadd : ¬ (9223372036854775807 < s.size + t.size)) (hq : s ++ t = q)
    (hn : ∀ w, Calls Tryd.prog 24 #[.string q, .int .i64 0] w fun e w' => e = .returned (.tuple #[.int .i64 p, .int .i64 d, .bool g]) ∧ Below w.heap.size w w') :
    Calls Tryd.prog 48 #[.string s, .string t] w fun e w' => e = .returned (.bool (g && decide (s.size < d))) ∧ Below w.heap.size w w' := by
  have HN : Hid _ := hn
  clear hn
  go_enter Tryd.func48, Tryd.ntmps48
  go_wp2_with fail
  refine (HN.out _).mono ?_
  rintro e w1 ⟨rfl, hb1⟩
  clear HN
  cases g with
  | true =>
    go_wp2_with fail
    go_ret
    exact ⟨by show Ending.returned (.bool _) = _; simp, hb1⟩
  | false =>
    go_wp2_with fail
    go_ret
    exact ⟨rfl, hb1⟩

theorem goes_any (s t : ByteArray) (w : World) (hs : s.size ≤ 2147483647) (ht : t.size = 3) :
    Calls Tryd.prog 48 #[.string s, .string t] w fun e w' => e = .returned (.bool (goB s t)) ∧ Below w.heap.size w w' := by
  have hz : (s ++ t).size = s.size + t.size := by simp [ByteArray.size_append]
  exact goes_core s t (s ++ t) (gd (s ++ t) 0) (dw (s ++ t) 0) (dp (s ++ t) 0) w hs (by omega) rfl (fun w => next_in (s ++ t) 0 w (by unfold maxLen; omega) (by omega) (by omega))

set_option maxHeartbeats 400000 in
theorem open_core (s : ByteArray) (g1 g2 : Bool) (w : World)
    (h1 : ∀ w, Calls Tryd.prog 48 #[.string s, .string ⟨#[128, 128, 128]⟩] w fun e w' => e = .returned (.bool g1) ∧ Below w.heap.size w w')
    (h2 : ∀ w, Calls Tryd.prog 48 #[.string s, .string ⟨#[191, 191, 191]⟩] w fun e w' => e = .returned (.bool g2) ∧ Below w.heap.size w w') :
    Calls Tryd.prog 22 #[.string s] w fun e w' => e = .returned (.bool (g1 || g2)) ∧ Below w.heap.size w w' := by
  have H1 : Hid _ := h1
  have H2 : Hid _ := h2
  clear h1 h2
  go_enter Tryd.func22, Tryd.ntmps22
  go_wp2_with fail
  refine (H1.out _).mono ?_
  rintro e w1 ⟨rfl, hb1⟩
  cases g1 with
  | true =>
    go_wp2_with fail
    go_ret
    exact ⟨rfl, hb1⟩
  | false =>
    go_wp2_with fail
    refine (H2.out _).mono ?_
    rintro e w2 ⟨rfl, hb2⟩
    go_wp2_with fail
    go_ret
    exact ⟨rfl, hb1.trans (hb2.mono hb1.size)⟩

theorem open_any (s : ByteArray) (w : World) (hs : s.size ≤ 2147483647) :
    Calls Tryd.prog 22 #[.string s] w fun e w' => e = .returned (.bool (opn s)) ∧ Below w.heap.size w w' :=
  open_core s _ _ w (fun w => goes_any s _ w hs rfl) (fun w => goes_any s _ w hs rfl)

set_option maxHeartbeats 400000 in
theorem whole_any (s : ByteArray) (w : World) (hs : s.size ≤ 2147483647) :
    Calls Tryd.prog 14 #[.string s] w fun e w' => e = .returned (.int .i64 (wh s)) ∧ Below w.heap.size w w' := by
  go_enter Tryd.func14, Tryd.ntmps14
  go_wp2_with fail
  go_loopw [3] (fun i wr => ∃ n : Nat, 1 ≤ n ∧ n ≤ 4 ∧ i = .int .i64 n ∧ whF s (4 - n) n = wh s ∧ Below w.heap.size w wr) (fun i _ => 4 - (intOf i).toNat)
  case atStart => exact ⟨1, by omega, by omega, rfl, rfl, Below.refl _ _⟩
  case round =>
    obtain ⟨n, hn1, hn4, rfl, hr, hbel⟩ := hrel
    by_cases h3 : n ≤ 3
    · by_cases hsz : n ≤ s.size
      · obtain ⟨f, hf⟩ : ∃ f, 4 - n = f + 1 := ⟨3 - n, by omega⟩
        rw [hf] at hr
        unfold whF at hr
        rw [if_pos hsz] at hr
        have hf2 : f = 4 - (n + 1) := by omega
        subst hf2
        have hc : Hid _ := open_any (s.extract (s.size - n) s.size)
        have hzz : (s.extract (s.size - n) s.size).size ≤ 2147483647 := by rw [size_ext s _ _ (Nat.le_refl _)]; omega
        have HR : Hid (_ = wh s) := hr
        clear hr hf
        go_wp2_with fail
        refine (hc.out _ hzz).mono ?_
        rintro e w1 ⟨rfl, hb1⟩
        clear hc hzz
        generalize opn (s.extract (s.size - n) s.size) = g at *
        have hb2 := hbel.trans (hb1.mono hbel.size)
        clear hb1 hbel
        cases g with
        | true =>
          go_wp2_with fail
          go_ret
          exact ⟨ret_int (by have h := HR.out; simp at h; omega), hb2⟩
        | false =>
          go_wp2_with fail
          go_roundw
          case rel => exact ⟨n + 1, by omega, by omega, by go_num, by have h := HR.out; simpa using h, hb2⟩
          case measure => simp [intOf]; omega
      · have HR : Hid (s.size = wh s) := by
          show _ = _
          rw [← hr]
          obtain ⟨f, hf⟩ : ∃ f, 4 - n = f + 1 := ⟨3 - n, by omega⟩
          rw [hf]
          unfold whF
          rw [if_neg hsz]
        clear hr
        go_wp2_with fail
        go_ret
        exact ⟨ret_int (by rw [HR.out]), hbel⟩
    · have HR : Hid (s.size = wh s) := by
        show _ = _
        rw [← hr, show 4 - n = 0 by omega]
        rfl
      clear hr
      go_wp2_with fail
      go_ret
      exact ⟨ret_int (by rw [HR.out]), hbel⟩
end Go.Proofs.YtnmjkgjhjnpijaaDoor

set_option linter.unusedVariables false
set_option linter.unusedSimpArgs false
namespace Go.Proofs.YtnmjkgjhjnpijaaDoor
open Go.RowKit

/-- The lexer between calls: to which S has come, and nothing is wrong. -/
def LZ (own : Nat → Prop) (W : World) (g : Nat) (S : ByteArray) (T : List Tk) (k b f : Nat) : Prop :=
  own g ∧ St S T k b f ∧ ∃ vt vo, LxB W g false 0 0 0 0 k b (pL (whl S) b) (pC (whl S) b) f vt vo (.slice none 0 0) ∧ BwS own W vt ((whl S).extract b (whl S).size) ∧ OpS own W vo (opE S) ∧ (∀ q, vo.ownBlock = some q → vt.ownBlock ≠ some q)
/-- Its own blocks, and new ones. -/
def Onw (own : Nat → Prop) (n : Nat) (q : Nat) : Prop := own q ∨ n ≤ q
/-- What Feed and Close leave beside their answer: the row that was told, what else stands. -/
structure Fd (own : Nat → Prop) (w w' : World) (own' : Nat → Prop) (v : Value) (l : List Tv) : Prop where
  sub : ∀ q, own' q → own q ∨ w.heap.size ≤ q
  lt : ∀ q, own' q → q < w'.heap.size
  ap : ∀ q, v.ownBlock = some q → ¬ own' q
  row : Rt w.heap.size w' v l
  kp : Kp (Onw own w.heap.size) w w'

/-- New. -/
theorem lnew_any (W : World) :
    Calls Tryd.prog 6 #[] W fun e w' => ∃ g, e = .returned (.pointer (some ⟨g, 0, none⟩)) ∧ W.heap.size ≤ g ∧ g < w'.heap.size ∧ Below W.heap.size W w' ∧ LZ (fun q => q = g) w' g ByteArray.empty [] 0 0 0 := by
  have HS : Hid (Calls Tryd.prog 12 #[] W fun e w' => e = .returned (.agg #[.int .i64 0, .int .i64 1, .int .i64 1]) ∧ Below W.heap.size W w') := start_any W
  go_enter Tryd.func6, Tryd.ntmps6
  go_wp2_with (first | (go_at_call 12; refine HS.out.mono ?_; rintro e w1 ⟨rfl, hb1⟩))
  go_ret
  refine ⟨w1.heap.size, rfl, hb1.size, ?_, hb1.alloc hb1.size _, rfl, St.zero, .slice none 0 0, .slice none 0 0, ?_, bws_nil _ _ ?_, ops_nil _ _ ?_, fun q hq => by cases hq⟩
  · rw [World.size_alloc]; omega
  · have e1 := (p_zero (whl ByteArray.empty)).1
    have e2 := (p_zero (whl ByteArray.empty)).2
    show LxB _ _ _ _ _ _ _ _ _ _ _ _ _ _ _
    rw [e1, e2]
    exact World.alloc_heap_new w1 _
  · have := (whl_size ByteArray.empty)
    have h2 := wh_bd ByteArray.empty
    have h3 : ByteArray.empty.size = 0 := rfl
    rw [size_ext _ _ _ (Nat.le_refl _)]
    omega
  · rw [opE_size]
    have h3 : ByteArray.empty.size = 0 := rfl
    omega

theorem BwS.mono {S U : Nat → Prop} {W : World} {v : Value} {t : ByteArray} (h : BwS S W v t) (hu : ∀ k, v.ownBlock = some k → U k) : BwS U W v t := ⟨h.1, hu⟩
theorem OpS.mono {S U : Nat → Prop} {W : World} {v : Value} {t : ByteArray} (h : OpS S W v t) (hu : ∀ k, v.ownBlock = some k → U k) : OpS U W v t := ⟨h.1, hu⟩
theorem BwS.lt {S : Nat → Prop} {W : World} {v : Value} {t : ByteArray} (h : BwS S W v t) : ∀ k, v.ownBlock = some k → k < W.heap.size := fun k hk => by
  obtain ⟨cs, f, e⟩ := h.u8 k hk
  exact blk_lt e
theorem OpS.lt {S : Nat → Prop} {W : World} {v : Value} {t : ByteArray} (h : OpS S W v t) : ∀ k, v.ownBlock = some k → k < W.heap.size := fun k hk => by
  obtain ⟨cs, f, e⟩ := h.u8 k hk
  exact blk_lt e
/-- What Feed answers, and leaves: s is what is whole of all that has come. -/
def FPo (own : Nat → Prop) (w : World) (g : Nat) (S : ByteArray) (T : List Tk) (v : Value) (E : Nat) (A L C : Int) (w' : World) : Prop :=
  ∃ (new : List Tk) (own' : Nat → Prop), Fd own w w' own' v (new.map (tv (whl S))) ∧
    ((E = 0 ∧ A = 0 ∧ L = 0 ∧ C = 0 ∧ ∃ k' b' f', LZ own' w' g S (T ++ new) k' b' f') ∨
     (E ≠ 0 ∧ ∃ a : Nat, A = a ∧ L = pL (whl S) a ∧ C = pC (whl S) a ∧ scn (whl S) = (T ++ new, E, a) ∧ ¬ Early (whl S) E a ∧ own' g ∧ LxE w' g E a L C))
theorem LZ.kp {own : Nat → Prop} {W W' : World} {g : Nat} {S : ByteArray} {T : List Tk} {k b f : Nat} (h : LZ own W g S T k b f) {U : Nat → Prop} (hk : Kp U W W') (hU : ∀ q, own q → ¬ U q) : LZ own W' g S T k b f := by
  obtain ⟨h1, h2, vt, vo, h3, h4, h5, h6⟩ := h
  exact ⟨h1, h2, vt, vo, hk.blk h3 (hU g h1), h4.kp hk (fun q hq => hU q (h4.2 q hq)), h5.kp hk (fun q hq => hU q (h5.2 q hq)), h6⟩
theorem Fd.step {own own' : Nat → Prop} {w w' w'' : World} {v : Value} {l : List Tv} (h : Fd own w w' own' v l) {r : Nat} {cs : Array Value} {f : Nat × Nat} (hr : w'.heap[r]? = some (.cells cs 30 f)) (hk : Kp (fun q => q = r) w' w'') (h1 : w.heap.size ≤ r) : Fd own w w'' own' v l :=
  ⟨h.sub, fun q hq => Nat.lt_of_lt_of_le (h.lt q hq) hk.size, h.ap, h.row.kp hk (h.row.ne hr (by decide)), h.kp.step hk (fun j _ e => .inr (by rw [e]; exact h1))⟩
theorem LZ.typ {own : Nat → Prop} {W W' : World} {g : Nat} {S : ByteArray} {T : List Tk} {k b f : Nat} (h : LZ own W g S T k b f) {r : Nat} {cs : Array Value} {fr : Nat × Nat} (hr : W.heap[r]? = some (.cells cs 30 fr)) (hk : Kp (fun q => q = r) W W') : LZ own W' g S T k b f := by
  obtain ⟨h1, h2, vt, vo, h3, h4, h5, h6⟩ := h
  refine ⟨h1, h2, vt, vo, hk.blk h3 (fun e => ?_), h4.kp hk (h4.ne hr (by decide)), h5.kp hk (h5.ne hr (by decide)), h6⟩
  rw [← e, show W.heap[g]? = _ from h3] at hr
  cases hr
theorem FPo.typ {own : Nat → Prop} {w w' w'' : World} {g : Nat} {S : ByteArray} {T : List Tk} {v : Value} {E : Nat} {A L C : Int} (h : FPo own w g S T v E A L C w') {r : Nat} {cs : Array Value} {fr : Nat × Nat} (hr : w'.heap[r]? = some (.cells cs 30 fr)) (hk : Kp (fun q => q = r) w' w'') (h1 : w.heap.size ≤ r) : FPo own w g S T v E A L C w'' := by
  obtain ⟨new, own', hf, hz⟩ := h
  refine ⟨new, own', hf.step hr hk h1, ?_⟩
  rcases hz with ⟨e1, e2, e3, e4, k', b', f', hl⟩ | ⟨e1, a, e2, e3, e4, e5, e6, e7, e8⟩
  · exact .inl ⟨e1, e2, e3, e4, k', b', f', hl.typ hr hk⟩
  · refine .inr ⟨e1, a, e2, e3, e4, e5, e6, e7, hk.blk e8 (fun e => ?_)⟩
    rw [← e, show w'.heap[g]? = _ from e8] at hr
    cases hr
theorem FPo.below {own : Nat → Prop} {w w' w'' : World} {g : Nat} {S : ByteArray} {T : List Tk} {v : Value} {E : Nat} {A L C : Int} (h : FPo own w g S T v E A L C w') (hb : Below w'.heap.size w' w'') : FPo own w g S T v E A L C w'' := by
  obtain ⟨new, own', hf, hz⟩ := h
  refine ⟨new, own', ⟨hf.sub, fun q hq => Nat.lt_of_lt_of_le (hf.lt q hq) hb.size, hf.ap, hf.row.below hb, hf.kp.then hb⟩, ?_⟩
  rcases hz with ⟨e1, e2, e3, e4, k', b', f', hl⟩ | ⟨e1, a, e2, e3, e4, e5, e6, e7, e8⟩
  · exact .inl ⟨e1, e2, e3, e4, k', b', f', hl.kp (Kp.of_below (S := fun _ => False) hb) (fun _ _ h => h)⟩
  · exact .inr ⟨e1, a, e2, e3, e4, e5, e6, e7, blk_below e8 hb⟩
theorem FPo.box {own : Nat → Prop} {w w' : World} {g : Nat} {S : ByteArray} {T : List Tk} {v : Value} {E : Nat} {A L C : Int} (h : FPo own w g S T v E A L C w') {r : Nat} {a b c : Int} (hr : Box3 w r a b c) (ho : ¬ own r) : Box3 w' r a b c := by
  obtain ⟨new, own', hf, _⟩ := h
  exact hf.kp.blk hr (fun e => by
    rcases e with e | e
    · exact ho e
    · have := hr.lt
      omega)
/-- answer, behind read. -/
theorem lans_read {own : Nat → Prop} {w V : World} {g : Nat} {S : ByteArray} {T : List Tk} (hs : S.size ≤ 1000000000) {E : Nat}
    (h : (E = 0 ∧ ∃ k b f new, SPr (Onw own w.heap.size) w V g (whl S) (opE S) T (whl S).size k b f new) ∨ (E ≠ 0 ∧ Flt (Onw own w.heap.size) w V g (whl S) (opE S) T True E)) :
    Calls Tryd.prog 15 #[.pointer (some ⟨g, 0, none⟩), .int .i64 E] V fun e' w' => ∃ v A L C, e' = .returned (.tuple #[v, .int .i64 E, .agg #[.int .i64 A, .int .i64 L, .int .i64 C]]) ∧ FPo own w g S T v E A L C w' := by
  have hz := whl_size S
  have hw := wh_bd S
  rcases h with ⟨rfl, k, b, f, new, hp⟩ | ⟨hE, k, b, f, p', new, a, h1, h2, h3, h4, h5, h6, h7⟩
  · refine (lans_ok hp.lq).mono ?_
    rintro e' w' ⟨v, rfl, hr, vt, vo, l1, l2⟩
    refine ⟨v, 0, 0, 0, rfl, new, fun q => q = g ∨ vt.ownBlock = some q ∨ vo.ownBlock = some q, ⟨?_, ?_, ?_, hr, l2.kp⟩, .inl ⟨rfl, rfl, rfl, rfl, k, b, f, .inl rfl, ⟨hp.told, hp.ms⟩, vt, vo, l1, l2.rt.mono (fun q hq => .inr (.inl hq)), l2.ro.mono (fun q hq => .inr (.inr hq)), l2.ap⟩⟩
    · rintro q (rfl | hq | hq)
      · exact l2.sg
      · exact l2.rt.2 q hq
      · exact l2.ro.2 q hq
    · rintro q (rfl | hq | hq)
      · exact blk_lt l1
      · exact l2.rt.lt q hq
      · exact l2.ro.lt q hq
    · rintro q hq (rfl | h | h)
      · exact hr.ne l1 (by decide) _ hq rfl
      · obtain ⟨cs, ff, e⟩ := l2.rt.u8 q h
        exact hr.ne e (by decide) _ hq rfl
      · obtain ⟨cs, ff, e⟩ := l2.ro.u8 q h
        exact hr.ne e (by decide) _ hq rfl
  · have hsg : Onw own w.heap.size g := by
      obtain ⟨vt, vo, vs, l1, l2⟩ := h1
      exact l2.sg
    refine (lans_bad h1 (by omega) h4 h2 h3 E a hE h7).mono ?_
    rintro e' w' ⟨v, rfl, hr, l1, l2⟩
    refine ⟨v, a, pL (whl S) a, pC (whl S) a, rfl, new, fun q => q = g, ⟨?_, ?_, ?_, hr, l2⟩, .inr ⟨hE, a, rfl, rfl, rfl, h5, h6 trivial, rfl, l1⟩⟩
    · rintro q rfl
      exact hsg
    · rintro q rfl
      exact blk_lt l1
    · rintro q hq rfl
      exact hr.ne l1 (by decide) _ hq rfl

theorem St.bds {S : ByteArray} {T : List Tk} {k b f : Nat} (h : St S T k b f) : b ≤ (whl S).size ∧ b ≤ S.size ∧ T.length ≤ S.size := by
  have h1 := h.told.bds
  have h2 := whl_size S
  have h3 := wh_bd S
  exact ⟨h1.2.1, by omega, by omega⟩
theorem str_bytes (V : World) (y : ByteArray) : (convert 9 44 (.string y)).run Tryd.prog V = .ok (.slice (some ⟨V.heap.size, 0, none⟩) y.size (grownCap V y.size 0 5)) (V.drew.alloc (.cells (bytesRow y (grownCap V y.size 0 5)) 5 ((bytesRow y (grownCap V y.size 0 5)).size, (bytesRow y (grownCap V y.size 0 5)).size + 1))) :=
  run_bytes_of_string V _ _ _ y Tryd.underlying9 Tryd.underlying44 Tryd.underlying5
theorem bytesRow_get (y : ByteArray) (c j : Nat) (h : j < y.size) : (bytesRow y c)[j]? = some (.int .u8 (by8 y j)) := by
  have h2 : j < y.data.size := h
  have h3 := sc_get y j h
  rw [bc_str] at h3
  unfold bc at h3
  unfold bytesRow
  rw [Array.getElem?_append_left (by simpa using h2), Array.getElem?_map, ← Array.getElem?_toList, ← List.getElem?_map]
  exact h3

theorem lrt_low {A B : Nat} {w : World} {v : Value} {l : List Tv} (h : Rt B w v l) (hA : A ≤ B) : Rt A w v l := by
  refine ⟨h.1, ?_⟩
  rcases h.2 with h1 | ⟨g, cap, cur, rfl, h2, h3, h4⟩
  · exact .inl h1
  · exact .inr ⟨g, cap, cur, rfl, Nat.le_trans hA h2, h3, h4⟩
theorem kp_base {own : Nat → Prop} {W B V : World} (hb : Below W.heap.size W B) (h : Kp (Onw own B.heap.size) B V) : Kp (Onw own W.heap.size) W V :=
  (Kp.of_below hb).step h (fun j hj e => by
    rcases e with e | e
    · exact .inl e
    · have := hb.size
      omega)
theorem Fd.base {own own' : Nat → Prop} {W B V : World} {v : Value} {l : List Tv} (hb : Below W.heap.size W B) (h : Fd own B V own' v l) : Fd own W V own' v l :=
  ⟨fun q hq => by
    rcases h.sub q hq with e | e
    · exact .inl e
    · exact .inr (Nat.le_trans hb.size e), h.lt, h.ap, lrt_low h.row hb.size, kp_base hb h.kp⟩
theorem FPo.base {own : Nat → Prop} {W B V : World} {g : Nat} {S : ByteArray} {T : List Tk} {v : Value} {E : Nat} {A L C : Int} (hb : Below W.heap.size W B) (h : FPo own B g S T v E A L C V) : FPo own W g S T v E A L C V := by
  obtain ⟨new, own', hf, hz⟩ := h
  exact ⟨new, own', hf.base hb, hz⟩
/-- The open end is written anew. -/
theorem open_put {own : Nat → Prop} {V : World} {g k b : Nat} {L C : Int} {f : Nat} {vt vo : Value} {t : ByteArray} (h1 : LxB V g false 0 0 0 0 k b L C f vt vo (.slice none 0 0)) (hg : own g) (h4 : BwS own V vt t) (hown : ∀ q, own q → q < V.heap.size) (Y : ByteArray) (len cap : Nat) (hl : len = Y.size) (R : Array Value) (hR : ∀ j, j < Y.size → R[j]? = some (.int .u8 (by8 Y j))) (fr : Nat × Nat) :
    Lq (Onw own V.heap.size) V ((V.setCell ⟨g, 11, none⟩ (.slice (some ⟨V.heap.size, 0, none⟩) len cap)).alloc (.cells R 5 fr)).drew g k b L C f t Y [] := by
  subst hl
  have hk := Kp.set V g 11 (.slice (some ⟨V.heap.size, 0, none⟩) Y.size cap)
  have y1 := blk_set h1 11 (.slice (some ⟨V.heap.size, 0, none⟩) Y.size cap)
  have hsz : (V.setCell ⟨g, 11, none⟩ (.slice (some ⟨V.heap.size, 0, none⟩) Y.size cap)).heap.size = V.heap.size := World.size_setCell _ _ _
  have hn := World.alloc_heap_new (V.setCell ⟨g, 11, none⟩ (.slice (some ⟨V.heap.size, 0, none⟩) Y.size cap)) (.cells R 5 fr)
  rw [hsz] at hn
  have hba : Below (V.setCell ⟨g, 11, none⟩ (.slice (some ⟨V.heap.size, 0, none⟩) Y.size cap)).heap.size (V.setCell ⟨g, 11, none⟩ (.slice (some ⟨V.heap.size, 0, none⟩) Y.size cap)) ((V.setCell ⟨g, 11, none⟩ (.slice (some ⟨V.heap.size, 0, none⟩) Y.size cap)).alloc (.cells R 5 fr)).drew := ((Below.refl _ _).alloc (Nat.le_refl _) _).drew
  refine ⟨vt, _, .slice none 0 0, blk_below y1 hba, ?_, .inl hg, fun q hq => .inr hq, ?_, ⟨.inr ⟨V.heap.size, cap, R, fr, rfl, hn, hR⟩, fun q hq => ?_⟩, fun q hq e => ?_, rt_nil _ _⟩
  · exact ((Kp.refl (Onw own V.heap.size) V).step hk (fun j _ e => by rw [e]; exact .inl hg)).then hba
  · exact ((h4.mono (fun q hq => .inl (h4.2 q hq))).kp hk (h4.ne h1 (by decide))).below hba
  · cases hq
    exact .inr (Nat.le_refl _)
  · cases hq
    exact absurd (hown _ (h4.2 _ e)) (Nat.lt_irrefl _)

set_option maxRecDepth 100000 in
set_option maxHeartbeats 400000 in
/-- Feed, of a lexer that goes on. -/
theorem lfeed_live {own : Nat → Prop} {W : World} {g : Nat} {S : ByteArray} {T : List Tk} {k b f : Nat} (h : LZ own W g S T k b f) (hown : ∀ q, own q → q < W.heap.size) (hK : ∀ V, Kp (Onw own W.heap.size) W V → Kab V) (x : ByteArray) (hs : (S ++ x).size ≤ 1000000000) :
    Calls Tryd.prog 7 #[.pointer (some ⟨g, 0, none⟩), .string x] W fun e w' => ∃ (v : Value) (E : Nat) (A L C : Int), e = .returned (.tuple #[v, .int .i64 E, .agg #[.int .i64 A, .int .i64 L, .int .i64 C]]) ∧ FPo own W g (S ++ x) T v E A L C w' := by
  obtain ⟨h1, h2, vt, vo, h3, h4, h5, h6⟩ := h
  have hsz := size_app S x
  have hsz2 := size_app (opE S) x
  have hoz := opE_size S
  have hwl := whl_size S
  have hwb := wh_bd S
  have hwc := wh_bd (opE S ++ x)
  obtain ⟨op, oc, eo⟩ := h5.shape
  have HB : Hid (∀ V, Below W.heap.size W V → LxB V g false 0 0 0 0 k b (pL (whl S) b) (pC (whl S) b) f vt vo (.slice none 0 0) ∧ Lz (Onw own W.heap.size) W V g vt vo (.slice none 0 0) ((whl S).extract b (whl S).size) (opE S) []) := fun V hV =>
    ⟨blk_below h3 hV, Kp.of_below hV, .inl h1, fun q hq => .inr hq, (h4.mono (fun q hq => .inl (h4.2 q hq))).below hV, (h5.mono (fun q hq => .inl (h5.2 q hq))).below hV, h6, rt_nil _ _⟩
  have HRd : Hid (∀ B V, Below W.heap.size W B → Lq (Onw own B.heap.size) B V g k b (pL (whl S) b) (pC (whl S) b) f ((whl S).extract b (whl S).size) (opE (S ++ x)) [] → Calls Tryd.prog 16 #[.pointer (some ⟨g, 0, none⟩), .string ((opE S ++ x).extract 0 (wh (opE S ++ x)))] V fun e w' => RPo (Onw own B.heap.size) B g (whl (S ++ x)) (opE (S ++ x)) T e w') := fun B V hB hV => by
    obtain ⟨t1, t2⟩ := h2.feed x
    have hb := h2.bds.1
    have hj := whl_join S x
    have hz2 := whl_size (S ++ x)
    have hwx := wh_bd (S ++ x)
    have e1 : (whl (S ++ x)).extract b (whl S).size = (whl S).extract b (whl S).size := by rw [hj]; exact ext_first _ _ _ _ (Nat.le_refl _)
    have e2 : pL (whl (S ++ x)) b = pL (whl S) b ∧ pC (whl (S ++ x)) b = pC (whl S) b := by rw [hj]; exact pL_first _ _ _ hb
    have e3 : (whl (S ++ x)).extract (whl S).size (whl (S ++ x)).size = (opE S ++ x).extract 0 (wh (opE S ++ x)) := by
      have h9 := ext_second (whl S) (whl (opE S ++ x)) 0 (whl (opE S ++ x)).size (Nat.le_refl _)
      rw [Nat.add_zero] at h9
      rw [hj, size_app, h9, extract_all]
      rfl
    have hbd : bd (whl (S ++ x)) (whl S).size := by
      rw [hwl]
      have b1 := bd_wh S x
      have b2 := bd_wh (S ++ x) ByteArray.empty
      rw [app_empty] at b2
      exact bd_head b1 b2 (by rw [wh_join]; omega)
    refine lread_any (T0 := T) (p0 := (whl S).size) (k := k) (b := b) (f := f) (new := []) ⟨?_, by rw [List.append_nil]; exact t1, t2, hbd⟩ (by omega) (fun V hV => hK V (kp_base hB hV)) e3
    rw [e1, e2.1, e2.2]
    exact hV
  have HAn : Hid (∀ B V E, ((E = 0 ∧ ∃ k b f new, SPr (Onw own B.heap.size) B V g (whl (S ++ x)) (opE (S ++ x)) T (whl (S ++ x)).size k b f new) ∨ (E ≠ 0 ∧ Flt (Onw own B.heap.size) B V g (whl (S ++ x)) (opE (S ++ x)) T True E)) → Calls Tryd.prog 15 #[.pointer (some ⟨g, 0, none⟩), .int .i64 (E : Nat)] V fun e' w' => ∃ v A L C, e' = .returned (.tuple #[v, .int .i64 E, .agg #[.int .i64 A, .int .i64 L, .int .i64 C]]) ∧ FPo own B g (S ++ x) T v E A L C w') := fun B V E hz => lans_read hs hz
  have HRf : Hid (∀ V, Below W.heap.size W V → Calls Tryd.prog 13 #[.pointer (some ⟨g, 0, none⟩)] V fun e' w' => e' = .returned (.agg #[.int .i64 0, .int .i64 0, .int .i64 0, .int .i64 0]) ∧ Below V.heap.size V w') := fun V hV => lrefuse_any (blk_below h3 hV)
  have HWh : Hid (∀ V, Calls Tryd.prog 14 #[.string (opE S ++ x)] V fun e w' => e = .returned (.int .i64 (wh (opE S ++ x))) ∧ Below V.heap.size V w') := fun V => whole_any _ V (by omega)
  have hcb := str_bytes
  have HOE : Hid (opE (S ++ x) = (opE S ++ x).extract (wh (opE S ++ x)) (opE S ++ x).size) := opE_join S x
  have hadd : ¬ (9223372036854775807 < (opE S).size + x.size) := by omega
  have i1 : (0 : Int) ≤ wh (opE S ++ x) := by omega
  have i2 : (wh (opE S ++ x) : Int) ≤ (opE S ++ x).size := by omega
  have HTB : Hid (∀ q, vt.ownBlock = some q → own q) := h4.2
  have hb00 : Below W.heap.size W (W.alloc (.cells #[.int .i64 0, .int .i64 0, .int .i64 0] 30)) := (Below.refl _ _).alloc (Nat.le_refl _) _
  have k00 : Box3 (W.alloc (.cells #[.int .i64 0, .int .i64 0, .int .i64 0] 30)) W.heap.size 0 0 0 := Box3.new W 0 0 0
  have HHO := HOE.out
  rw [HHO] at HRd HAn
  subst eo
  have hcv0 : Hid (∀ V, Below W.heap.size W V → (convert 44 9 (.slice op (opE S).size oc)).run Tryd.prog V = .ok (.string (opE S)) V) := fun V hV => conv_open (HB.out V hV).2.ro
  have HOwn : Hid (∀ q, own q → q < W.heap.size) := hown
  clear h2 h3 h4 h5 h6 hK hown HOE HHO hsz hsz2 hoz hwl hwb hwc
  obtain ⟨O, hO⟩ : ∃ O, opE S = O := ⟨_, rfl⟩
  rw [hO] at HB HRd HAn HWh hadd i1 i2 hcv0
  clear hO
  have hsz3 := size_app O x
  rw [hsz3] at HRd HAn
  have HZ3 : Hid ((O ++ x).size = O.size + x.size) := hsz3
  clear hsz3
  generalize wh (O ++ x) = n at *
  go_enter Tryd.func7, Tryd.ntmps7
  go_wp2_with (first | (go_at_call 13; refine (HRf.out _ hb00).mono ?_; rintro e w1 ⟨rfl, hb1⟩; have hbw1 := hb00.trans (hb1.mono hb00.size); have hbV : Below W.heap.size W (w1.alloc (.cells #[.int .i64 0, .int .i64 0, .int .i64 0, .int .i64 0] 42)) := hbw1.alloc hbw1.size _; have hcv := hcv0.out _ hbV; obtain ⟨y1, y2⟩ := HB.out _ hbw1; have c11 : w1.cell? ⟨g, 11, none⟩ = some (.slice op O.size oc) := blk_cell y1 rfl; have hlt1 := blk_lt y1; have k01 := (k00.below hb1).below ((Below.refl _ _).alloc (Nat.le_refl _) (.cells #[.int .i64 0, .int .i64 0, .int .i64 0, .int .i64 0] 42)); clear y1 y2) | (go_at_call 14; refine (HWh.out _).mono ?_; rintro e w2 ⟨rfl, hb2⟩; have hbW2 := hbV.trans (hb2.mono hbV.size); obtain ⟨y1, y2⟩ := HB.out _ hbW2; have d11 : w2.cell? ⟨g, 11, none⟩ = some (.slice op O.size oc) := blk_cell y1 rfl; have z11 := LxB.frozen y1 11; have hlt2 := blk_lt y1; have k02 := k01.below hb2; have HY2 : Hid (LxB w2 g false 0 0 0 0 k b (pL (whl S) b) (pC (whl S) b) f vt (.slice op O.size oc) (.slice none 0 0) ∧ BwS own w2 vt ((whl S).extract b (whl S).size)) := ⟨y1, y2.rt.1, fun q hq => HTB.out q hq⟩; clear y1 y2))
  refine (HRd.out w2 _ hbW2 (open_put HY2.out.1 h1 HY2.out.2 (fun q hq => Nat.lt_of_lt_of_le (HOwn.out q hq) hbW2.size) _ _ _ ?_ _ ?_ _)).mono ?_
  · rw [size_ext _ _ _ (by rw [HZ3.out]; exact Nat.le_refl _)]
  · intro j hj
    exact bytesRow_get _ _ _ hj
  intro e w5 hz
  obtain ⟨E, rfl, hz⟩ := hz
  have hz' := HAn.out _ _ _ hz
  have HZ : Hid (Calls _ _ _ _ _) := hz'
  clear hz' hz
  go_wp2_with (first | (go_at_call 15; refine HZ.out.mono ?_; rintro e w6 ⟨v, A', L', C', rfl, hf⟩; have k06 : Box3 w6 W.heap.size 0 0 0 := hf.box k02 (fun e => absurd (HOwn.out _ e) (Nat.lt_irrefl _)); have g0 := k06.cell0; have g1 := k06.cell1; have g2 := k06.cell2; have f0 := k06.frozen 0; have f1 := k06.frozen 1; have f2 := k06.frozen 2; have HF : Hid (FPo own W g (S ++ x) T v E A' L' C' (((w6.setCell ⟨W.heap.size, 0, none⟩ (.int .i64 A')).setCell ⟨W.heap.size, 1, none⟩ (.int .i64 L')).setCell ⟨W.heap.size, 2, none⟩ (.int .i64 C'))) := (hf.base hbW2).typ k06 (((Kp.set _ _ _ _).trans (Kp.set _ _ _ _)).trans (Kp.set _ _ _ _)) (Nat.le_refl _); clear hf))
  have b6 := ((k06.set0 A').set1 L').set2 C'
  have m0 := b6.cell0
  have m1 := b6.cell1
  have m2 := b6.cell2
  refine bodyPost_ret (v := .tuple #[v, .int .i64 E, .agg #[.int .i64 A', .int .i64 L', .int .i64 C']]) (by simp [results, Tryd.f7, go_sem, m0, m1, m2]) rfl ?_
  exact ⟨v, E, A', L', C', rfl, HF.out⟩

set_option maxRecDepth 100000 in
set_option maxHeartbeats 1000000 in
/-- Feed, behind an error. -/
theorem lfeed_bad {W : World} {g E A : Nat} {L C : Int} (h : LxE W g E A L C) (hE : E ≠ 0) (x : ByteArray) :
    Calls Tryd.prog 7 #[.pointer (some ⟨g, 0, none⟩), .string x] W fun e w' => e = .returned (.tuple #[.slice none 0 0, .int .i64 E, .agg #[.int .i64 A, .int .i64 L, .int .i64 C]]) ∧ Below W.heap.size W w' := by
  have hb00 : Below W.heap.size W (W.alloc (.cells #[.int .i64 0, .int .i64 0, .int .i64 0] 30)) := (Below.refl _ _).alloc (Nat.le_refl _) _
  have k00 : Box3 (W.alloc (.cells #[.int .i64 0, .int .i64 0, .int .i64 0] 30)) W.heap.size 0 0 0 := Box3.new W 0 0 0
  have HRf : Hid (Calls Tryd.prog 13 #[.pointer (some ⟨g, 0, none⟩)] (W.alloc (.cells #[.int .i64 0, .int .i64 0, .int .i64 0] 30)) fun e' w' => e' = .returned (.agg #[.int .i64 E, .int .i64 A, .int .i64 L, .int .i64 C]) ∧ Below (W.alloc (.cells #[.int .i64 0, .int .i64 0, .int .i64 0] 30)).heap.size (W.alloc (.cells #[.int .i64 0, .int .i64 0, .int .i64 0] 30)) w') := lrefuse_any (blk_below h hb00)
  have qE : ((E : Int) != 0) = true := by rw [bne_iff_ne]; omega
  go_enter Tryd.func7, Tryd.ntmps7
  go_wp2_with (first | (go_at_call 13; refine HRf.out.mono ?_; rintro e w1 ⟨rfl, hb1⟩; have k01 := k00.below hb1; have g0 := k01.cell0; have g1 := k01.cell1; have g2 := k01.cell2; have f0 := k01.frozen 0; have f1 := k01.frozen 1; have f2 := k01.frozen 2; have hl1 := k01.lt; have hbw := hb00.trans (hb1.mono hb00.size)))
  have b6 := (((k01.set0 A).set1 L).set2 C).below (((Below.refl _ _).alloc (Nat.le_refl _) (.cells #[.int .i64 E, .int .i64 A, .int .i64 L, .int .i64 C] 42)).drew)
  have m0 := b6.cell0
  have m1 := b6.cell1
  have m2 := b6.cell2
  have hbX : Below W.heap.size W (((w1.setCell ⟨W.heap.size, 0, none⟩ (.int .i64 A)).setCell ⟨W.heap.size, 1, none⟩ (.int .i64 L)).setCell ⟨W.heap.size, 2, none⟩ (.int .i64 C)) := ((hbw.setCell (p := ⟨W.heap.size, 0, none⟩) (Nat.le_refl _) _).setCell (p := ⟨W.heap.size, 1, none⟩) (Nat.le_refl _) _).setCell (p := ⟨W.heap.size, 2, none⟩) (Nat.le_refl _) _
  have HB6 : Hid (Below W.heap.size W ((((w1.setCell ⟨W.heap.size, 0, none⟩ (.int .i64 A)).setCell ⟨W.heap.size, 1, none⟩ (.int .i64 L)).setCell ⟨W.heap.size, 2, none⟩ (.int .i64 C)).alloc (.cells #[.int .i64 E, .int .i64 A, .int .i64 L, .int .i64 C] 42)).drew) := (hbX.alloc hbX.size _).drew
  clear hbX hbw b6
  go_region_law (fail)
  all_goals (
    go_wp2_with fail
    refine bodyPost_ret (v := .tuple #[.slice none 0 0, .int .i64 E, .agg #[.int .i64 A, .int .i64 L, .int .i64 C]]) (by simp [results, Tryd.f7, go_sem, m0, m1, m2]) rfl ?_
    exact ⟨rfl, HB6.out⟩)

/-- The lexer once it is closed. -/
def LxC (W : World) (g : Nat) : Prop := LxB W g true 0 0 0 0 0 0 0 0 0 (.slice none 0 0) (.slice none 0 0) (.slice none 0 0)

set_option maxRecDepth 100000 in
set_option maxHeartbeats 1000000 in
/-- Feed, behind Close. -/
theorem lfeed_done {W : World} {g : Nat} (h : LxC W g) (x : ByteArray) :
    Calls Tryd.prog 7 #[.pointer (some ⟨g, 0, none⟩), .string x] W fun e w' => e = .returned (.tuple #[.slice none 0 0, .int .i64 4, .agg #[.int .i64 0, .int .i64 0, .int .i64 0]]) ∧ Below W.heap.size W w' := by
  have hb00 : Below W.heap.size W (W.alloc (.cells #[.int .i64 0, .int .i64 0, .int .i64 0] 30)) := (Below.refl _ _).alloc (Nat.le_refl _) _
  have k00 : Box3 (W.alloc (.cells #[.int .i64 0, .int .i64 0, .int .i64 0] 30)) W.heap.size 0 0 0 := Box3.new W 0 0 0
  have HRf : Hid (Calls Tryd.prog 13 #[.pointer (some ⟨g, 0, none⟩)] (W.alloc (.cells #[.int .i64 0, .int .i64 0, .int .i64 0] 30)) fun e' w' => e' = .returned (.agg #[.int .i64 4, .int .i64 0, .int .i64 0, .int .i64 0]) ∧ Below (W.alloc (.cells #[.int .i64 0, .int .i64 0, .int .i64 0] 30)).heap.size (W.alloc (.cells #[.int .i64 0, .int .i64 0, .int .i64 0] 30)) w') := lrefuse_any (blk_below h hb00)
  skip
  go_enter Tryd.func7, Tryd.ntmps7
  go_wp2_with (first | (go_at_call 13; refine HRf.out.mono ?_; rintro e w1 ⟨rfl, hb1⟩; have k01 := k00.below hb1; have g0 := k01.cell0; have g1 := k01.cell1; have g2 := k01.cell2; have f0 := k01.frozen 0; have f1 := k01.frozen 1; have f2 := k01.frozen 2; have hl1 := k01.lt; have hbw := hb00.trans (hb1.mono hb00.size)))
  have b6 := (((k01.set0 0).set1 0).set2 0).below (((Below.refl _ _).alloc (Nat.le_refl _) (.cells #[.int .i64 4, .int .i64 0, .int .i64 0, .int .i64 0] 42)).drew)
  have m0 := b6.cell0
  have m1 := b6.cell1
  have m2 := b6.cell2
  have hbX : Below W.heap.size W (((w1.setCell ⟨W.heap.size, 0, none⟩ (.int .i64 0)).setCell ⟨W.heap.size, 1, none⟩ (.int .i64 0)).setCell ⟨W.heap.size, 2, none⟩ (.int .i64 0)) := ((hbw.setCell (p := ⟨W.heap.size, 0, none⟩) (Nat.le_refl _) _).setCell (p := ⟨W.heap.size, 1, none⟩) (Nat.le_refl _) _).setCell (p := ⟨W.heap.size, 2, none⟩) (Nat.le_refl _) _
  have HB6 : Hid (Below W.heap.size W ((((w1.setCell ⟨W.heap.size, 0, none⟩ (.int .i64 0)).setCell ⟨W.heap.size, 1, none⟩ (.int .i64 0)).setCell ⟨W.heap.size, 2, none⟩ (.int .i64 0)).alloc (.cells #[.int .i64 4, .int .i64 0, .int .i64 0, .int .i64 0] 42)).drew) := (hbX.alloc hbX.size _).drew
  clear hbX hbw b6
  go_region_law (fail)
  all_goals (
    go_wp2_with fail
    refine bodyPost_ret (v := .tuple #[.slice none 0 0, .int .i64 4, .agg #[.int .i64 0, .int .i64 0, .int .i64 0]]) (by simp [results, Tryd.f7, go_sem, m0, m1, m2]) rfl ?_
    exact ⟨rfl, HB6.out⟩)

set_option maxRecDepth 100000 in
set_option maxHeartbeats 1000000 in
/-- Feed, of none. -/
theorem lfeed_nil (W : World) (x : ByteArray) :
    Calls Tryd.prog 7 #[.pointer none, .string x] W fun e w' => e = .returned (.tuple #[.slice none 0 0, .int .i64 3, .agg #[.int .i64 0, .int .i64 0, .int .i64 0]]) ∧ Below W.heap.size W w' := by
  have hb00 : Below W.heap.size W (W.alloc (.cells #[.int .i64 0, .int .i64 0, .int .i64 0] 30)) := (Below.refl _ _).alloc (Nat.le_refl _) _
  have k00 : Box3 (W.alloc (.cells #[.int .i64 0, .int .i64 0, .int .i64 0] 30)) W.heap.size 0 0 0 := Box3.new W 0 0 0
  have HRf : Hid (Calls Tryd.prog 13 #[.pointer none] (W.alloc (.cells #[.int .i64 0, .int .i64 0, .int .i64 0] 30)) fun e' w' => e' = .returned (.agg #[.int .i64 3, .int .i64 0, .int .i64 0, .int .i64 0]) ∧ Below (W.alloc (.cells #[.int .i64 0, .int .i64 0, .int .i64 0] 30)).heap.size (W.alloc (.cells #[.int .i64 0, .int .i64 0, .int .i64 0] 30)) w') := lrefuse_nil _
  skip
  go_enter Tryd.func7, Tryd.ntmps7
  go_wp2_with (first | (go_at_call 13; refine HRf.out.mono ?_; rintro e w1 ⟨rfl, hb1⟩; have k01 := k00.below hb1; have g0 := k01.cell0; have g1 := k01.cell1; have g2 := k01.cell2; have f0 := k01.frozen 0; have f1 := k01.frozen 1; have f2 := k01.frozen 2; have hl1 := k01.lt; have hbw := hb00.trans (hb1.mono hb00.size)))
  have b6 := (((k01.set0 0).set1 0).set2 0).below (((Below.refl _ _).alloc (Nat.le_refl _) (.cells #[.int .i64 3, .int .i64 0, .int .i64 0, .int .i64 0] 42)).drew)
  have m0 := b6.cell0
  have m1 := b6.cell1
  have m2 := b6.cell2
  have hbX : Below W.heap.size W (((w1.setCell ⟨W.heap.size, 0, none⟩ (.int .i64 0)).setCell ⟨W.heap.size, 1, none⟩ (.int .i64 0)).setCell ⟨W.heap.size, 2, none⟩ (.int .i64 0)) := ((hbw.setCell (p := ⟨W.heap.size, 0, none⟩) (Nat.le_refl _) _).setCell (p := ⟨W.heap.size, 1, none⟩) (Nat.le_refl _) _).setCell (p := ⟨W.heap.size, 2, none⟩) (Nat.le_refl _) _
  have HB6 : Hid (Below W.heap.size W ((((w1.setCell ⟨W.heap.size, 0, none⟩ (.int .i64 0)).setCell ⟨W.heap.size, 1, none⟩ (.int .i64 0)).setCell ⟨W.heap.size, 2, none⟩ (.int .i64 0)).alloc (.cells #[.int .i64 3, .int .i64 0, .int .i64 0, .int .i64 0] 42)).drew) := (hbX.alloc hbX.size _).drew
  clear hbX hbw b6
  go_region_law (fail)
  all_goals (
    go_wp2_with fail
    refine bodyPost_ret (v := .tuple #[.slice none 0 0, .int .i64 3, .agg #[.int .i64 0, .int .i64 0, .int .i64 0]]) (by simp [results, Tryd.f7, go_sem, m0, m1, m2]) rfl ?_
    exact ⟨rfl, HB6.out⟩)

end Go.Proofs.YtnmjkgjhjnpijaaDoor
