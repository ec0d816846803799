import Derived.Test.YtnmjkgjhjnpijaaGreatDoorDc
import Derived.Test.YtnmjkgjhjnpijaaGreatDoorH1
set_option linter.unusedVariables false
set_option linter.unusedSimpArgs false
namespace Go.Proofs.YtnmjkgjhjnpijaaGreatDoor
open Go.RowKit

/-! The document's lexer: its small functions. -/
set_option maxHeartbeats 1000000 in
theorem rplace_any (s : ByteArray) (A : Nat) (w : World) (hs : s.size ≤ 1000000000) (hA : A ≤ s.size) :
    Calls Tryz.prog 30 #[.string s, .int .i64 A] w fun e w' => e = .returned (.agg #[.int .i64 A, .int .i64 (pL s A), .int .i64 (pC s A)]) ∧ Below w.heap.size w w' := by
  have qA : (A : Int) ≤ s.size := by omega
  have qA0 : (0 : Int) ≤ A := by omega
  have HAdv : Hid (∀ V, Calls Tryz.prog 51 #[.agg #[.int .i64 0, .int .i64 1, .int .i64 1], .string (s.extract 0 A)] V fun e w' => e = .returned (.agg #[.int .i64 A, .int .i64 (pL s A), .int .i64 (pC s A)]) ∧ Below V.heap.size V w') := fun V => by
    have := radv_any 0 1 1 (s.extract 0 A) V (by rw [size_ext s 0 A hA]; omega) (by omega)
    rw [at_zero s A hA (by omega)] at this
    exact this
  obtain ⟨XL, hXL⟩ : ∃ x, pL s A = x := ⟨_, rfl⟩
  obtain ⟨XC, hXC⟩ : ∃ x, pC s A = x := ⟨_, rfl⟩
  rw [hXL, hXC] at HAdv ⊢
  clear hXL hXC
  have b0 := Box3.new w 0 0 0
  have hB0 : Below w.heap.size w (w.alloc (.cells #[.int .i64 0, .int .i64 0, .int .i64 0] 36)) := (Below.refl _ w).alloc (Nat.le_refl _) _
  go_enter Tryz.func30, Tryz.ntmps30
  go_wp2_with (first | (go_at_call 51; refine (HAdv.out _).mono ?_; rintro e w2 ⟨rfl, hb2⟩; have b2 := b0.below hb2; have g0 := b2.cell0; have g1 := b2.cell1; have g2 := b2.cell2; have f0 := b2.frozen 0; have f1 := b2.frozen 1; have f2 := b2.frozen 2; have hlt := b2.lt))
  have b4 := ((b2.set0 A).set1 XL).set2 XC
  have m0 := b4.cell0
  have m1 := b4.cell1
  have m2 := b4.cell2
  refine bodyPost_ret (v := .agg #[.int .i64 A, .int .i64 XL, .int .i64 XC]) (by simp [results, Tryz.f30, go_sem, m0, m1, m2]) rfl ?_
  have hB2 := hB0.trans (hb2.mono hB0.size)
  exact ⟨rfl, ((hB2.setCell (p := ⟨w.heap.size, 0, none⟩) (Nat.le_refl _) _).setCell (p := ⟨w.heap.size, 1, none⟩) (Nat.le_refl _) _).setCell (p := ⟨w.heap.size, 2, none⟩) (Nat.le_refl _) _⟩

set_option maxHeartbeats 1000000 in
theorem rearly_any (s : ByteArray) (p : Option Addr) (n c E a : Nat) (r : Bool) (hr : r = true ↔ Early s E a) (w : World) (hs : s.size ≤ 2147483647) (ha : E = 101 → a < s.size) :
    Calls Tryz.prog 27 #[.string s, .agg #[.slice p n c, .int .i64 E, .int .i64 a]] w fun e w' => e = .returned (.bool r) ∧ Below w.heap.size w w' := by
  have hB0 : Below w.heap.size w (w.alloc (.cells #[.slice p n c, .int .i64 E, .int .i64 a] 61)) := (Below.refl _ w).alloc (Nat.le_refl _) _
  by_cases hE : E = 101
  · have ha' := ha hE
    have q1 : ((E : Int) != 101) = false := by rw [hE]; rfl
    have HR : Hid (r = true ↔ (by8 s a = 123 ∨ ¬ lfAt s a)) := by
      constructor
      · intro h; exact (hr.1 h).2
      · intro h; exact hr.2 ⟨hE, h⟩
    have q2 : (0 : Int) ≤ a := by omega
    have q3 : (a : Int) < s.size := by omega
    have HG : Hid ((s[a]'ha').toNat = by8 s a) := by8_get s a ha'
    clear hE hr ha
    by_cases h123 : by8 s a = 123
    · have e1 : (((s[a]'ha').toNat : Int) == 123) = true := by rw [HG.out, h123]; rfl
      have HT : Hid (r = true) := HR.out.2 (.inl h123)
      clear HG h123
      go_enter Tryz.func27, Tryz.ntmps27
      go_wp2_with fail
      go_ret
      exact ⟨by rw [HT.out]; rfl, hB0⟩
    · have e1 : (((s[a]'ha').toNat : Int) == 123) = false := by rw [HG.out]; simp; omega
      have HN : Hid (by8 s a ≠ 123) := h123
      clear HG h123
      go_enter Tryz.func27, Tryz.ntmps27
      go_wp2_with fail
      go_loopw [5] (fun i wr => ∃ k : Nat, a ≤ k ∧ k ≤ s.size ∧ i = .int .i64 k ∧ wr = w.alloc (.cells #[.slice p n c, .int .i64 E, .int .i64 a] 61) ∧ Hid (∀ j, a ≤ j → j < k → by8 s j ≠ 10)) (fun i _ => s.size - (intOf i).toNat)
      case atStart => exact ⟨a, Nat.le_refl _, Nat.le_of_lt ha', rfl, rfl, fun j j1 j2 => by omega⟩
      case round =>
        obtain ⟨k, k1, k2, rfl, hw, HI⟩ := hrel
        subst hw
        by_cases hlt : k < s.size
        · have r1 : (k : Int) < s.size := by omega
          have r2 : (0 : Int) ≤ k := by omega
          have HGk : Hid ((s[k]'hlt).toNat = by8 s k) := by8_get s k hlt
          by_cases h10 : by8 s k = 10
          · have e10 : (((s[k]'hlt).toNat : Int) == 10) = true := by rw [HGk.out, h10]; rfl
            have HT : Hid (r = false) := by
              cases hr : r with
              | false => rfl
              | true =>
                rcases HR.out.1 hr with h | h
                · exact absurd h HN.out
                · exact absurd ⟨k, k1, hlt, h10⟩ h
            clear HGk h10
            go_wp2_with fail
            go_ret
            exact ⟨by rw [HT.out]; rfl, hB0⟩
          · have e10 : (((s[k]'hlt).toNat : Int) == 10) = false := by rw [HGk.out]; simp; omega
            have HI2 : Hid (∀ j, a ≤ j → j < k + 1 → by8 s j ≠ 10) := fun j j1 j2 => by
              by_cases e : j = k
              · rw [e]; exact h10
              · exact HI.out j j1 (by omega)
            clear HGk h10 HI
            go_wp2_with fail
            exact ⟨⟨k + 1, by omega, hlt, by go_num, trivial, HI2⟩, by simp [intOf]; omega⟩
        · obtain rfl : k = s.size := by omega
          have r1 : ¬ (s.size : Int) < s.size := by omega
          have HT : Hid (r = true) := HR.out.2 (.inr (fun ⟨j, j1, j2, j3⟩ => HI.out j j1 j2 j3))
          clear HI
          go_wp2_with fail
          go_ret
          exact ⟨by rw [HT.out]; rfl, hB0⟩
  · have q1 : ((E : Int) != 101) = true := by rw [bne_iff_ne]; omega
    have HT : Hid (r = false) := by
      cases hr' : r with
      | false => rfl
      | true => exact absurd (hr.1 hr').1 hE
    clear hE hr ha
    go_enter Tryz.func27, Tryz.ntmps27
    go_wp2_with fail
    go_ret
    exact ⟨by rw [HT.out]; rfl, hB0⟩

end Go.Proofs.YtnmjkgjhjnpijaaGreatDoor

set_option linter.unusedVariables false
set_option linter.unusedSimpArgs false
namespace Go.Proofs.YtnmjkgjhjnpijaaGreatDoor
open Go.RowKit

/-- The document's lexer at a block. -/
def LB (W : World) (g : Nat) (s : ByteArray) (n E : Nat) (x y z : Int) (cl : Bool) : Prop := W.heap[g]? = some (.cells #[.string s, .int .i64 n, .int .i64 E, .int .i64 x, .int .i64 y, .int .i64 z, .bool cl] 52 (0, 0))
theorem LB.told {W : World} {g : Nat} {s : ByteArray} {n E : Nat} {x y z : Int} {cl : Bool} (h : LB W g s n E x y z cl) (m : Nat) : LB (W.setCell ⟨g, 1, none⟩ (.int .i64 m)) g s m E x y z cl := blk_set h 1 (.int .i64 m)
/-- A row of its own, and all else but a lexer's block. -/
structure TL (w W : World) (g : Nat) (s : ByteArray) (n E : Nat) (x y z : Int) (cl : Bool) (v : Value) (l : List Tv) : Prop where
  lex : LB W g s n E x y z cl
  row : Rt w.heap.size W v l
  kp : Kp (fun k => k = g) w W

set_option maxRecDepth 100000 in
set_option maxHeartbeats 1000000 in
/-- tells: those that were not told, up to the n-th. -/
theorem tells_any (g : Nat) (s : ByteArray) (n E : Nat) (x y z : Int) (cl : Bool) (p : Option Addr) (c : Nat) (L : List Tv) (E' a' m : Nat) (w : World) (hl : LB w g s n E x y z cl) (hL : Lt w p L) (hm : m ≤ L.length) (hz : L.length ≤ 1000000000) (hn : n ≤ 1000000000) (hpg : ∀ a, p = some a → a.block ≠ g) :
    Calls Tryz.prog 28 #[.pointer (some ⟨g, 0, none⟩), .agg #[.slice p L.length c, .int .i64 E', .int .i64 a'], .int .i64 m] w fun e w' => ∃ v, e = .returned v ∧ TL w w' g s (max n m) E x y z cl v ((L.take m).drop n) := by
  have q1 : w.cell? ⟨g, 1, none⟩ = some (.int .i64 n) := blk_cell hl rfl
  have hg := blk_lt hl
  obtain ⟨W0, hW0⟩ : ∃ W0, w.alloc (.cells #[.slice p L.length c, .int .i64 E', .int .i64 a'] 61) = W0 := ⟨_, rfl⟩
  have b0 : Below w.heap.size w W0 := by rw [← hW0]; exact (Below.refl _ w).alloc (Nat.le_refl _) _
  have f0 : FB W0 w.heap.size (.slice p L.length c) E' a' := by rw [← hW0]; exact World.alloc_heap_new w _
  have HS : Hid (TL w W0 g s n E x y z cl (.slice none 0 0) []) := ⟨blk_below hl b0, rt_nil _ _, Kp.of_below b0⟩
  have q2 : W0.cell? ⟨g, 1, none⟩ = some (.int .i64 n) := blk_cell HS.out.lex rfl
  have HL : Hid (∀ V, Kp (fun k => k = g) w V → Lt V p L) := fun V hV => hL.kp hV (fun a e h => hpg a e h)
  have HF0 : Hid (FB W0 w.heap.size (.slice p L.length c) E' a') := f0
  clear q1 hL hpg f0 b0 hl
  go_enter Tryz.func28, Tryz.ntmps28
  go_wp2_with fail
  go_loopw [7, 8] (fun o i wr => ∃ (k : Nat) (l : List Tv) (vp : Option Addr) (vc : Nat), o = .slice vp l.length vc ∧ i = .int .i64 k ∧ n ≤ k ∧ (k ≤ m ∨ k = n) ∧ l.length ≤ k ∧ Hid (l = (L.take k).drop n ∧ TL w wr g s n E x y z cl (.slice vp l.length vc) l ∧ FB wr w.heap.size (.slice p L.length c) E' a')) (fun _ i _ => m - (intOf i).toNat)
  case atStart => exact ⟨n, [], none, 0, rfl, rfl, Nat.le_refl _, .inr rfl, Nat.zero_le _, by rw [List.drop_eq_nil_of_le (by rw [List.length_take]; omega)], HS.out, HF0.out⟩
  case round =>
    obtain ⟨k, l, vp, vc, rfl, rfl, k1, k2, k3, HI⟩ := hrel
    obtain ⟨w5, e5⟩ : ∃ w5, w5 = wr := ⟨wr, rfl⟩
    subst e5
    obtain ⟨i1, i2, i3⟩ := HI.out
    obtain ⟨y0, _, _, y3, _⟩ := i3.cells
    have z1 : w5.cell? ⟨g, 1, none⟩ = some (.int .i64 n) := blk_cell i2.lex rfl
    have z2 : w5.frozen? ⟨g, 1, none⟩ = false := blk_frozen i2.lex
    by_cases hlt : k < m
    · have r1 : (k : Int) < m := by omega
      have r2 : (0 : Int) ≤ k := by omega
      have r3 : (k : Int) < L.length := by omega
      obtain ⟨d, hd⟩ : ∃ d, L[k]? = some d := ⟨_, List.getElem?_eq_getElem (by omega)⟩
      obtain ⟨b, off, hp, c0, c1, c2, c3, c4, c5⟩ := HL.out w5 i2.kp k d hd
      have HT : Hid (l ++ [d] = (L.take (k + 1)).drop n) := by
        show _ = _
        rw [i1, List.take_add_one, hd]
        show _ = ((L.take k) ++ [d]).drop n
        rw [List.drop_append_of_le_length (by rw [List.length_take]; omega)]
      have hba : Below w5.heap.size w5 (w5.alloc (.cells #[.int .u8 d.k, .string d.t, .int .i64 d.a, .int .i64 d.l, .int .i64 d.c, .int .i64 d.f] 43)) := (Below.refl _ _).alloc (Nat.le_refl _) _
      have HAP : Hid (∀ {ops : Array Oper} {rest : List Oper} {o : Oper} {a : Act} {Q : Exit → Act → World → Prop} (hgd : o.guard = none) (sO xO : Operand) (ho : o.op = .call { callee := .builtin .append, args := #[sO, xO], argTypes := #[33, 33] }) (hs : a.eval sO = .slice vp l.length vc) (hx : a.eval xO = .slice (some ⟨w5.heap.size, 0, none⟩) 1 1)
          (h : ∀ vp' vc' w', TL w w' g s n E x y z cl (.slice vp' (l ++ [d]).length vc') (l ++ [d]) → FB w' w.heap.size (.slice p L.length c) E' a' → wpList Tryz.prog ops Q rest (a.put o.dst (.slice vp' (l ++ [d]).length vc')) w'),
          wpList Tryz.prog ops Q (o :: rest) a (w5.alloc (.cells #[.int .u8 d.k, .string d.t, .int .i64 d.a, .int .i64 d.l, .int .i64 d.c, .int .i64 d.f] 43))) := by
        intro ops rest o a Q hgd sO xO ho hs hx h
        have rw5 := i2.row.below hba
        have lx5 := blk_below i2.lex hba
        have fb5 := blk_below i3 hba
        refine app_tok hgd sO xO ho w.heap.size _ l d hs rw5 w5.heap.size 1 hx (World.alloc_heap_new _ _) (by omega) (Nat.le_trans i2.kp.size hba.size) ?_
        intro v' w' hr hb hg' _
        obtain ⟨vp', vc', rfl, _, _⟩ := hr.shape
        refine h vp' vc' w' ⟨(Kp.of_grown hg').blk lx5 (fun e => rw5.ne lx5 (by decide) _ e.symm rfl), hr, ?_⟩ ((Kp.of_grown hg').blk fb5 (fun e => rw5.ne fb5 (by decide) _ e.symm rfl))
        refine (i2.kp.step (Kp.of_below hba) (fun _ _ h => h)).step (Kp.of_grown hg') (fun j hj e => ?_)
        have := rw5.own j e.symm
        omega
      subst hp
      obtain ⟨dk, dt, da, dl, dc, df⟩ := d
      simp only at c0 c1 c2 c3 c4 c5 HAP
      clear i1 i2 i3 hd hba HI
      go_wp2_with (first | (at_builtin; refine HAP.out (by rfl) _ _ (by rfl) (by rfl) (by rfl) ?_; intro vp' vc' w10 T10 F10))
      exact ⟨⟨k + 1, l ++ [⟨dk, dt, da, dl, dc, df⟩], vp', vc', by simp, by go_num, by omega, .inl hlt, by simp; omega, HT.out, T10, F10⟩, by simp [intOf]; omega⟩
    · have r1 : ¬ (k : Int) < m := by omega
      have e1 : l = (L.take m).drop n := by
        rw [i1]
        rcases k2 with h | h
        · rw [show k = m by omega]
        · rw [h, List.drop_eq_nil_of_le (by rw [List.length_take]; omega), List.drop_eq_nil_of_le (by rw [List.length_take]; omega)]
      have HE : Hid (l = (L.take m).drop n) := e1
      have HT2 : Hid (TL w w5 g s n E x y z cl (.slice vp l.length vc) l) := i2
      clear e1 i1 i2 i3 HI
      by_cases hmn : n < m
      · have r5 : (n : Int) < m := by omega
        have HM : Hid (max n m = m) := by show _ = _; omega
        go_wp2_with fail
        go_ret
        refine ⟨_, rfl, ?_⟩
        rw [← HE.out, HM.out]
        exact ⟨HT2.out.lex.told m, HT2.out.row.kp (Kp.set _ _ 1 _) (HT2.out.row.ne HT2.out.lex (by decide)), HT2.out.kp.step (Kp.set _ _ 1 _) (fun _ _ h => h)⟩
      · have r5 : ¬ (n : Int) < m := by omega
        have HM : Hid (max n m = n) := by show _ = _; omega
        go_wp2_with fail
        go_ret
        refine ⟨_, rfl, ?_⟩
        rw [← HE.out, HM.out]
        exact HT2.out

end Go.Proofs.YtnmjkgjhjnpijaaGreatDoor

set_option linter.unusedVariables false
set_option linter.unusedSimpArgs false
namespace Go.Proofs.YtnmjkgjhjnpijaaGreatDoor
open Go.RowKit

set_option maxRecDepth 100000 in
set_option maxHeartbeats 2000000 in
/-- sure: how many of the tokens of whole bytes are sure. -/
theorem rsure_any (s : ByteArray) (p : Option Addr) (K c E a N : Nat) (M : List Tv) (t : Tk) (w : World) (hs : s.size ≤ 2147483647) (hL : Lt w p M) (hM : M.length = K) (hK : K ≤ 1000000000) (hkc : K ≤ c)
    (h0 : K = 0 ∨ E ≠ 0 → N = K) (ht : K ≠ 0 → M[K - 1]? = some (tv s t) ∧ t.a ≤ t.e ∧ t.e ≤ s.size ∧ t.k ≤ 255) (hN : K ≠ 0 → E = 0 → (sureK s t → N = K) ∧ (¬ sureK s t → N = K - 1)) :
    Calls Tryz.prog 29 #[.string s, .agg #[.slice p K c, .int .i64 E, .int .i64 a]] w fun e w' => e = .returned (.int .i64 N) ∧ Below w.heap.size w w' := by
  have hB0 : Below w.heap.size w (w.alloc (.cells #[.slice p K c, .int .i64 E, .int .i64 a] 61)) := (Below.refl _ w).alloc (Nat.le_refl _) _
  by_cases hK0 : K = 0
  · have q1 : ((K : Int) == 0) = true := by simp; omega
    have HT : Hid (N = K) := h0 (.inl hK0)
    clear h0 ht hN hL hM hK0
    go_enter Tryz.func29, Tryz.ntmps29
    go_wp2_with fail
    go_ret
    exact ⟨by rw [HT.out]; rfl, hB0⟩
  · have q1 : ((K : Int) == 0) = false := by simp; omega
    by_cases hE : E = 0
    · have q2 : ((E : Int) != 0) = false := by rw [hE]; rfl
      obtain ⟨h1, h2, h3, h4⟩ := ht hK0
      obtain ⟨n1, n2⟩ := hN hK0 hE
      obtain ⟨b, off, hp, c0, c1, c2, c3, c4, c5⟩ := hL (K - 1) _ h1
      subst hp
      have e0 : (tv s t).k = t.k := rfl
      have e1 : (tv s t).t = s.extract t.a t.e := rfl
      have e2 : (tv s t).a = t.a := rfl
      have e3 : (tv s t).l = pL s t.a := rfl
      have e4 : (tv s t).c = pC s t.a := rfl
      have e5 : (tv s t).f = t.f := rfl
      rw [e0] at c0
      rw [e1] at c1
      rw [e2] at c2
      rw [e3] at c3
      rw [e4] at c4
      rw [e5] at c5
      obtain ⟨A1, hA1⟩ : ∃ x, pL s t.a = x := ⟨_, rfl⟩
      obtain ⟨A2, hA2⟩ : ∃ x, pC s t.a = x := ⟨_, rfl⟩
      rw [hA1] at c3
      rw [hA2] at c4
      have hez := size_ext s t.a t.e h3
      have wE : IntKind.i64.wrap ((t.a : Int) + ((s.extract t.a t.e).size : Int)) = (t.e : Int) := by rw [IntKind.wrap_i64, hez]; omega
      have wK : IntKind.i64.wrap ((K : Int) - 1) = ((K - 1 : Nat) : Int) := by rw [IntKind.wrap_i64]; omega
      have i1 : (0 : Int) ≤ ((K - 1 : Nat) : Int) := by omega
      have i2 : ((K - 1 : Nat) : Int) < K := by omega
      have HN1 : Hid (sureK s t → N = K) := n1
      have HN2 : Hid (¬ sureK s t → N = K - 1) := n2
      have HK : Hid (sureK s t ↔ (t.k = 4 ∨ t.k = 5 ∨ t.k = 8 ∨ (t.k = 7 ∧ lfAt s t.e) ∨ (t.k ≠ 7 ∧ t.e < s.size))) := Iff.rfl
      obtain ⟨tk, ta, te, tf⟩ := t
      simp only at c0 c1 c2 c3 c4 c5 wE HK h2 h3 h4
      obtain ⟨J, hJ⟩ : ∃ J, K - 1 = J := ⟨_, rfl⟩
      rw [hJ] at c0 c1 c2 c3 c4 c5 wK i1 i2
      have HJ : Hid (K - 1 = J) := hJ
      generalize s.extract ta te = X at *
      clear h0 ht hN hL hM hK0 hE n1 n2 h1 e0 e1 e2 e3 e4 e5 hA1 hA2 hez hJ
      have hlt := World.block_lt_of_cell? _ _ c0
      have hB1 : Below w.heap.size w ((w.alloc (.cells #[.slice (some ⟨b, off, none⟩) K c, .int .i64 E, .int .i64 a] 61)).alloc (.cells #[.int .u8 tk, .string X, .int .i64 ta, .int .i64 A1, .int .i64 A2, .int .i64 tf] 43)) := hB0.alloc hB0.size _
      have wN : IntKind.i64.wrap ((K : Int) - 1) = (J : Int) := wK
      rcases (show tk = 4 ∨ tk = 5 ∨ tk = 8 ∨ tk = 7 ∨ (tk ≠ 4 ∧ tk ≠ 5 ∧ tk ≠ 8 ∧ tk ≠ 7) by omega) with hk | hk | hk | hk | hk
      · have HT : Hid (N = K) := HN1.out (HK.out.2 (.inl hk))
        have f4 : ((tk : Int) == 4) = true := by simp; omega
        have f5 : ((tk : Int) == 5) = false := by simp; omega
        have f8 : ((tk : Int) == 8) = false := by simp; omega
        have f7 : ((tk : Int) == 7) = false := by simp; omega
        clear hk HK HN1 HN2 HJ
        go_enter Tryz.func29, Tryz.ntmps29
        go_wp2_with fail
        go_ret
        exact ⟨by rw [HT.out]; rfl, hB1⟩
      · have HT : Hid (N = K) := HN1.out (HK.out.2 (.inr (.inl hk)))
        have f4 : ((tk : Int) == 4) = false := by simp; omega
        have f5 : ((tk : Int) == 5) = true := by simp; omega
        have f8 : ((tk : Int) == 8) = false := by simp; omega
        have f7 : ((tk : Int) == 7) = false := by simp; omega
        clear hk HK HN1 HN2 HJ
        go_enter Tryz.func29, Tryz.ntmps29
        go_wp2_with fail
        go_ret
        exact ⟨by rw [HT.out]; rfl, hB1⟩
      · have HT : Hid (N = K) := HN1.out (HK.out.2 (.inr (.inr (.inl hk))))
        have f4 : ((tk : Int) == 4) = false := by simp; omega
        have f5 : ((tk : Int) == 5) = false := by simp; omega
        have f8 : ((tk : Int) == 8) = true := by simp; omega
        have f7 : ((tk : Int) == 7) = false := by simp; omega
        clear hk HK HN1 HN2 HJ
        go_enter Tryz.func29, Tryz.ntmps29
        go_wp2_with fail
        go_ret
        exact ⟨by rw [HT.out]; rfl, hB1⟩
      · have HS : Hid (lfAt s te → N = K) := fun h => HN1.out (HK.out.2 (.inr (.inr (.inr (.inl ⟨hk, h⟩)))))
        have HU : Hid (¬ lfAt s te → N = J) := fun h => by
          rw [← HJ.out]
          refine HN2.out (fun hx => ?_)
          rcases HK.out.1 hx with h9 | h9 | h9 | ⟨_, h9⟩ | ⟨h9, _⟩
          · omega
          · omega
          · omega
          · exact h h9
          · exact h9 hk
        have f4 : ((tk : Int) == 4) = false := by simp; omega
        have f5 : ((tk : Int) == 5) = false := by simp; omega
        have f8 : ((tk : Int) == 8) = false := by simp; omega
        have f7 : ((tk : Int) == 7) = true := by simp; omega
        clear hk HK HN1 HN2 HJ
        go_enter Tryz.func29, Tryz.ntmps29
        go_wp2_with fail
        go_loopw [8] (fun i wr => ∃ k : Nat, te ≤ k ∧ k ≤ s.size ∧ i = .int .i64 k ∧ wr = ((w.alloc (.cells #[.slice (some ⟨b, off, none⟩) K c, .int .i64 E, .int .i64 a] 61)).alloc (.cells #[.int .u8 tk, .string X, .int .i64 ta, .int .i64 A1, .int .i64 A2, .int .i64 tf] 43)) ∧ Hid (∀ j, te ≤ j → j < k → by8 s j ≠ 10)) (fun i _ => s.size - (intOf i).toNat)
        case atStart => exact ⟨te, Nat.le_refl _, h3, rfl, rfl, fun j j1 j2 => by omega⟩
        case round =>
          obtain ⟨k, k1, k2, rfl, hw, HI⟩ := hrel
          subst hw
          by_cases hlt2 : k < s.size
          · have r1 : (k : Int) < s.size := by omega
            have r2 : (0 : Int) ≤ k := by omega
            have HGk : Hid ((s[k]'hlt2).toNat = by8 s k) := by8_get s k hlt2
            by_cases h10 : by8 s k = 10
            · have e10 : (((s[k]'hlt2).toNat : Int) == 10) = true := by rw [HGk.out, h10]; rfl
              have HT : Hid (N = K) := HS.out ⟨k, k1, hlt2, h10⟩
              clear HGk h10 HI
              go_wp2_with fail
              go_ret
              exact ⟨by rw [HT.out]; rfl, hB1⟩
            · have e10 : (((s[k]'hlt2).toNat : Int) == 10) = false := by rw [HGk.out]; simp; omega
              have HI2 : Hid (∀ j, te ≤ j → j < k + 1 → by8 s j ≠ 10) := fun j j1 j2 => by
                by_cases e : j = k
                · rw [e]; exact h10
                · exact HI.out j j1 (by omega)
              clear HGk h10 HI
              go_wp2_with fail
              exact ⟨⟨k + 1, by omega, hlt2, by go_num, trivial, HI2⟩, by simp [intOf]; omega⟩
          · obtain rfl : k = s.size := by omega
            have r1 : ¬ (s.size : Int) < s.size := by omega
            have HT : Hid (N = J) := HU.out (fun ⟨j, j1, j2, j3⟩ => HI.out j j1 j2 j3)
            clear HI
            go_wp2_with fail
            go_ret
            exact ⟨by rw [HT.out]; rfl, hB1⟩
      · by_cases hte : te < s.size
        · have r1 : (te : Int) < s.size := by omega
          have HT : Hid (N = K) := HN1.out (HK.out.2 (.inr (.inr (.inr (.inr ⟨hk.2.2.2, hte⟩)))))
          have f4 : ((tk : Int) == 4) = false := by simp; omega
          have f5 : ((tk : Int) == 5) = false := by simp; omega
          have f8 : ((tk : Int) == 8) = false := by simp; omega
          have f7 : ((tk : Int) == 7) = false := by simp; omega
          clear hk HK HN1 HN2 HJ
          go_enter Tryz.func29, Tryz.ntmps29
          go_wp2_with fail
          go_ret
          exact ⟨by rw [HT.out]; rfl, hB1⟩
        · have r1 : ¬ (te : Int) < s.size := by omega
          have HT : Hid (N = J) := by
            show _ = _
            rw [← HJ.out]
            refine HN2.out (fun hx => ?_)
            rcases HK.out.1 hx with h9 | h9 | h9 | ⟨h9, _⟩ | ⟨_, h9⟩ <;> omega
          have f4 : ((tk : Int) == 4) = false := by simp; omega
          have f5 : ((tk : Int) == 5) = false := by simp; omega
          have f8 : ((tk : Int) == 8) = false := by simp; omega
          have f7 : ((tk : Int) == 7) = false := by simp; omega
          clear hk HK HN1 HN2 HJ
          go_enter Tryz.func29, Tryz.ntmps29
          go_wp2_with fail
          go_ret
          exact ⟨by rw [HT.out]; rfl, hB1⟩
    · have q2 : ((E : Int) != 0) = true := by rw [bne_iff_ne]; omega
      have HT : Hid (N = K) := h0 (.inr hE)
      clear h0 ht hN hL hM hK0 hE
      go_enter Tryz.func29, Tryz.ntmps29
      go_wp2_with fail
      go_ret
      exact ⟨by rw [HT.out]; rfl, hB0⟩

end Go.Proofs.YtnmjkgjhjnpijaaGreatDoor
