import Derived.Test.YtnmjkgjhjnpijaaDoorJc
set_option linter.unusedVariables false
set_option linter.unusedSimpArgs false
namespace Go.Proofs.YtnmjkgjhjnpijaaDoor
open Go.RowKit

set_option maxRecDepth 100000 in
set_option maxHeartbeats 1000000 in
theorem lstep_in {S : Nat → Prop} {w0 W : World} {g : Nat} {s o : ByteArray} {T0 : List Tk} {p k b f : Nat} {new : List Tk} (h : SPr S w0 W g s o T0 p k b f new) (hk : 5 ≤ k)
    (hI : Calls Tryd.prog 25 #[.pointer (some ⟨g, 0, none⟩), .int .i32 (xp s p), .string (s.extract p (xq s p))] W fun e w' => SPo S w0 g s o T0 p e w') :
    Calls Tryd.prog 18 #[.pointer (some ⟨g, 0, none⟩), .int .i32 (xp s p), .string (s.extract p (xq s p))] W fun e w' => SPo S w0 g s o T0 p e w' := by
  obtain ⟨c5, z5, hgl⟩ := h.cell
  have HI : Hid (Calls Tryd.prog 25 #[.pointer (some ⟨g, 0, none⟩), .int .i32 (xp s p), .string (s.extract p (xq s p))] W fun e w' => SPo S w0 g s o T0 p e w') := hI
  have q0 : ((k : Int) == 0) = false := by simp; omega
  have q1 : ((k : Int) == 1) = false := by simp; omega
  have q2 : ((k : Int) == 2) = false := by simp; omega
  have q3 : ((k : Int) == 3) = false := by simp; omega
  have q4 : ((k : Int) == 4) = false := by simp; omega
  clear h hI hk
  go_enter Tryd.func18, Tryd.ntmps18
  go_wp2_with fail
  go_step3
  go_wp2_with (first | (go_at_call 25; refine HI.out.mono ?_; intro e w9 hz; obtain ⟨E, k', b', f', p', new', rfl, hz'⟩ := hz; have HF : Hid (SPo S w0 g s o T0 p (.returned (.int .i64 E)) w9) := ⟨E, k', b', f', p', new', rfl, hz'⟩; clear hz'))
  go_ret
  exact HF.out

/-- step. -/
theorem lstep_any {S : Nat → Prop} {w0 W : World} {g : Nat} {s o : ByteArray} {T0 : List Tk} {p k b f : Nat} {new : List Tk} (h : SPr S w0 W g s o T0 p k b f new) (hs : s.size ≤ 1000000000) (hK : ∀ V, Kp S w0 V → Kab V) :
    Calls Tryd.prog 18 #[.pointer (some ⟨g, 0, none⟩), .int .i32 (xp s p), .string (s.extract p (xq s p))] W fun e w' => SPo S w0 g s o T0 p e w' := by
  have hk : k = 0 ∨ k = 1 ∨ k = 2 ∨ k = 3 ∨ k = 4 ∨ k = 5 ∨ k = 6 ∨ k = 7 ∨ k = 8 := by
    cases h.ms <;> simp
  have hc : s.size ≤ p ∨ (p < s.size ∧ by8 s p = 10) ∨ (p < s.size ∧ by8 s p ≠ 10 ∧ tkBl (by8 s p) = true) ∨ (p < s.size ∧ by8 s p ≠ 10 ∧ tkBl (by8 s p) = false ∧ bgK s p = 0) ∨ (p < s.size ∧ by8 s p ≠ 10 ∧ tkBl (by8 s p) = false ∧ bgK s p ≠ 0) := by
    by_cases hp : p < s.size
    · by_cases h10 : by8 s p = 10
      · exact .inr (.inl ⟨hp, h10⟩)
      · cases hb : tkBl (by8 s p) with
        | true => exact .inr (.inr (.inl ⟨hp, h10, rfl⟩))
        | false =>
          by_cases h0 : bgK s p = 0
          · exact .inr (.inr (.inr (.inl ⟨hp, h10, rfl, h0⟩)))
          · exact .inr (.inr (.inr (.inr ⟨hp, h10, rfl, h0⟩)))
    · exact .inl (by omega)
  rcases hk with rfl | rfl | rfl | rfl | rfl | rfl | rfl | rfl | rfl
  · rcases hc with hp | ⟨hp, h10⟩ | ⟨hp, h10, hb⟩ | ⟨hp, h10, hb, h0⟩ | ⟨hp, h10, hb, h0⟩
    · exact lstep0_end h hs hK hp
    · exact lstep0_lf h hs hK hp h10
    · exact lstep0_bl h hs hK hp h10 hb
    · exact lstep0_no h hs hK hp h10 hb h0
    · exact lstep0_be h hs hK hp h10 hb _ rfl h0
  · by_cases hon : p < s.size ∧ (gd s p && pr' (dp s p)) = true
    · exact lstep1_on h hs hK hon.1 hon.2
    · have hoff : p < s.size → (gd s p && pr' (dp s p)) = false := fun hp => by
        cases e : (gd s p && pr' (dp s p)) with
        | false => rfl
        | true => exact absurd ⟨hp, e⟩ hon
      rcases hc with hp | ⟨hp, h10⟩ | ⟨hp, h10, hb⟩ | ⟨hp, h10, hb, h0⟩ | ⟨hp, h10, hb, h0⟩
      · exact lstep1_end h hs hK hp hoff
      · exact lstep1_lf h hs hK hp h10 hoff
      · exact lstep1_bl h hs hK hp h10 hb hoff
      · exact lstep1_no h hs hK hp h10 hb h0 hoff
      · exact lstep1_be h hs hK hp h10 hb _ rfl h0 hoff
  · by_cases hon : p < s.size ∧ tkDg (by8 s p) = true
    · exact lstep2_on h hs hK hon.1 hon.2
    · have hoff : p < s.size → tkDg (by8 s p) = false := fun hp => by
        cases e : tkDg (by8 s p) with
        | false => rfl
        | true => exact absurd ⟨hp, e⟩ hon
      rcases hc with hp | ⟨hp, h10⟩ | ⟨hp, h10, hb⟩ | ⟨hp, h10, hb, h0⟩ | ⟨hp, h10, hb, h0⟩
      · exact lstep2_end h hs hK hp hoff
      · exact lstep2_lf h hs hK hp h10 hoff
      · exact lstep2_bl h hs hK hp h10 hb hoff
      · exact lstep2_no h hs hK hp h10 hb h0 hoff
      · exact lstep2_be h hs hK hp h10 hb _ rfl h0 hoff
  · by_cases hl : p < s.size ∧ s.extract b (p + dw s p) = twoSl
    · exact lstep3_line h hs hK hl.1 hl.2
    · have hl' : p < s.size → s.extract b (p + dw s p) ≠ twoSl := fun hp e => hl ⟨hp, e⟩
      by_cases hon : p < s.size ∧ p - b < (sg (s.extract b (p + dw s p)) 0).size
      · exact lstep3_on h hs hK hon.1 (hl' hon.1) hon.2
      · have hoff : p < s.size → ¬ p - b < (sg (s.extract b (p + dw s p)) 0).size := fun hp e => hon ⟨hp, e⟩
        rcases hc with hp | ⟨hp, h10⟩ | ⟨hp, h10, hb⟩ | ⟨hp, h10, hb, h0⟩ | ⟨hp, h10, hb, h0⟩
        · exact lstep3_end h hs hK hp hl' hoff
        · exact lstep3_lf h hs hK hp h10 hl' hoff
        · exact lstep3_bl h hs hK hp h10 hb hl' hoff
        · exact lstep3_no h hs hK hp h10 hb h0 hl' hoff
        · exact lstep3_be h hs hK hp h10 hb _ rfl h0 hl' hoff
  · by_cases hp : p < s.size
    · by_cases h10 : by8 s p = 10
      · exact lstep4_lf h hs hK hp h10
      · exact lstep4_on h hs hK hp h10
    · exact lstep4_end h hs hK (by omega)
  · exact lstep_in h (by decide) (linside_block h hs)
  · exact lstep_in h (by decide) (linside_text h hs)
  · exact lstep_in h (by decide) (linside_char h hs)
  · exact lstep_in h (by decide) (linside_quote h hs)

/-- Something is wrong: what, and where. -/
def Flt (S : Nat → Prop) (w0 w' : World) (g : Nat) (s o : ByteArray) (T0 : List Tk) (fin : Prop) (E : Nat) : Prop :=
  ∃ (k b f p' : Nat) (new : List Tk) (A : Nat), Lq S w0 w' g k b (pL s b) (pC s b) f (s.extract b p') o (new.map (tv s)) ∧ bd s b ∧ bd s p' ∧ b ≤ p' ∧ scn s = (T0 ++ new, E, A) ∧ (fin → ¬ Early s E A) ∧ A = if E = 102 then p' else b
/-- What read leaves. -/
def RPo (S : Nat → Prop) (w0 : World) (g : Nat) (s o : ByteArray) (T0 : List Tk) (e : Ending) (w' : World) : Prop :=
  ∃ E : Nat, e = .returned (.int .i64 E) ∧ ((E = 0 ∧ ∃ k b f new, SPr S w0 w' g s o T0 s.size k b f new) ∨ (E ≠ 0 ∧ Flt S w0 w' g s o T0 True E))

set_option maxRecDepth 100000 in
set_option maxHeartbeats 1000000 in
/-- read goes through the characters from a place on. -/
theorem lread_any {S : Nat → Prop} {w0 W : World} {g : Nat} {s o c : ByteArray} {T0 : List Tk} {p0 k b f : Nat} {new : List Tk} (h : SPr S w0 W g s o T0 p0 k b f new) (hs : s.size ≤ 1000000000) (hK : ∀ V, Kp S w0 V → Kab V) (hc : s.extract p0 s.size = c) :
    Calls Tryd.prog 16 #[.pointer (some ⟨g, 0, none⟩), .string c] W fun e w' => RPo S w0 g s o T0 e w' := by
  have hp0 : p0 ≤ s.size := bd_le h.pd
  have hz : c.size = s.size - p0 := by rw [← hc]; exact size_ext s p0 s.size (Nat.le_refl _)
  have HSt : Hid (∀ V i, ∀ {k b f : Nat} {new : List Tk}, SPr S w0 V g s o T0 (p0 + i) k b f new → i < c.size → Calls Tryd.prog 18 #[.pointer (some ⟨g, 0, none⟩), .int .i32 (dp c i), .string (c.extract i (i + dw c i))] V fun e w' => SPo S w0 g s o T0 (p0 + i) e w') := fun V i k b f new hV hi => by
    have h1 := lstep_any hV hs hK
    have hp : p0 + i < s.size := by omega
    have hd := (dw_facts s (p0 + i) hp).2.2
    have e1 : dp c i = dp s (p0 + i) := by unfold dp; rw [← hc, decode_tail s p0 i hp0]
    have e2 : dw c i = dw s (p0 + i) := by unfold dw; rw [← hc, decode_tail s p0 i hp0]
    rw [xp_in hp, xq_in hp] at h1
    rw [e1, e2, ← hc, ext_ext s p0 s.size i (i + dw s (p0 + i)) (Nat.le_refl _) (by omega) (by omega), show p0 + (i + dw s (p0 + i)) = p0 + i + dw s (p0 + i) by omega]
    exact h1
  have HNx : Hid (∀ V i, i < c.size → Calls Tryd.prog 24 #[.string c, .int .i64 i] V fun e w' => e = .returned (.tuple #[.int .i64 (dp c i), .int .i64 (dw c i), .bool (gd c i)]) ∧ Below V.heap.size V w') := fun V i hi => by
    have := next_in c i V (by unfold maxLen; omega) (by omega) (by omega)
    rw [Int.toNat_natCast] at this
    exact this
  have HDw : Hid (∀ i, i < c.size → 1 ≤ dw c i ∧ i + dw c i ≤ c.size ∧ dw c i = dw s (p0 + i) ∧ dp c i ≤ 1114111) := fun i hi => by
    have := dw_facts c i hi
    exact ⟨this.1, this.2.2, by unfold dw; rw [← hc, decode_tail s p0 i hp0], dp_le c i⟩
  have H0 : Hid (SPr S w0 W g s o T0 p0 k b f new) := h
  have hcz : c.size ≤ 1000000000 := by omega
  have HZ : Hid (c.size = s.size - p0) := hz
  clear h hc hz
  go_enter Tryd.func16, Tryd.ntmps16
  go_wp2_with fail
  go_loopw [5] (fun i wr => ∃ j : Nat, i = .int .i64 j ∧ j ≤ c.size ∧ Hid (∃ k b f new, SPr S w0 wr g s o T0 (p0 + j) k b f new)) (fun i _ => c.size - (intOf i).toNat)
  case atStart => exact ⟨0, rfl, Nat.zero_le _, _, _, _, _, H0.out⟩
  case round =>
    obtain ⟨j, rfl, hj, HI⟩ := hrel
    obtain ⟨w5, e5⟩ : ∃ w5, w5 = wr := ⟨wr, rfl⟩
    subst e5
    by_cases hlt : j < c.size
    · have r1 : (j : Int) < c.size := by omega
      obtain ⟨d1, d2, d3, d4⟩ := HDw.out j hlt
      have HN : Hid (∀ V, Calls Tryd.prog 24 #[.string c, .int .i64 j] V fun e w' => e = .returned (.tuple #[.int .i64 (dp c j), .int .i64 (dw c j), .bool (gd c j)]) ∧ Below V.heap.size V w') := fun V => HNx.out V j hlt
      have HS : Hid (∀ V, Below w5.heap.size w5 V → Calls Tryd.prog 18 #[.pointer (some ⟨g, 0, none⟩), .int .i32 (dp c j), .string (c.extract j (j + dw c j))] V fun e w' => SPo S w0 g s o T0 (p0 + j) e w') := fun V hV => by
        obtain ⟨k, b, f, new, hI⟩ := HI.out
        exact HSt.out V j (hI.below hV) hlt
      have w32 : IntKind.i32.wrap (dp c j : Int) = dp c j := by rw [IntKind.wrap_i32]; omega
      have wad : IntKind.i64.wrap ((j : Int) + (dw c j : Int)) = ((j + dw c j : Nat) : Int) := by rw [IntKind.wrap_i64]; omega
      have b1 : (j : Int) ≤ ((j + dw c j : Nat) : Int) := by omega
      have b2 : ((j + dw c j : Nat) : Int) ≤ c.size := by omega
      have HD3 : Hid (dw c j = dw s (p0 + j)) := d3
      clear HNx HSt HDw HI H0 d3
      generalize dp c j = x at *
      generalize dw c j = y at *
      generalize gd c j = z at *
      go_wp2_with (first | (go_at_call 24; refine (HN.out _).mono ?_; rintro e w6 ⟨rfl, hb6⟩))
      refine (HS.out _ hb6).mono ?_
      intro e w9 hz
      obtain ⟨E, k', b', f', p', new', rfl, z1, z2, z3, z4, z5⟩ := hz
      rcases z5 with ⟨rfl, y1, y2, y3, y4⟩ | ⟨rfl, y1, y2⟩ | ⟨y1, A, y2, y3, y4⟩
      · have HN2 : Hid (∃ k b f new, SPr S w0 w9 g s o T0 (p0 + (j + y)) k b f new) := ⟨k', b', f', new', by
          rw [y2, ← HD3.out, show p0 + j + y = p0 + (j + y) by omega] at z1 z3 y4
          exact ⟨z1, y3, y4, z3⟩⟩
        clear z1 z2 z3 z4 y1 y2 y3 y4 HS HN HD3
        go_wp2_with fail
        exact ⟨⟨j + y, by go_num, by omega, HN2⟩, by simp [intOf]; omega⟩
      · have := HZ.out
        omega
      · have qE : ((E : Int) != 0) = true := by rw [bne_iff_ne]; omega
        have HF : Hid (RPo S w0 g s o T0 (.returned (.int .i64 E)) w9) := ⟨E, rfl, .inr ⟨y1, k', b', f', p', new', A, z1, z2, z3, z4, y2, fun _ => y3 (by have := HZ.out; omega), y4⟩⟩
        clear z1 z2 z3 z4 y1 y2 y3 y4 HS HN HD3
        go_wp2_with fail
        go_ret
        exact HF.out
    · obtain rfl : j = c.size := by omega
      have r1 : ¬ (c.size : Int) < c.size := by omega
      have HF : Hid (RPo S w0 g s o T0 (.returned (.int .i64 0)) w5) := by
        obtain ⟨k, b, f, new, hI⟩ := HI.out
        rw [show p0 + c.size = s.size by have := HZ.out; omega] at hI
        exact ⟨0, rfl, .inl ⟨rfl, k, b, f, new, hI⟩⟩
      clear HI H0
      go_wp2_with fail
      go_ret
      exact HF.out

end Go.Proofs.YtnmjkgjhjnpijaaDoor
