import Derived.Test.YtfkegaencoodbaaDoorEnc0
import Derived.Test.YtfkegaencoodbaaDoorWe
set_option linter.unusedVariables false
set_option linter.unusedSimpArgs false
namespace Go.Proofs.YtfkegaencoodbaaDoor

def rb : List Nat → ByteArray
  | [] => ByteArray.empty
  | c :: l => Utf8.encode (c : Int) ++ rb l

theorem foldl_rb (l : List Nat) : ∀ acc : ByteArray, (l.map (fun i : Nat => (i : Int))).foldl (fun r n => r ++ Utf8.encode n) acc = acc ++ rb l := by
  induction l with
  | nil => intro acc; simp [rb]
  | cons c l ih =>
    intro acc
    simp only [List.map_cons, List.foldl_cons]
    rw [ih, rb, ByteArray.append_assoc]

theorem runes_rb (l : List Nat) : runesBytes (l.map (fun i : Nat => (i : Int))) = rb l := by
  unfold runesBytes
  rw [foldl_rb]
  simp

theorem plc_shift (a b : ByteArray) : ∀ f i, plc (a ++ b) f (a.size + i) = (plc b f i).map (fun k => a.size + k)
  | 0, _ => rfl
  | f + 1, i => by
    unfold plc
    rw [size_app]
    by_cases h : i < b.size
    · rw [if_pos (by omega), if_pos h, List.map_cons]
      have e : dw (a ++ b) (a.size + i) = dw b i := by unfold dw; rw [dec_second]
      rw [e, Nat.add_assoc, plc_shift a b f (i + dw b i)]
    · rw [if_neg (by omega), if_neg h]; rfl

theorem pl_shift (a b : ByteArray) (i : Nat) : pl (a ++ b) (a.size + i) = (pl b i).map (fun k => a.size + k) := by
  unfold pl
  rw [size_app, show a.size + b.size - (a.size + i) = b.size - i by omega]
  exact plc_shift a b _ i

theorem gD_enc (c : Nat) (hc : pt c) : gD (c, (Utf8.encode (c : Int)).size) := by
  have hz := enc_size c hc
  generalize (Utf8.encode (c : Int)).size = n at *
  unfold gD
  show c ≠ 65533 ∨ 1 < n
  by_cases hq : c < 128
  · left; omega
  · right
    rw [hz]
    repeat' split
    all_goals omega

theorem cons_P (E b : ByteArray) (c : Nat) (hd : Utf8.decode (E ++ b) 0 = (c, E.size)) (hpos : 0 < E.size) : P (E ++ b) = 0 :: (P b).map (fun k => E.size + k) := by
  have ew : dw (E ++ b) 0 = E.size := by unfold dw; rw [hd]
  have h1 := pl_lt (E ++ b) 0 (by rw [size_app]; omega)
  rw [ew, Nat.zero_add] at h1
  have h2 := pl_shift E b 0
  rw [Nat.add_zero] at h2
  rw [h2] at h1
  exact h1

theorem cons_dp (E b : ByteArray) (c : Nat) (hd : Utf8.decode (E ++ b) 0 = (c, E.size)) (hpos : 0 < E.size) : (P (E ++ b)).map (dp (E ++ b)) = c :: (P b).map (dp b) := by
  have d0 : dp (E ++ b) 0 = c := by unfold dp; rw [hd]
  have ed : ∀ k, dp (E ++ b) (E.size + k) = dp b k := fun k => by unfold dp; rw [dec_second]
  rw [cons_P E b c hd hpos, List.map_cons, d0, List.map_map]
  refine congrArg (fun x => c :: x) (List.map_congr_left (fun k _ => ?_))
  rw [Function.comp_apply, ed]

theorem all_shift (f g : Nat → Bool) (l : List Nat) (n : Nat) (h : ∀ k, f (n + k) = g k) : (l.map (fun k => n + k)).all f = l.all g := by
  induction l with
  | nil => rfl
  | cons a l ih => rw [List.map_cons, List.all_cons, List.all_cons, h, ih]

theorem cons_gd (E b : ByteArray) (c : Nat) (hd : Utf8.decode (E ++ b) 0 = (c, E.size)) (hpos : 0 < E.size) (hg : gD (c, E.size)) : (P (E ++ b)).all (gd (E ++ b)) = (P b).all (gd b) := by
  have g0 : gd (E ++ b) 0 = true := by
    rw [gd_iff, hd]
    exact hg
  have eg : ∀ k, gd (E ++ b) (E.size + k) = gd b k := fun k => by unfold gd dp dw; rw [dec_second]
  rw [cons_P E b c hd hpos, List.all_cons, g0, Bool.true_and, all_shift _ _ _ _ eg]

theorem rb_cons (c : Nat) (l : List Nat) : rb (c :: l) = Utf8.encode (c : Int) ++ rb l := rfl

theorem rb_points (l : List Nat) (h : ∀ c ∈ l, pt c) : (P (rb l)).map (dp (rb l)) = l ∧ (P (rb l)).all (gd (rb l)) = true := by
  induction l with
  | nil =>
    have e : P (rb []) = [] := pl_ge _ 0 (Nat.zero_le _)
    rw [e]
    exact ⟨List.map_nil, List.all_nil⟩
  | cons c l ih =>
    obtain ⟨i1, i2⟩ := ih (fun x hx => h x (by simp [hx]))
    have hc := h c (by simp)
    rw [rb_cons, cons_dp _ _ c (dec_enc c hc _) (enc_pos c hc), cons_gd _ _ c (dec_enc c hc _) (enc_pos c hc) (gD_enc c hc), i1, i2]
    exact ⟨rfl, rfl⟩

theorem ext_split (s : ByteArray) (i d : Nat) (h : i + d ≤ s.size) : s.extract i (i + d) ++ s.extract (i + d) s.size = s.extract i s.size := by
  have z1 := size_ext s i (i + d) h
  have z2 := size_ext s (i + d) s.size (Nat.le_refl _)
  have z3 := size_ext s i s.size (Nat.le_refl _)
  apply ba_ext
  · rw [size_app]; omega
  · intro k hk
    rw [size_app] at hk
    rw [get_app, z1, get_ext, get_ext, get_ext]
    by_cases hkd : k < d
    · rw [if_pos (by omega), if_pos (by omega), if_pos (by omega)]
    · rw [if_neg (by omega), if_pos (by omega), if_pos (by omega)]
      congr 1; omega

theorem rb_good (s : ByteArray) : ∀ f i, i ≤ s.size → s.size ≤ i + f → (pl s i).all (gd s) = true → rb ((pl s i).map (dp s)) = s.extract i s.size
  | 0, i, h1, h2, _ => by
    rw [pl_ge s i (by omega)]
    apply ba_ext
    · rw [size_ext s i _ (Nat.le_refl _)]; show 0 = _; omega
    · intro k hk
      exact absurd hk (by show ¬ k < 0; omega)
  | f + 1, i, h1, h2, h => by
    by_cases hi : i < s.size
    · have hw := dw_facts s i hi
      rw [pl_lt s i hi, List.all_cons, Bool.and_eq_true] at h
      rw [pl_lt s i hi, List.map_cons, rb, rb_good s f (i + dw s i) hw.2.2 (by omega) h.2, enc_dec s i hi h.1, ext_split s i _ hw.2.2]
    · rw [pl_ge s i (by omega)]
      apply ba_ext
      · rw [size_ext s i _ (Nat.le_refl _)]; show 0 = _; omega
      · intro k hk
        exact absurd hk (by show ¬ k < 0; omega)

theorem rb_bad (s : ByteArray) : ∀ f i, i ≤ s.size → s.size ≤ i + f → s.size - i ≤ (rb ((pl s i).map (dp s))).size ∧ ((pl s i).all (gd s) = false → s.size - i < (rb ((pl s i).map (dp s))).size)
  | 0, i, h1, h2 => by
    rw [pl_ge s i (by omega)]
    exact ⟨by omega, fun h => by cases h⟩
  | f + 1, i, h1, h2 => by
    by_cases hi : i < s.size
    · have hw := dw_facts s i hi
      obtain ⟨q1, q2⟩ := rb_bad s f (i + dw s i) hw.2.2 (by omega)
      rw [pl_lt s i hi, List.map_cons, rb, size_app, List.all_cons]
      by_cases hg : gd s i = true
      · have ee := enc_dec s i hi hg
        have es : (Utf8.encode (dp s i : Int)).size = dw s i := by rw [ee, size_ext s i _ hw.2.2]; omega
        rw [es, hg, Bool.true_and]
        exact ⟨by omega, fun h => by have := q2 h; omega⟩
      · have hb := gd_not s i (by simpa using hg)
        have e1 : dp s i = 65533 := by unfold dp; rw [hb]
        have e2 : dw s i = 1 := by unfold dw; rw [hb]
        have es : (Utf8.encode (dp s i : Int)).size = 3 := by rw [e1]; decide
        rw [es]
        rw [e2] at q1 ⊢
        exact ⟨by omega, fun _ => by omega⟩
    · rw [pl_ge s i (by omega)]
      exact ⟨by omega, fun h => by cases h⟩

/-- A text of a text's points is it just if all of it is good. -/
theorem rb_iff (s : ByteArray) : (rb ((P s).map (dp s)) = s) ↔ (P s).all (gd s) = true := by
  constructor
  · intro h
    cases hb : (P s).all (gd s) with
    | true => rfl
    | false =>
      have := (rb_bad s s.size 0 (Nat.zero_le _) (by omega)).2 hb
      have e : rb ((pl s 0).map (dp s)) = s := h
      rw [e] at this
      omega
  · intro h
    have := rb_good s s.size 0 (Nat.zero_le _) (by omega) h
    rw [extract_all] at this
    exact this

end Go.Proofs.YtfkegaencoodbaaDoor
