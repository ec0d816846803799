import Derived.Test.YtnmjkgjhjnpijaaGreatDoorGf
import Derived.Test.YtnmjkgjhjnpijaaGreatDoorJg
import Derived.Test.YtnmjkgjhjnpijaaGreatDoorH1
import Derived.WalkMore
set_option linter.unusedVariables false
set_option linter.unusedSimpArgs false
namespace Go.Proofs.YtnmjkgjhjnpijaaGreatDoor
open Go.RowKit

theorem last_of {α : Type} {l : List α} (h : l.length ≠ 0) : ∃ t, l[l.length - 1]? = some t ∧ t ∈ l := by
  have : l.length - 1 < l.length := by omega
  exact ⟨l[l.length - 1], List.getElem?_eq_getElem this, List.getElem_mem this⟩
theorem fnd_101 (s : ByteArray) : ∀ (d a f : Nat), s.size - a ≤ d → (fnd s a f).2.1 = 101 → (fnd s a f).2.2 < s.size
  | d, a, f, hd => by
    by_cases h : a < s.size
    · rw [fnd_step s a f h]
      cases d with
      | zero => omega
      | succ d =>
        by_cases h1 : by8 s a = 10
        · rw [if_pos h1]; exact fnd_101 s d (a + 1) (f + 1) (by omega)
        · rw [if_neg h1]
          by_cases h2 : tkBl (by8 s a) = true
          · rw [if_pos h2]; exact fnd_101 s d (a + 1) f (by omega)
          · rw [if_neg h2]
            by_cases h3 : tkBgn s a = 0
            · rw [if_pos h3]; intro e; cases e
            · rw [if_neg h3]
              by_cases h4 : (tkEnd s a (tkBgn s a)).2 ≠ 0
              · rw [if_pos h4]
                intro e
                have e' : (tkEnd s a (tkBgn s a)).2 = 101 := e
                rcases end_err h (p := (tkEnd s a (tkBgn s a)).1) (e := (tkEnd s a (tkBgn s a)).2) rfl h4 with ⟨h5, _⟩ | ⟨h5, _⟩
                · show (tkEnd s a (tkBgn s a)).1 < s.size
                  omega
                · omega
              · rw [if_neg h4]
                have h5 := tkEnd_ok s a (tkBgn s a) (tkEnd s a (tkBgn s a)).1 h rfl h3 (Prod.ext rfl (by simpa using h4))
                exact fnd_101 s d (tkEnd s a (tkBgn s a)).1 0 (by omega)
    · rw [fnd_end s a f (by omega)]; intro e; cases e
theorem err_lt (s : ByteArray) {a : Nat} (h : (scn s).2.1 = 101) (h2 : (scn s).2.2 = a) : a < s.size := by
  rw [← h2]; exact fnd_101 s s.size 0 0 (by omega) h
/-- The document's Feed, where nothing is wrong yet. -/
theorem rfeed_st {W : World} {g : Nat} {S x : ByteArray} {T new : List Tk} {k b f : Nat} (h : LB W g S T.length 0 0 0 0 false) (hs : (S ++ x).size ≤ 1000000000) (hst : St (S ++ x) (T ++ new) k b f) :
    Calls Tryz.prog 14 #[.pointer (some ⟨g, 0, none⟩), .string x] W fun e w' => ∃ v, e = .returned (.tuple #[v, .int .i64 0, .agg #[.int .i64 0, .int .i64 0, .int .i64 0]]) ∧ TL W w' g (S ++ x) (T ++ new).length 0 0 0 0 false v (new.map (tv (whl (S ++ x)))) := by
  have hb := hst.bds
  have hT : T.length ≤ 1000000000 := by
    have := hb.2.2
    rw [List.length_append] at this
    omega
  have hmx : max T.length (T ++ new).length = (T ++ new).length := by rw [List.length_append]; omega
  have hdr : ((T ++ new).map (tv (whl (S ++ x)))).drop T.length = new.map (tv (whl (S ++ x))) := by
    rw [List.map_append, List.drop_left' (by rw [List.length_map])]
  have htk : ∀ t ∈ T ++ new, t.a ≤ t.e ∧ t.e ≤ (whl (S ++ x)).size ∧ t.k ≤ 255 := fun t ht => by
    have h1 := hst.told.bds
    have h2 := h1.2.2.2.2 t ht
    omega
  rcases ms_fin hst.told hst.ms with ⟨hS, hb⟩ | ⟨t, hS, ht1, ht2, ht3, ht4, ht5, hb⟩ | ⟨hS, hE, hb⟩
  · by_cases h0 : (T ++ new).length = 0
    · have h9 := rfeed_sure0 h x hs hT hS (T ++ new).length ⟨0, 0, 0, 0⟩ (Nat.le_refl _) (fun _ => rfl) (fun h => absurd h0 h) (fun h => absurd h0 h)
      rw [List.take_of_length_le (by rw [List.length_map]; exact Nat.le_refl _), hdr, hmx] at h9
      exact h9
    · obtain ⟨t, ht, hm⟩ := last_of h0
      have h9 := rfeed_sure0 h x hs hT hS (T ++ new).length t (Nat.le_refl _) (fun _ => rfl) (fun _ => ⟨ht, htk t hm⟩) (fun _ => ⟨fun _ => rfl, fun hn => absurd (hst.told.sure t hm) hn⟩)
      rw [List.take_of_length_le (by rw [List.length_map]; exact Nat.le_refl _), hdr, hmx] at h9
      exact h9
  · have hl : (T ++ new ++ [t]).length = (T ++ new).length + 1 := by rw [List.length_append]; rfl
    have h9 := rfeed_sure0 h x hs hT hS (T ++ new).length t (by omega) (fun h => by omega) (fun _ => ⟨by rw [hl, Nat.add_sub_cancel, List.getElem?_append_right (Nat.le_refl _), Nat.sub_self]; rfl, ht2, ht3, by omega⟩) (fun _ => ⟨fun hk => absurd hk ht5, fun _ => by omega⟩)
    rw [List.map_append (l₁ := T ++ new), List.take_left' (by rw [List.length_map]), hdr, hmx] at h9
    exact h9
  · have h9 := rfeed_open h x hs hT hS hE hb
    rw [hdr, hmx] at h9
    exact h9
/-- The document's Feed, where something is wrong for sure. -/
theorem rfeed_er {W : World} {g : Nat} {S x : ByteArray} {T new : List Tk} {E a : Nat} (h : LB W g S T.length 0 0 0 0 false) (hs : (S ++ x).size ≤ 1000000000) (hS : scn (whl (S ++ x)) = (T ++ new, E, a)) (hE : E ≠ 0) (hn : ¬ Early (whl (S ++ x)) E a) :
    Calls Tryz.prog 14 #[.pointer (some ⟨g, 0, none⟩), .string x] W fun e w' => ∃ v, e = .returned (.tuple #[v, .int .i64 E, .agg #[.int .i64 a, .int .i64 (pL (whl (S ++ x)) a), .int .i64 (pC (whl (S ++ x)) a)]]) ∧ TL W w' g (S ++ x) (T ++ new).length E a (pL (whl (S ++ x)) a) (pC (whl (S ++ x)) a) false v (new.map (tv (whl (S ++ x)))) := by
  have hw := whl_size (S ++ x)
  have hwb := wh_bd (S ++ x)
  have hc := Cov_len hS
  have hT : T.length ≤ 1000000000 := by rw [List.length_append] at hc; omega
  have hmx : max T.length (T ++ new).length = (T ++ new).length := by rw [List.length_append]; omega
  have hdr : ((T ++ new).map (tv (whl (S ++ x)))).drop T.length = new.map (tv (whl (S ++ x))) := by
    rw [List.map_append, List.drop_left' (by rw [List.length_map])]
  have hbd := (scn_bd (whl (S ++ x))).2
  rw [hS] at hbd
  have ha := bd_le (hbd hE)
  have h101 : E = 101 → a < (whl (S ++ x)).size := fun he => err_lt (whl (S ++ x)) (by rw [hS]; exact he) (by rw [hS])
  have h9 := rfeed_sureE h x hs hT hS hE hn ha h101
  rw [hdr, hmx] at h9
  exact h9
/-- The document's Close. -/
theorem rclose_any {W : World} {g : Nat} {S : ByteArray} {T new : List Tk} {E a : Nat} (h : LB W g S T.length 0 0 0 0 false) (hs : S.size ≤ 1000000000) (hS : scn S = (T ++ new, E, a)) {A L C : Int} (hz : (E = 0 ∧ A = 0 ∧ L = 0 ∧ C = 0) ∨ (E ≠ 0 ∧ A = a ∧ L = pL S a ∧ C = pC S a)) :
    Calls Tryz.prog 18 #[.pointer (some ⟨g, 0, none⟩)] W fun e w' => ∃ v, e = .returned (.tuple #[v, .int .i64 E, .agg #[.int .i64 A, .int .i64 L, .int .i64 C]]) ∧ TL W w' g S (T ++ new).length E A L C true v (new.map (tv S)) := by
  have hc := Cov_len hS
  have hT : T.length ≤ 1000000000 := by rw [List.length_append] at hc; omega
  have hmx : max T.length (T ++ new).length = (T ++ new).length := by rw [List.length_append]; omega
  have hdr : ((T ++ new).map (tv S)).drop T.length = new.map (tv S) := by
    rw [List.map_append, List.drop_left' (by rw [List.length_map])]
  rcases hz with ⟨rfl, rfl, rfl, rfl⟩ | ⟨hE, rfl, rfl, rfl⟩
  · have h9 := rclose_live0 h hs hT hS
    rw [hdr, hmx] at h9
    exact h9
  · have hbd := (scn_bd S).2
    rw [hS] at hbd
    have h9 := rclose_liveE h hs hT hS hE (bd_le (hbd hE))
    rw [hdr, hmx] at h9
    exact h9

end Go.Proofs.YtnmjkgjhjnpijaaGreatDoor

set_option linter.unusedVariables false
set_option linter.unusedSimpArgs false
namespace Go.Proofs.YtnmjkgjhjnpijaaGreatDoor
open Go.RowKit

/-- A lexer and the document's, side by side: so many bytes have come at most. -/
def PS (own : Nat → Prop) (W : World) (gl gr m : Nat) : Prop :=
  (∀ q, own q → q < W.heap.size) ∧ own gl ∧ ¬ own gr ∧ gr < W.heap.size ∧ ∃ S : ByteArray, S.size ≤ m ∧
   ((∃ T k b f, LZ own W gl S T k b f ∧ LB W gr S T.length 0 0 0 0 false) ∨ (∃ (E A : Nat) (L C : Int) (n : Nat), E ≠ 0 ∧ LxE W gl E A L C ∧ LB W gr S n E A L C false) ∨ (∃ (n E : Nat) (X Y Z : Int), LxC W gl ∧ LB W gr S n E X Y Z true))
theorem PS.kp {own : Nat → Prop} {W W' : World} {gl gr m : Nat} (h : PS own W gl gr m) {U : Nat → Prop} (hk : Kp U W W') (hU : ∀ q, own q → ¬ U q) (hr : ¬ U gr) : PS own W' gl gr m := by
  obtain ⟨h1, h2, h3, h4, S, h5, h6⟩ := h
  refine ⟨fun q hq => Nat.lt_of_lt_of_le (h1 q hq) hk.size, h2, h3, Nat.lt_of_lt_of_le h4 hk.size, S, h5, ?_⟩
  rcases h6 with ⟨T, k, b, f, y1, y2⟩ | ⟨E, A, L, C, n, y0, y1, y2⟩ | ⟨n, E, X, Y, Z, y1, y2⟩
  · exact .inl ⟨T, k, b, f, y1.kp hk hU, hk.blk y2 hr⟩
  · exact .inr (.inl ⟨E, A, L, C, n, y0, hk.blk y1 (hU gl h2), hk.blk y2 hr⟩)
  · exact .inr (.inr ⟨n, E, X, Y, Z, hk.blk y1 (hU gl h2), hk.blk y2 hr⟩)
theorem PS.below {own : Nat → Prop} {W W' : World} {gl gr m : Nat} (h : PS own W gl gr m) (hb : Below W.heap.size W W') : PS own W' gl gr m := h.kp (Kp.of_below (S := fun _ => False) hb) (fun _ _ h => h) (fun h => h)
theorem PS.up {own : Nat → Prop} {W : World} {gl gr m m' : Nat} (h : PS own W gl gr m) (hm : m ≤ m') : PS own W gl gr m' := by
  obtain ⟨h1, h2, h3, h4, S, h5, h6⟩ := h
  exact ⟨h1, h2, h3, h4, S, Nat.le_trans h5 hm, h6⟩
/-- What the document answers then, the same; and the pair behind it. -/
def Dsame (f : Nat) (args : Array Value) (own' : Nat → Prop) (w1 : World) (lo gl gr m : Nat) (E : Nat) (A L C : Int) (M : List Tv) : Prop :=
  ∀ V, Kp (fun q => lo ≤ q ∧ ¬ own' q) w1 V → Calls Tryz.prog f args V fun e w2 => ∃ v', e = .returned (.tuple #[v', .int .i64 E, .agg #[.int .i64 A, .int .i64 L, .int .i64 C]]) ∧ Rt V.heap.size w2 v' M ∧ Kp (fun q => q = gr) V w2 ∧ PS own' w2 gl gr m
theorem tl_kp {V w2 : World} {g : Nat} {s : ByteArray} {n E : Nat} {x y z : Int} {cl : Bool} {v : Value} {l : List Tv} (h : TL V w2 g s n E x y z cl v l) : Rt V.heap.size w2 v l ∧ Kp (fun q => q = g) V w2 ∧ LB w2 g s n E x y z cl := ⟨h.row, h.kp, h.lex⟩

/-- Feed of both. -/
theorem both_feed {own : Nat → Prop} {W : World} {gl gr m : Nat} (h : PS own W gl gr m) (x : ByteArray) (hm : m + x.size ≤ 1000000000) (hK : ∀ V, Kp (Onw own W.heap.size) W V → Kab V) :
    Calls Tryz.prog 10 #[.pointer (some ⟨gl, 0, none⟩), .string x] W fun e w1 => ∃ (v : Value) (E : Nat) (A L C : Int) (M : List Tv) (own' : Nat → Prop), e = .returned (.tuple #[v, .int .i64 E, .agg #[.int .i64 A, .int .i64 L, .int .i64 C]]) ∧ Fd own W w1 own' v M ∧ M.length ≤ 1000000000 ∧ Dsame 14 #[.pointer (some ⟨gr, 0, none⟩), .string x] own' w1 W.heap.size gl gr (m + x.size) E A L C M := by
  obtain ⟨h1, h2, h3, h4, S, h5, h6⟩ := h
  have hsz := size_app S x
  have key : ∀ (own' : Nat → Prop) (w1 V w2 : World), (∀ q, own' q → own q ∨ W.heap.size ≤ q) → (∀ q, own' q → q < w1.heap.size) → Kp (Onw own W.heap.size) W w1 → Kp (fun q => W.heap.size ≤ q ∧ ¬ own' q) w1 V → Kp (fun q => q = gr) V w2 → own' gl → ¬ own' gr ∧ (∀ q, own' q → q < w2.heap.size) ∧ gr < w2.heap.size := by
    intro own' w1 V w2 a1 a2 a3 a4 a5 a6
    refine ⟨fun e => ?_, fun q hq => ?_, ?_⟩
    · rcases a1 gr e with e | e
      · exact h3 e
      · omega
    · have := a2 q hq
      have := a4.size
      have := a5.size
      omega
    · have := a3.size
      have := a4.size
      have := a5.size
      omega
  have hgr : ∀ {own' : Nat → Prop} {w1 V : World} {S : ByteArray} {n E : Nat} {X Y Z : Int} {cl : Bool}, Kp (Onw own W.heap.size) W w1 → Kp (fun q => W.heap.size ≤ q ∧ ¬ own' q) w1 V → LB W gr S n E X Y Z cl → LB V gr S n E X Y Z cl := by
    intro own' w1 V S n E X Y Z cl a1 a2 a3
    have b1 : LB w1 gr S n E X Y Z cl := a1.blk a3 (fun e => by rcases e with e | e; exact h3 e; omega)
    exact a2.blk b1 (fun e => by omega)
  rcases h6 with ⟨T, k, b, f, y1, y2⟩ | ⟨E, A, L, C, n, y0, y1, y2⟩ | ⟨n, E, X, Y, Z, y1, y2⟩
  · refine (lfeed_live y1 h1 hK x (by omega)).mono ?_
    rintro e w1 ⟨v, E, A, L, C, rfl, new, own', hf, hz⟩
    refine ⟨v, E, A, L, C, _, own', rfl, hf, ?_, ?_⟩
    · rw [List.length_map]
      rcases hz with ⟨_, _, _, _, k', b', f', hl⟩ | ⟨_, a, _, _, _, hS, _⟩
      · have := hl.2.1.bds.2.2
        rw [List.length_append] at this
        omega
      · have := Cov_len hS
        rw [List.length_append] at this
        have h8 := whl_size (S ++ x)
        have h9 := wh_bd (S ++ x)
        omega
    · intro V hV
      have lV := hgr hf.kp hV y2
      rcases hz with ⟨rfl, rfl, rfl, rfl, k', b', f', hl⟩ | ⟨hE, a, rfl, rfl, rfl, hS, hn, hg, hx⟩
      · refine (rfeed_st lV (by omega) hl.2.1).mono ?_
        rintro e w2 ⟨v', rfl, hT⟩
        obtain ⟨t1, t2, t3⟩ := tl_kp hT
        obtain ⟨k1, k2, k3⟩ := key own' w1 V w2 hf.sub hf.lt hf.kp hV t2 hl.1
        exact ⟨v', rfl, t1, t2, k2, hl.1, k1, k3, S ++ x, by omega, .inl ⟨T ++ new, k', b', f', (hl.kp hV (fun q hq e => e.2 hq)).kp t2 (fun q hq e => k1 (by rw [← e]; exact hq)), t3⟩⟩
      · refine (rfeed_er lV (by omega) hS hE hn).mono ?_
        rintro e w2 ⟨v', rfl, hT⟩
        obtain ⟨t1, t2, t3⟩ := tl_kp hT
        obtain ⟨k1, k2, k3⟩ := key own' w1 V w2 hf.sub hf.lt hf.kp hV t2 hg
        exact ⟨v', rfl, t1, t2, k2, hg, k1, k3, S ++ x, by omega, .inr (.inl ⟨E, a, _, _, _, hE, t2.blk (hV.blk hx (fun e => e.2 hg)) (fun e => k1 (by rw [← e]; exact hg)), t3⟩)⟩
  · refine (lfeed_bad y1 y0 x).mono ?_
    rintro e w1 ⟨rfl, hb⟩
    have hfd : Fd own W w1 own (.slice none 0 0) [] := ⟨fun q hq => .inl hq, fun q hq => Nat.lt_of_lt_of_le (h1 q hq) hb.size, fun q hq => (by cases hq), rt_nil _ _, Kp.of_below hb⟩
    refine ⟨_, E, A, L, C, [], own, rfl, hfd, Nat.zero_le _, fun V hV => ?_⟩
    have lV := hgr (own' := own) hfd.kp hV y2
    refine (rfeed_bad lV y0 x).mono ?_
    rintro e w2 ⟨rfl, hb2⟩
    have t2 : Kp (fun q => q = gr) V w2 := Kp.of_below hb2
    obtain ⟨k1, k2, k3⟩ := key own w1 V w2 hfd.sub hfd.lt hfd.kp hV t2 h2
    exact ⟨_, rfl, rt_nil _ _, t2, k2, h2, k1, k3, S, by omega, .inr (.inl ⟨E, A, L, C, n, y0, blk_below (hV.blk (blk_below y1 hb) (fun e => e.2 h2)) hb2, blk_below lV hb2⟩)⟩
  · refine (lfeed_done y1 x).mono ?_
    rintro e w1 ⟨rfl, hb⟩
    have hfd : Fd own W w1 own (.slice none 0 0) [] := ⟨fun q hq => .inl hq, fun q hq => Nat.lt_of_lt_of_le (h1 q hq) hb.size, fun q hq => (by cases hq), rt_nil _ _, Kp.of_below hb⟩
    refine ⟨_, 4, 0, 0, 0, [], own, rfl, hfd, Nat.zero_le _, fun V hV => ?_⟩
    have lV := hgr (own' := own) hfd.kp hV y2
    refine (rfeed_done lV x).mono ?_
    rintro e w2 ⟨rfl, hb2⟩
    have t2 : Kp (fun q => q = gr) V w2 := Kp.of_below hb2
    obtain ⟨k1, k2, k3⟩ := key own w1 V w2 hfd.sub hfd.lt hfd.kp hV t2 h2
    exact ⟨_, rfl, rt_nil _ _, t2, k2, h2, k1, k3, S, by omega, .inr (.inr ⟨n, E, X, Y, Z, blk_below (hV.blk (blk_below y1 hb) (fun e => e.2 h2)) hb2, blk_below lV hb2⟩)⟩
/-- Close of both. -/
theorem both_close {own : Nat → Prop} {W : World} {gl gr m : Nat} (h : PS own W gl gr m) (hm : m ≤ 1000000000) (hK : ∀ V, Kp (Onw own W.heap.size) W V → Kab V) :
    Calls Tryz.prog 12 #[.pointer (some ⟨gl, 0, none⟩)] W fun e w1 => ∃ (v : Value) (E : Nat) (A L C : Int) (M : List Tv) (own' : Nat → Prop), e = .returned (.tuple #[v, .int .i64 E, .agg #[.int .i64 A, .int .i64 L, .int .i64 C]]) ∧ Fd own W w1 own' v M ∧ M.length ≤ 1000000000 ∧ Dsame 18 #[.pointer (some ⟨gr, 0, none⟩)] own' w1 W.heap.size gl gr m E A L C M := by
  obtain ⟨h1, h2, h3, h4, S, h5, h6⟩ := h
  have key : ∀ (own' : Nat → Prop) (w1 V w2 : World), (∀ q, own' q → own q ∨ W.heap.size ≤ q) → (∀ q, own' q → q < w1.heap.size) → Kp (Onw own W.heap.size) W w1 → Kp (fun q => W.heap.size ≤ q ∧ ¬ own' q) w1 V → Kp (fun q => q = gr) V w2 → own' gl → ¬ own' gr ∧ (∀ q, own' q → q < w2.heap.size) ∧ gr < w2.heap.size := by
    intro own' w1 V w2 a1 a2 a3 a4 a5 a6
    refine ⟨fun e => ?_, fun q hq => ?_, ?_⟩
    · rcases a1 gr e with e | e
      · exact h3 e
      · omega
    · have := a2 q hq
      have := a4.size
      have := a5.size
      omega
    · have := a3.size
      have := a4.size
      have := a5.size
      omega
  have hgr : ∀ {own' : Nat → Prop} {w1 V : World} {S : ByteArray} {n E : Nat} {X Y Z : Int} {cl : Bool}, Kp (Onw own W.heap.size) W w1 → Kp (fun q => W.heap.size ≤ q ∧ ¬ own' q) w1 V → LB W gr S n E X Y Z cl → LB V gr S n E X Y Z cl := by
    intro own' w1 V S n E X Y Z cl a1 a2 a3
    have b1 : LB w1 gr S n E X Y Z cl := a1.blk a3 (fun e => by rcases e with e | e; exact h3 e; omega)
    exact a2.blk b1 (fun e => by omega)
  have hne : gr ≠ gl := fun e => h3 (by rw [e]; exact h2)
  rcases h6 with ⟨T, k, b, f, y1, y2⟩ | ⟨E, A, L, C, n, y0, y1, y2⟩ | ⟨n, E, X, Y, Z, y1, y2⟩
  · refine (lclose_live y1 h1 hK (by omega)).mono ?_
    rintro e w1 ⟨v, E, A, L, C, rfl, new, a, hf, hc, hS, hz⟩
    refine ⟨v, E, A, L, C, _, _, rfl, hf, ?_, fun V hV => ?_⟩
    · rw [List.length_map]
      have := Cov_len hS
      rw [List.length_append] at this
      omega
    · have lV := hgr hf.kp hV y2
      refine (rclose_any lV (by omega) hS hz).mono ?_
      rintro e w2 ⟨v', rfl, hT⟩
      obtain ⟨t1, t2, t3⟩ := tl_kp hT
      obtain ⟨k1, k2, k3⟩ := key _ w1 V w2 hf.sub hf.lt hf.kp hV t2 rfl
      exact ⟨v', rfl, t1, t2, k2, rfl, k1, k3, S, h5, .inr (.inr ⟨_, E, A, L, C, t2.blk (hV.blk hc (fun e => e.2 rfl)) (fun e => hne e.symm), t3⟩)⟩
  · refine (lclose_bad y1 y0).mono ?_
    rintro e w1 ⟨rfl, hc, hk⟩
    have hfd : Fd own W w1 own (.slice none 0 0) [] := ⟨fun q hq => .inl hq, fun q hq => Nat.lt_of_lt_of_le (h1 q hq) hk.size, fun q hq => (by cases hq), rt_nil _ _, hk.sub (fun q e => .inl (by rw [e]; exact h2))⟩
    refine ⟨_, E, A, L, C, [], own, rfl, hfd, Nat.zero_le _, fun V hV => ?_⟩
    have lV := hgr (own' := own) hfd.kp hV y2
    refine (rclose_bad lV y0).mono ?_
    rintro e w2 ⟨rfl, l2, t2⟩
    obtain ⟨k1, k2, k3⟩ := key own w1 V w2 hfd.sub hfd.lt hfd.kp hV t2 h2
    exact ⟨_, rfl, rt_nil _ _, t2, k2, h2, k1, k3, S, h5, .inr (.inr ⟨_, _, _, _, _, t2.blk (hV.blk hc (fun e => e.2 h2)) (fun e => hne e.symm), l2⟩)⟩
  · refine (lclose_done y1).mono ?_
    rintro e w1 ⟨rfl, hc, hk⟩
    have hfd : Fd own W w1 own (.slice none 0 0) [] := ⟨fun q hq => .inl hq, fun q hq => Nat.lt_of_lt_of_le (h1 q hq) hk.size, fun q hq => (by cases hq), rt_nil _ _, hk.sub (fun q e => .inl (by rw [e]; exact h2))⟩
    refine ⟨_, 4, 0, 0, 0, [], own, rfl, hfd, Nat.zero_le _, fun V hV => ?_⟩
    have lV := hgr (own' := own) hfd.kp hV y2
    refine (rclose_done lV).mono ?_
    rintro e w2 ⟨rfl, hb2⟩
    have t2 : Kp (fun q => q = gr) V w2 := Kp.of_below hb2
    obtain ⟨k1, k2, k3⟩ := key own w1 V w2 hfd.sub hfd.lt hfd.kp hV t2 h2
    exact ⟨_, rfl, rt_nil _ _, t2, k2, h2, k1, k3, S, h5, .inr (.inr ⟨_, _, _, _, _, blk_below (hV.blk hc (fun e => e.2 h2)) hb2, blk_below lV hb2⟩)⟩
/-- Held of both. -/
theorem both_held {own : Nat → Prop} {W : World} {gl gr m : Nat} (h : PS own W gl gr m) (hm : m ≤ 1000000000) : ∃ n : Nat,
    (Calls Tryz.prog 11 #[.pointer (some ⟨gl, 0, none⟩)] W fun e w' => e = .returned (.int .i64 n) ∧ Below W.heap.size W w') ∧
    (∀ V, Below W.heap.size W V → Calls Tryz.prog 17 #[.pointer (some ⟨gr, 0, none⟩)] V fun e w' => e = .returned (.int .i64 n) ∧ Below V.heap.size V w') := by
  obtain ⟨h1, h2, h3, h4, S, h5, h6⟩ := h
  rcases h6 with ⟨T, k, b, f, y1, y2⟩ | ⟨E, A, L, C, n, y0, y1, y2⟩ | ⟨n, E, X, Y, Z, y1, y2⟩
  · obtain ⟨z1, z2, vt, vo, z3, z4, z5, z6⟩ := y1
    obtain ⟨pt, ct, et, _⟩ := z4.shape
    obtain ⟨po, co, eo⟩ := z5.shape
    have hb := z2.bds
    have hw := whl_size S
    have hwb := wh_bd S
    have ho := opE_size S
    have hz := size_ext (whl S) b (whl S).size (Nat.le_refl _)
    refine ⟨S.size - b, ?_, fun V hV => rheld_live (blk_below y2 hV) (by omega) z2⟩
    have h9 := lheld_any z3 pt po _ _ ct co et eo (by omega) (by omega)
    rw [show ((whl S).extract b (whl S).size).size + (opE S).size = S.size - b by omega] at h9
    exact h9
  · exact ⟨0, lheld_any y1 none none 0 0 0 0 rfl rfl (by omega) (by omega), fun V hV => rheld_zero (blk_below y2 hV) (.inr y0)⟩
  · exact ⟨0, lheld_any y1 none none 0 0 0 0 rfl rfl (by omega) (by omega), fun V hV => rheld_zero (blk_below y2 hV) (.inl rfl)⟩

end Go.Proofs.YtnmjkgjhjnpijaaGreatDoor

set_option linter.unusedVariables false
set_option linter.unusedSimpArgs false
namespace Go.Proofs.YtnmjkgjhjnpijaaGreatDoor
open Go.RowKit

set_option maxHeartbeats 2000000 in
set_option maxRecDepth 100000 in
theorem same_eq (ao bo : Option Addr) (a : List Tv) (ca cb : Nat) (w : World) (hA : Lt w ao a) (hB : Lt w bo a) (ha : a.length ≤ 9223372036854775807) :
    Calls Tryz.prog 15 #[.slice ao a.length ca, .slice bo a.length cb] w fun e w' => e = .returned (.bool true) ∧ Below w.heap.size w w' := by
  have HA : Hid (Lt w ao a) := hA
  have HB : Hid (Lt w bo a) := hB
  clear hA hB
  go_enter Tryz.func15, Tryz.ntmps15
  go_wp2_with fail
  go_loopw [5] (fun i wr => ∃ k : Nat, k ≤ a.length ∧ i = .int .i64 k ∧ Hid (Below w.heap.size w wr)) (fun i _ => a.length - (intOf i).toNat)
  case atStart => exact ⟨0, by omega, rfl, Below.refl _ _⟩
  case round =>
    obtain ⟨k, hk, rfl, HW⟩ := hrel
    by_cases hlt : k < a.length
    · have q1 : (k : Int) < a.length := by omega
      have q3 : (0 : Int) ≤ k := by omega
      obtain ⟨d, hd⟩ : ∃ d, a[k]? = some d := ⟨_, List.getElem?_eq_getElem hlt⟩
      obtain ⟨ba, oa, rfl, c0, c1, c2, c3, c4, c5⟩ := (HA.out.below HW.out) k d hd
      obtain ⟨bb, ob, rfl, e0, e1, e2, e3, e4, e5⟩ := (HB.out.below HW.out) k d hd
      clear hd
      obtain ⟨dk, dt, da, dl, dc, df⟩ := d
      simp only at c0 c1 c2 c3 c4 c5 e0 e1 e2 e3 e4 e5
      go_wp2_with fail
      go_quiet (fail)
      go_wp2_with fail
      exact ⟨⟨k + 1, hlt, by go_num, below_dn HW.out _⟩, by simp [intOf]; omega⟩
    · obtain rfl : k = a.length := by omega
      have q1 : ¬ ((a.length : Int) < a.length) := by omega
      go_wp2_with fail
      go_ret
      exact ⟨rfl, HW.out⟩

end Go.Proofs.YtnmjkgjhjnpijaaGreatDoor
