import Derived.Test.YtcokccfbeonlnaaDoorVb
import Derived.Test.YtcokccfbeonlnaaDoorGa7
import Derived.Test.YtcokccfbeonlnaaDoorIb
set_option linter.unusedVariables false
set_option linter.unusedSimpArgs false
namespace Go.Proofs.YtcokccfbeonlnaaDoor
open Go.RowKit

/-! The document's stacks and sums, as rows. -/
def gsI (gs : List Nat) : List Int := (gs.map fun (g : Nat) => (g : Int)).reverse
def obI : Option Nat → Int
  | none => -1
  | some p => p
def bsI (bs : List (Option Nat)) : List Int := (bs.map obI).reverse
def smsI (l : List Dc) (i : Nat) : List Int := (List.range (i + 1)).map fun j => ((Sf l j : Nat) : Int)
def fcsI (l : List Dc) (i : Nat) : List Int := (List.range (i + 1)).map fun j => ((Fc l j : Nat) : Int)
theorem gsI_cons (g : Nat) (gs : List Nat) : gsI (g :: gs) = gsI gs ++ [(g : Int)] := by simp [gsI]
theorem bsI_cons (b : Option Nat) (bs : List (Option Nat)) : bsI (b :: bs) = bsI bs ++ [obI b] := by simp [bsI]
theorem gsI_len (gs : List Nat) : (gsI gs).length = gs.length := by simp [gsI]
theorem bsI_len (bs : List (Option Nat)) : (bsI bs).length = bs.length := by simp [bsI]
theorem smsI_succ (l : List Dc) (i : Nat) : smsI l (i + 1) = smsI l i ++ [((Sf l (i + 1) : Nat) : Int)] := by
  unfold smsI; rw [List.range_succ, List.map_append]; rfl
theorem fcsI_succ (l : List Dc) (i : Nat) : fcsI l (i + 1) = fcsI l i ++ [((Fc l (i + 1) : Nat) : Int)] := by
  unfold fcsI; rw [List.range_succ, List.map_append]; rfl
theorem smsI_len (l : List Dc) (i : Nat) : (smsI l i).length = i + 1 := by simp [smsI]
theorem fcsI_len (l : List Dc) (i : Nat) : (fcsI l i).length = i + 1 := by simp [fcsI]
theorem smsI_at (l : List Dc) {i j : Nat} (h : j ≤ i) : (smsI l i)[j]? = some ((Sf l j : Nat) : Int) := by
  unfold smsI; rw [List.getElem?_map, List.getElem?_range (by omega)]; rfl
theorem fcsI_at (l : List Dc) {i j : Nat} (h : j ≤ i) : (fcsI l i)[j]? = some ((Fc l j : Nat) : Int) := by
  unfold fcsI; rw [List.getElem?_map, List.getElem?_range (by omega)]; rfl
theorem bsI_top (b : Option Nat) (bs : List (Option Nat)) : (bsI (b :: bs))[bs.length]? = some (obI b) := by
  rw [bsI_cons, List.getElem?_append_right (by rw [bsI_len]; omega), bsI_len]; simp
theorem gsI_top (g : Nat) (gs : List Nat) : (gsI (g :: gs))[gs.length]? = some (g : Int) := by
  rw [gsI_cons, List.getElem?_append_right (by rw [gsI_len]; omega), gsI_len]; simp
theorem bsI_set (b b' : Option Nat) (bs : List (Option Nat)) : (bsI (b :: bs)).set bs.length (obI b') = bsI (b' :: bs) := by
  rw [bsI_cons, bsI_cons, List.set_append_right _ _ (by rw [bsI_len]; omega), bsI_len]; simp

/-! What is settled. -/
structure OutP (l : List Dc) (i : Nat) (gs : List Nat) (bs : List (Option Nat)) (o : List Int) : Prop where
  len : o.length = l.length
  ok : ∀ p d, l[p]? = some d → p < i → (d.k = 3 ∨ d.k = 6) → p ∈ gs ∨ some p ∈ bs ∨ ∃ m : Nat, o[p]? = some (m : Int) ∧ m ≤ 1099511627776 ∧ Nd l p = min m 4097
theorem OutP.mono {l : List Dc} {i : Nat} {gs gs' : List Nat} {bs bs' : List (Option Nat)} {o : List Int} (h : OutP l i gs bs o) (hq : ∀ q, q ∈ gs ∨ some q ∈ bs → q ∈ gs' ∨ some q ∈ bs') : OutP l i gs' bs' o := by
  refine ⟨h.len, fun p d hd hp hk => ?_⟩
  rcases h.ok p d hd hp hk with h1 | h1 | h1
  · rcases hq p (.inl h1) with h2 | h2
    · exact .inl h2
    · exact .inr (.inl h2)
  · rcases hq p (.inr h1) with h2 | h2
    · exact .inl h2
    · exact .inr (.inl h2)
  · exact .inr (.inr h1)
theorem OutP.settle {l : List Dc} {i p : Nat} {gs gs' : List Nat} {bs bs' : List (Option Nat)} {o : List Int} (h : OutP l i gs bs o) (hS : ∀ j, Sf l j ≤ 1000000000) (hi : i ≤ l.length) (hp : Set1 l i p) (hq : ∀ q, q ∈ gs ∨ some q ∈ bs → q = p ∨ q ∈ gs' ∨ some q ∈ bs') : OutP l i gs' bs' (o.set p ((btw l p i : Nat) : Int)) := by
  refine ⟨by rw [List.length_set]; exact h.len, fun q d hd hqi hk => ?_⟩
  have hqs : q = p → ∃ m : Nat, (o.set p ((btw l p i : Nat) : Int))[q]? = some (m : Int) ∧ m ≤ 1099511627776 ∧ Nd l q = min m 4097 := by
    intro e
    subst e
    refine ⟨btw l q i, ?_, ?_, hp.2⟩
    · rw [List.getElem?_set, if_pos rfl, if_pos (by rw [h.len]; omega)]
    · unfold btw
      have := hS i
      split <;> omega
  by_cases e : q = p
  · exact .inr (.inr (hqs e))
  rcases h.ok q d hd hqi hk with h1 | h1 | ⟨m, h1, h2⟩
  · rcases hq q (.inl h1) with h3 | h3 | h3
    · exact absurd h3 e
    · exact .inl h3
    · exact .inr (.inl h3)
  · rcases hq q (.inr h1) with h3 | h3 | h3
    · exact absurd h3 e
    · exact .inl h3
    · exact .inr (.inl h3)
  · exact .inr (.inr ⟨m, by rw [List.getElem?_set, if_neg (fun e2 => e e2.symm)]; exact h1, h2⟩)
theorem OutP.succ {l : List Dc} {i : Nat} {gs : List Nat} {bs : List (Option Nat)} {o : List Int} (h : OutP l i gs bs o) {d : Dc} (hd : l[i]? = some d) (hk : (d.k = 3 ∨ d.k = 6) → i ∈ gs ∨ some i ∈ bs) : OutP l (i + 1) gs bs o := by
  refine ⟨h.len, fun p d' hd' hp hk' => ?_⟩
  by_cases e : p = i
  · subst e
    rw [hd] at hd'
    cases hd'
    rcases hk hk' with h1 | h1
    · exact .inl h1
    · exact .inr (.inl h1)
  · exact h.ok p d' hd' (by omega) hk'
/-- The Break that waits, settled or none. -/
def stl (l : List Dc) (i : Nat) (b : Option Nat) (o : List Int) : List Int :=
  match b with
  | none => o
  | some p => o.set p ((btw l p i : Nat) : Int)
theorem OutP.top {l : List Dc} {i : Nat} {gs : List Nat} {b : Option Nat} {bs : List (Option Nat)} {o : List Int} (h : OutP l i gs (b :: bs) o) (hS : ∀ j, Sf l j ≤ 1000000000) (hi : i ≤ l.length) (hb : ∀ p, b = some p → Set1 l i p) : OutP l i gs bs (stl l i b o) := by
  cases b with
  | none =>
    refine h.mono fun q hq => ?_
    rcases hq with hq | hq
    · exact .inl hq
    · rcases List.mem_cons.1 hq with h1 | h1
      · cases h1
      · exact .inr h1
  | some p =>
    refine h.settle hS hi (hb p rfl) fun q hq => ?_
    rcases hq with hq | hq
    · exact .inr (.inl hq)
    · rcases List.mem_cons.1 hq with h1 | h1
      · cases h1; exact .inl rfl
      · exact .inr (.inr h1)

/-! The rows, and the piece's own block beside them. -/
structure WD (B : Nat) (W : World) (rs : List (Value × List Int)) (db : Nat) (d : Dc) : Prop where
  rws : Rws B W rs
  blk : W.heap[db]? = some (.cells #[.int .u8 d.k, .string d.t, .int .i64 d.b, .int .i64 d.i, .bool d.e] 26 (0, 0))
theorem WD.below {B : Nat} {W W' : World} {rs : List (Value × List Int)} {db : Nat} {d : Dc} (h : WD B W rs db d) (hb : Below W.heap.size W W') : WD B W' rs db d := ⟨h.rws.below hb, blk_below h.blk hb⟩
theorem WD.pop {B : Nat} {W : World} {rs : List (Value × List Int)} {db : Nat} {d : Dc} (h : WD B W rs db d) {k g cap : Nat} {xs : List Int} {x : Int} (hk : rs[k]? = some (.slice (some ⟨g, 0, none⟩) (xs.length + 1) cap, xs ++ [x])) : WD B W (rs.set k (.slice (some ⟨g, 0, none⟩) xs.length cap, xs)) db d := ⟨h.rws.pop hk, h.blk⟩
theorem WD.store {B : Nat} {W : World} {rs : List (Value × List Int)} {db : Nat} {d : Dc} (h : WD B W rs db d) {k g n cap : Nat} {xs : List Int} (hn : n = xs.length) (hk : rs[k]? = some (.slice (some ⟨g, 0, none⟩) n cap, xs)) (j : Nat) (x : Int) : WD B (W.setCell ⟨g, j, none⟩ (.int .i64 x)) (rs.set k (.slice (some ⟨g, 0, none⟩) n cap, xs.set j x)) db d := by
  refine ⟨h.rws.store hn hk j x, blk_other h.blk ?_ _⟩
  have := row_ne (row_zero (h.rws.row k _ hk)) h.blk (by decide)
  intro e
  apply this
  show some g = some db
  rw [e]
theorem WD.grown {B : Nat} {W W' : World} {rs rs' : List (Value × List Int)} {db : Nat} {d : Dc} (h : WD B W rs db d) {k : Nat} {v : Value} {xs : List Int} (hk : rs[k]? = some (v, xs)) (hg : W.grownBy W' v.ownBlock) (hR : Rws B W' rs') : WD B W' rs' db d :=
  ⟨hR, (Kp.of_grown hg).blk h.blk (fun e => row_ne (row_zero (h.rws.row k _ hk)) h.blk (by decide) e.symm)⟩
/-- One number behind a row, the piece's block beside. -/
theorem app_wd {W : World} {ops : Array Oper} {rest : List Oper} {o : Oper} {a : Act} {Q : Exit → Act → World → Prop} (hgd : o.guard = none) (s x : Operand)
    (ho : o.op = .call { callee := .builtin .append, args := #[s, x], argTypes := #[39, 39] }) (B : Nat) (rs : List (Value × List Int)) (k : Nat) (v : Value) (xs : List Int) (u : Int) (db : Nat) (d : Dc) (hs : a.eval s = v) (hR : WD B W rs db d) (hk : rs[k]? = some (v, xs))
    (g c : Nat) (hx : a.eval x = .slice (some ⟨g, 0, none⟩) 1 c) (hg : W.heap[g]? = some (.cells #[.int .i64 u] 3 (0, 0))) (hl : xs.length ≤ 1000000000) (hB : B ≤ W.heap.size)
    (h : ∀ q cap w', xs.length + 1 ≤ cap → cap ≤ 9223372036854775807 → WD B w' (rs.set k (.slice (some ⟨q, 0, none⟩) (xs.length + 1) cap, xs ++ [u])) db d → Below B W w' → wpList Tryd.prog ops Q rest (a.put o.dst (.slice (some ⟨q, 0, none⟩) (xs.length + 1) cap)) w') : wpList Tryd.prog ops Q (o :: rest) a W := by
  obtain ⟨i0, hi, hz0, hz1, hz2⟩ := info_parts Tryd.info3'
  have hr := hR.rws.row k _ hk
  refine wpList_append_own_at (P := Tryd.prog) (w := W) hgd s x 39 ho B 3 i0 (.int .i64 0) 1 8 Tryd.underlying39 hi hz0 hz1 hz2 rfl (by decide) v _ _ hs hr ⟨g, 0, none⟩ 1 c [.int .i64 u] hx rfl ?_ (by intro y hy; simp at hy; subst hy; rfl) (by unfold maxLen; simp only; omega) (by simp only; omega) hB ?_
  · intro j y hy
    exact World.news_of_block hg j y (by simpa using hy)
  · intro v' w' h1 h2 _ h4
    have hrow : w'.ownsRow B 3 1 v' (xs ++ [u]).length (ic (xs ++ [u])) := by rw [List.length_append, ic_app]; exact h1
    have hR' := hR.grown hk h2 (hR.rws.upd hk hrow h2 h4)
    have hbl : Below B W w' := (Below.refl B W).grown h2 hB (row_own hr)
    rcases h1.2 with ⟨_, h0⟩ | ⟨q, cap, cur, rfl, _, _, h5, h6, _⟩
    · simp at h0
    · exact h q cap w' h5 h6 hR' hbl
/-- The five rows at the start. -/
theorem rws_start (w : World) (n : Nat) (hn : n ≤ 100000000) (l : List Dc) :
    Rws w.heap.size ((((w.alloc (.cells (ni (List.replicate n 0)).toArray 3)).alloc (.cells #[.int .i64 (-1)] 3)).alloc (.cells #[.int .i64 0] 3)).alloc (.cells #[.int .i64 0] 3))
      [(.slice (some ⟨w.heap.size, 0, none⟩) n n, List.replicate n 0), (.slice none 0 0, gsI []), (.slice (some ⟨w.heap.size + 1, 0, none⟩) 1 1, bsI [none]), (.slice (some ⟨w.heap.size + 1 + 1, 0, none⟩) 1 1, smsI l 0), (.slice (some ⟨w.heap.size + 1 + 1 + 1, 0, none⟩) 1 1, fcsI l 0)] := by
  have hni : ni (List.replicate n 0) = ic (List.replicate n 0) := by simp [ni, ic]
  have hs0 : ic (smsI l 0) = [.int .i64 0] := rfl
  have hf0 : ic (fcsI l 0) = [.int .i64 0] := rfl
  have hb0 : ic (bsI [none]) = [.int .i64 (-1)] := rfl
  have r0 := (World.ownsRow_lit (e := 3) (size := 1) (base := w.heap.size) w (ni (List.replicate n 0)).toArray n (Nat.le_refl _) (by unfold maxLen; omega) (by rw [hni]; simp [ic]))
  have r2 := (World.ownsRow_lit (e := 3) (size := 1) (base := w.heap.size) (w.alloc (.cells (ni (List.replicate n 0)).toArray 3)) #[.int .i64 (-1)] 1 (by rw [World.size_alloc]; omega) (by unfold maxLen; omega) rfl)
  have r3 := (World.ownsRow_lit (e := 3) (size := 1) (base := w.heap.size) ((w.alloc (.cells (ni (List.replicate n 0)).toArray 3)).alloc (.cells #[.int .i64 (-1)] 3)) #[.int .i64 0] 1 (by rw [World.size_alloc, World.size_alloc]; omega) (by unfold maxLen; omega) rfl)
  have r4 := (World.ownsRow_lit (e := 3) (size := 1) (base := w.heap.size) (((w.alloc (.cells (ni (List.replicate n 0)).toArray 3)).alloc (.cells #[.int .i64 (-1)] 3)).alloc (.cells #[.int .i64 0] 3)) #[.int .i64 0] 1 (by rw [World.size_alloc, World.size_alloc, World.size_alloc]; omega) (by unfold maxLen; omega) rfl)
  rw [World.size_alloc] at r2
  rw [World.size_alloc, World.size_alloc] at r3
  rw [World.size_alloc, World.size_alloc, World.size_alloc] at r4
  rw [show (ni (List.replicate n 0)).toArray.toList = ic (List.replicate n 0) by simpa using hni] at r0
  refine ⟨?_, ?_⟩
  · intro k r hk
    match k, hk with
    | 0, hk => cases hk; exact by simpa using ((r0.alloc _).alloc _).alloc _
    | 1, hk => cases hk; exact World.ownsRow_nil _ _ _ _
    | 2, hk => cases hk; exact (r2.alloc _).alloc _
    | 3, hk => cases hk; exact r3.alloc _
    | 4, hk => cases hk; exact r4
  · intro i j a b hij ha hb k h1 h2
    have key : ∀ (i : Nat) (a : Value × List Int), [(Value.slice (some ⟨w.heap.size, 0, none⟩) n n, List.replicate n (0 : Int)), (.slice none 0 0, gsI []), (.slice (some ⟨w.heap.size + 1, 0, none⟩) 1 1, bsI [none]), (.slice (some ⟨w.heap.size + 1 + 1, 0, none⟩) 1 1, smsI l 0), (.slice (some ⟨w.heap.size + 1 + 1 + 1, 0, none⟩) 1 1, fcsI l 0)][i]? = some a → a.1.ownBlock = some k → (i = 0 ∧ k = w.heap.size) ∨ (i = 2 ∧ k = w.heap.size + 1) ∨ (i = 3 ∧ k = w.heap.size + 1 + 1) ∨ (i = 4 ∧ k = w.heap.size + 1 + 1 + 1) := by
      intro i a ha h1
      match i, ha with
      | 0, ha => cases ha; simp [Value.ownBlock] at h1; omega
      | 1, ha => cases ha; cases h1
      | 2, ha => cases ha; simp [Value.ownBlock] at h1; omega
      | 3, ha => cases ha; simp [Value.ownBlock] at h1; omega
      | 4, ha => cases ha; simp [Value.ownBlock] at h1; omega
    have k1 := key i a ha h1
    have k2 := key j b hb h2
    omega
end Go.Proofs.YtcokccfbeonlnaaDoor
