import Derived.Test.YtgjbkdnefbnclaaXd
set_option linter.unusedVariables false
set_option linter.unusedSimpArgs false
namespace Go.Proofs.Ytgjbkdnefbnclaa
open Go.RowKit

/-- A call of the script. -/
structure OpV where
  kind : Int
  s : ByteArray
  pos : Int
  ao : Option Addr
  n : Nat
  cap : Nat
  zs : List Int

def OpV.val (o : OpV) : Value := .agg #[.int .i64 o.kind, .string o.s, .int .i64 o.pos, .slice o.ao o.n o.cap]

theorem one_any (o : OpV) (vt vw : Value) (w : World) (B m : Nat) (X Y : List Value) (hs : o.s.size ≤ 2147483647) (hn : o.n ≤ 2147483647) (hr : Row w o.ao o.n o.zs) (hm : m ≤ 2147483647) (hB : B ≤ w.heap.size)
    (ht : w.ownsRow B 24 1 vt m X) (hw : w.ownsRow B 24 1 vw m Y) (hap : ApartV vt vw) :
    Calls Try.prog 9 #[.agg #[.int .i64 o.kind, .string o.s, .int .i64 o.pos, .slice o.ao o.n o.cap], vt, vw] w fun e w' => OneP B w m X Y vt vw e w' := by
  obtain ⟨kind, s, pos, ao, n, cap, zs⟩ := o
  dsimp only at *
  have hP := P_len s
  have low : ∀ (e : Ending) (w' : World), (e = .returned (.tuple #[vt, vw, .bool true]) ∧ Below w.heap.size w w') → OneP B w m X Y vt vw e w' := fun e w' h => .inl h
  by_cases h0 : kind < 1 ∨ 8 < kind
  · exact (one_0 kind pos s _ vt vw w h0).mono (fun e w' h => low e w' h)
  · rcases (show kind = 1 ∨ kind = 2 ∨ kind = 3 ∨ kind = 4 ∨ kind = 5 ∨ kind = 6 ∨ kind = 7 ∨ kind = 8 by omega) with rfl | rfl | rfl | rfl | rfl | rfl | rfl | rfl
    · exact (one_1 _ _ pos _ s _ vt vw w (fun w => next_all s pos w hs) (fun w => rnext_all s pos w hs)).mono (fun e w' h => low e w' h)
    · exact (one_2 _ _ pos _ s _ vt vw w (fun w => last_all s pos w hs) (fun w => rlast_all s pos w hs)).mono (fun e w' h => low e w' h)
    · refine one_3 pos s _ vt vw w B m X Y (pts s) (by rw [pts_len]; omega) hm hB ht hw hap (fun w => ?_) (fun w => ?_)
      · rw [pts_len]; exact points_any s w hs
      · rw [pts_len]; exact rpoints_any s w hs
    · exact (one_4 pos s s ao n cap zs vt vw w hn hr).mono (fun e w' h => low e w' h)
    · exact one_5 pos s _ vt vw w B m X Y (P s) (by omega) hm hB ht hw hap (fun w => places_any s w hs) (fun w => rplaces_any s w hs)
    · exact (one_6 _ pos s _ vt vw w (fun w => count_row s w hs) (fun w => rcount_any s w hs)).mono (fun e w' h => low e w' h)
    · refine (one_7 (vl s) pos s _ vt vw w (fun w => valid_any s w hs) (fun w => ?_)).mono (fun e w' h => low e w' h)
      refine (rvalid_any s w hs).mono ?_
      rintro e w' ⟨rfl, rfl⟩
      exact ⟨rfl, Below.refl _ _⟩
    · refine (one_8 _ pos s _ vt vw w (fun w => whole_any s w hs) (fun w => ?_)).mono (fun e w' h => low e w' h)
      refine (rwhole_any s w hs).mono ?_
      rintro e w' ⟨rfl, rfl⟩
      exact ⟨rfl, Below.refl _ _⟩

/-- What is gathered of the lists that came out. -/
structure Inv (B : Nat) (w : World) (m : Nat) (vt vw : Value) (G : List (Nat × Nat)) (U : List Value) (Ls : List (List Nat)) : Prop where
  told : w.ownsRow B 24 1 vt m (G.map tv)
  want : w.ownsRow B 24 1 vw m U
  apart : ApartV vt vw
  len : Ls.length = m
  dist : Dist G
  row : ∀ (i : Nat) (x : Nat × Nat) (l : List Nat), G[i]? = some x → Ls[i]? = some l → x.2 = l.length ∧ l.length ≤ 2147483647 ∧ B ≤ x.1 ∧ w.heap[x.1]? = some (.cells (ivs l).toArray 3 (0, 0))
  ref : ∀ (i : Nat) (u : Value) (l : List Nat), U[i]? = some u → Ls[i]? = some l → w.ownsRow B 3 1 u l.length (ivs l)

theorem Inv.lenG {B : Nat} {w : World} {m : Nat} {vt vw : Value} {G : List (Nat × Nat)} {U : List Value} {Ls : List (List Nat)} (h : Inv B w m vt vw G U Ls) : G.length = m ∧ U.length = m := by
  have h1 := h.told.1
  have h2 := h.want.1
  rw [List.length_map] at h1
  omega

theorem Inv.below {B : Nat} {w w' : World} {m : Nat} {vt vw : Value} {G : List (Nat × Nat)} {U : List Value} {Ls : List (List Nat)} (h : Inv B w m vt vw G U Ls) (hb : Below w.heap.size w w') : Inv B w' m vt vw G U Ls :=
  ⟨own_below h.told hb, own_below h.want hb, h.apart, h.len, h.dist, fun i x l h1 h2 => by obtain ⟨a, b, c, d⟩ := h.row i x l h1 h2; exact ⟨a, b, c, heap_below (B := 0) hb d⟩, fun i u l h1 h2 => own_below (h.ref i u l h1 h2) hb⟩

theorem keep3_own {w w' : World} {B n : Nat} {u : Value} {xs : List Value} (h : w.ownsRow B 3 1 u n xs) (hk : Keep3 w w') : w'.ownsRow B 3 1 u n xs := by
  obtain ⟨h1, h2⟩ := h
  refine ⟨h1, ?_⟩
  rcases h2 with h2 | ⟨g, cap, cur, a, b, c, d⟩
  · exact .inl h2
  · exact .inr ⟨g, cap, cur, a, b, hk g cur c, d⟩

/-- A step of the script keeps it. -/
theorem Inv.step {B : Nat} {w w' : World} {m : Nat} {vt vw : Value} {G : List (Nat × Nat)} {U : List Value} {Ls : List (List Nat)} {e : Ending} (h : Inv B w m vt vw G U Ls) (ho : OneP B w m (G.map tv) U vt vw e w') (hB : B ≤ w.heap.size) :
    ∃ vt' vw' m' G' U' Ls', e = .returned (.tuple #[vt', vw', .bool true]) ∧ m' ≤ m + 1 ∧ Inv B w' m' vt' vw' G' U' Ls' ∧ Below B w w' := by
  obtain ⟨hG, hU⟩ := h.lenG
  have hLs := h.len
  rcases ho with ⟨rfl, hb⟩ | ⟨vt', vw', g, l, u, rfl, hg, hl, h1, h2, h3, h4, h5, h6, h7⟩
  · exact ⟨vt, vw, m, G, U, Ls, rfl, by omega, h.below hb, hb.mono hB⟩
  · refine ⟨vt', vw', m + 1, G ++ [(g, l.length)], U ++ [u], Ls ++ [l], rfl, by omega, ⟨?_, h2, h7, by rw [List.length_append, hLs]; rfl, ?_, ?_, ?_⟩, h6⟩
    · rw [List.map_append]; exact h1
    · have old : ∀ (i : Nat) (x : Nat × Nat), G[i]? = some x → x.1 < w.heap.size := by
        intro i x hx
        have hi : i < G.length := (List.getElem?_eq_some_iff.1 hx).1
        obtain ⟨l', hl'⟩ : ∃ l', Ls[i]? = some l' := ⟨_, List.getElem?_eq_getElem (by omega)⟩
        exact (Array.getElem?_eq_some_iff.1 (h.row i x l' hx hl').2.2.2).1
      intro i j x y hx hy hij
      by_cases hi : i < G.length
      · rw [List.getElem?_append_left hi] at hx
        by_cases hj : j < G.length
        · rw [List.getElem?_append_left hj] at hy
          exact h.dist i j x y hx hy hij
        · rw [List.getElem?_append_right (by omega)] at hy
          have hy' : y = (g, l.length) := by
            cases hk : j - G.length with
            | zero => rw [hk] at hy; simpa using hy.symm
            | succ k => rw [hk] at hy; simp at hy
          have := old i x hx
          rw [hy']
          show x.1 ≠ g
          omega
      · rw [List.getElem?_append_right (by omega)] at hx
        have hx' : x = (g, l.length) ∧ i = G.length := by
          cases hk : i - G.length with
          | zero => rw [hk] at hx; exact ⟨by simpa using hx.symm, by omega⟩
          | succ k => rw [hk] at hx; simp at hx
        by_cases hj : j < G.length
        · rw [List.getElem?_append_left hj] at hy
          have := old j y hy
          rw [hx'.1]
          show g ≠ y.1
          omega
        · rw [List.getElem?_append_right (by omega)] at hy
          have : j = G.length := by
            cases hk : j - G.length with
            | zero => omega
            | succ k => rw [hk] at hy; simp at hy
          omega
    · intro i x l' hx hl'
      by_cases hi : i < G.length
      · rw [List.getElem?_append_left hi] at hx
        rw [List.getElem?_append_left (by omega)] at hl'
        obtain ⟨a, b, c, d⟩ := h.row i x l' hx hl'
        exact ⟨a, b, c, h5 _ _ d⟩
      · rw [List.getElem?_append_right (by omega)] at hx
        rw [List.getElem?_append_right (by omega)] at hl'
        cases hk : i - G.length with
        | zero =>
          rw [hk] at hx
          rw [show i - Ls.length = 0 by omega] at hl'
          have e1 : (g, l.length) = x := by simpa using hx
          have e2 : l = l' := by simpa using hl'
          subst e1 e2
          exact ⟨rfl, hl, by show B ≤ g; omega, h3⟩
        | succ k => rw [hk] at hx; simp at hx
    · intro i u' l' hu hl'
      by_cases hi : i < U.length
      · rw [List.getElem?_append_left hi] at hu
        rw [List.getElem?_append_left (by omega)] at hl'
        exact keep3_own (h.ref i u' l' hu hl') h5
      · rw [List.getElem?_append_right (by omega)] at hu
        rw [List.getElem?_append_right (by omega)] at hl'
        cases hk : i - U.length with
        | zero =>
          rw [hk] at hu
          rw [show i - Ls.length = 0 by omega] at hl'
          have e1 : u = u' := by simpa using hu
          have e2 : l = l' := by simpa using hl'
          subst e1 e2
          exact h4
        | succ k => rw [hk] at hu; simp at hu
end Go.Proofs.Ytgjbkdnefbnclaa
