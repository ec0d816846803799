import Derived.Test.YtgjbkdnefbnclaaXc
set_option linter.unusedVariables false
set_option linter.unusedSimpArgs false
namespace Go.Proofs.Ytgjbkdnefbnclaa
open Go.RowKit

theorem Keep3.refl (w : World) : Keep3 w w := fun _ _ h => h
theorem Keep3.trans {a b c : World} (h : Keep3 a b) (k : Keep3 b c) : Keep3 a c := fun i L hi => k i L (h i L hi)
theorem Keep3.below {w w' : World} (h : Below w.heap.size w w') : Keep3 w w' := fun k L hk => heap_below (B := 0) h hk
theorem Keep3.alloc (w : World) (o : Obj) : Keep3 w (w.alloc o) := Keep3.below ((Below.refl _ _).alloc (Nat.le_refl _) _)
theorem Keep3.grown {W W' : World} {b m : Nat} {v : Value} {ys : List Value} (hv : W.ownsRow b 24 1 v m ys) (hg : W.grownBy W' v.ownBlock) : Keep3 W W' := by
  intro k L hk
  rw [hg.block k (Array.getElem?_eq_some_iff.1 hk).1 ?_]
  · exact hk
  · intro e
    rcases hv.2 with ⟨rfl, _⟩ | ⟨g', cap', cur', rfl, _, hh', _⟩
    · cases e
    · have : k = g' := by simpa [Value.ownBlock] using e
      subst this
      rw [hk] at hh'
      simp at hh'

/-- The other row of lists stays where one grows. -/
theorem other_kept {W W' : World} {b b' m n : Nat} {u v : Value} {xs ys : List Value} (hu : W.ownsRow b 24 1 u n xs) (hap : ApartV v u) (hg : W.grownBy W' v.ownBlock) : W'.ownsRow b 24 1 u n xs := by
  refine hu.kept hg ?_
  cases hb : u.ownBlock with
  | none => exact .inl rfl
  | some g =>
    right
    intro e
    exact hap g e.symm hb

theorem two_apps {B m : Nat} {W W3 W4 : World} {o1 o2 : Obj} {vt vw vt' vw' : Value} {X Y X' Y' : List Value} (hB : B ≤ W.heap.size) (ht : W.ownsRow B 24 1 vt m X) (hw : W.ownsRow B 24 1 vw m Y) (hap : ApartV vt vw)
    (h3 : W3.ownsRow B 24 1 vt' (m + 1) X') (g3 : (W.alloc o1).grownBy W3 vt.ownBlock) (l3 : vt'.ownBlock = vt.ownBlock ∨ vt'.ownBlock = some (W.alloc o1).heap.size)
    (h4 : W4.ownsRow B 24 1 vw' (m + 1) Y') (g4 : (W3.alloc o2).grownBy W4 vw.ownBlock) (l4 : vw'.ownBlock = vw.ownBlock ∨ vw'.ownBlock = some (W3.alloc o2).heap.size) :
    W4.ownsRow B 24 1 vt' (m + 1) X' ∧ ApartV vt' vw' ∧ Keep3 W W4 ∧ Below B W W4 := by
  have hz1 : (W.alloc o1).heap.size = W.heap.size + 1 := by simp
  have hz2 : (W3.alloc o2).heap.size = W3.heap.size + 1 := by simp
  have hz3 := g3.size
  have hw3 : W3.ownsRow B 24 1 vw m Y := other_kept (b' := 0) (m := 0) (ys := []) (hw.alloc o1) hap g3
  have hap2 : ApartV vw vt' := by
    intro g hg hg'
    rcases l3 with e | e
    · rw [e] at hg'; exact hap g hg' hg
    · rw [e] at hg'
      cases hg'
      have := (hw.lt _ hg).2
      omega
  refine ⟨other_kept (b' := 0) (m := 0) (ys := []) (h3.alloc o2) hap2 g4, ?_, ?_, ?_⟩
  · intro g hg hg'
    rcases l4 with e | e
    · rw [e] at hg'; exact hap2 g hg' hg
    · rw [e] at hg'
      cases hg'
      have := (h3.lt _ hg).2
      omega
  · exact (((Keep3.alloc W o1).trans (Keep3.grown (ht.alloc o1) g3)).trans (Keep3.alloc W3 o2)).trans (Keep3.grown (hw3.alloc o2) g4)
  · have b1 : Below B W W3 := ((Below.refl _ _).alloc hB o1).grown g3 (by omega) (fun j hj => (ht.lt j hj).1)
    exact (b1.alloc (by omega) o2).grown g4 (by omega) (fun j hj => (hw3.lt j hj).1)

theorem row_blk {w : World} {g n : Nat} {zs tl : List Int} (hl : zs.length = n) (h : w.heap[g]? = some (.cells (iv (zs ++ tl)).toArray 3 (0, 0))) : Row w (some ⟨g, 0, none⟩) n zs := by
  refine ⟨hl, fun j hj => ⟨g, 0, rfl, ?_⟩⟩
  rw [Nat.zero_add, blk_cell h]
  unfold iv
  have : j < zs.length := by omega
  rw [List.map_append, List.getElem?_append_left (by rw [List.length_map]; exact this)]
  simp [List.getD, this]

set_option maxRecDepth 100000 in
set_option maxHeartbeats 1000000 in
theorem one_4 (at' : Int) (s t : ByteArray) (ao : Option Addr) (n cap : Nat) (zs : List Int) (vt vw : Value) (w : World) (hn : n ≤ 2147483647) (hr : Row w ao n zs) :
    Calls Try.prog 9 #[.agg #[.int .i64 4, .string s, .int .i64 at', .slice ao n cap], vt, vw] w fun e w' => e = .returned (.tuple #[vt, vw, .bool true]) ∧ Below w.heap.size w w' := by
  have hl := hr.1
  have HR0 : Hid (Row (w.alloc (.cells #[.int .i64 4, .string s, .int .i64 at', .slice ao n cap] 26)) ao n zs) := hr.below ((Below.refl _ _).alloc (Nat.le_refl _) _)
  have HR : Hid (Row w ao n zs) := hr
  clear hr
  generalize hT : runesBytes (zs.map rn) = T
  have HT : Hid (runesBytes (zs.map rn) = T) := hT
  clear hT
  have e1 : (T.toList == T.toList) = true := by simp
  go_enter Try.func9, Try.ntmps9
  go_wp2_with fail
  refine (lent_any ao n cap zs _ hn HR0.out).mono ?_
  rintro e w1 ⟨rfl, hblk, hb1⟩
  obtain ⟨q1, q2, q3, hb⟩ := box4 (by simp) hb1
  have hz : (w.alloc (.cells #[.int .i64 4, .string s, .int .i64 at', .slice ao n cap] 26)).heap.size = w.heap.size + 1 := by simp
  rw [hz] at hblk
  have HK1 : Hid (w1.heap[w.heap.size + 1]? = some (.cells (iv (zs ++ [-7, -8])).toArray 3 (0, 0))) := hblk
  have hz1 : w.heap.size + 1 ≤ w1.heap.size := by have := hb1.size; simp at this; omega
  clear hblk hb1 hz
  go_wp2_with fail
  refine (text_row _ n (n + 2) zs _ hn (row_blk hl HK1.out)).mono ?_
  rintro e w2 ⟨rfl, hb2⟩
  rw [HT.out]
  have hz2 := hb2.size
  obtain ⟨r1, r2, r3⟩ := box4n hb2 q1 q2 q3
  have HK2 : Hid (w2.heap[w.heap.size + 1]? = some (.cells (iv (zs ++ [-7, -8])).toArray 3 (0, 0))) := heap_below (B := 0) hb2 HK1.out
  have hB2 : Below w.heap.size w w2 := hb.trans (hb2.mono hb.size)
  clear hb2 hb q1 q2 q3 HK1
  go_wp2_with fail
  refine (back_any2 (w.heap.size + 1) ao n cap (w.heap.size + 1) zs _ hn (HR.out.below hB2) HK2.out (Nat.le_refl _)).mono ?_
  rintro e w3 ⟨rfl, hb3⟩
  have s3 := (hb3.cell (p := ⟨w.heap.size, 3, none⟩) (by show w.heap.size < _; omega)).trans r3
  have hB3 : Below w.heap.size w w3 := hB2.trans (hb3.mono (by omega))
  clear hb3 hB2 r1 r2 r3 HK2
  go_wp2_with fail
  refine (rtext_any ao n cap zs _ hn (HR.out.below hB3)).mono ?_
  rintro e w4 ⟨rfl, hb4⟩
  rw [HT.out]
  have hB4 : Below w.heap.size w w4 := hB3.trans (hb4.mono hB3.size)
  clear hb4 hB3 s3
  go_wp2_with fail
  go_ret3
  exact ⟨rfl, hB4⟩

set_option maxRecDepth 100000 in
set_option maxHeartbeats 1000000 in
theorem one_3 (at' : Int) (s : ByteArray) (L vt vw : Value) (w : World) (B m : Nat) (X Y : List Value) (l : List Nat) (hl : l.length ≤ 2147483647) (hm : m ≤ 2147483647) (hB : B ≤ w.heap.size)
    (ht : w.ownsRow B 24 1 vt m X) (hw : w.ownsRow B 24 1 vw m Y) (hap : ApartV vt vw)
    (k1 : ∀ w, Calls Try.prog 14 #[.string s] w fun e w' => e = .returned (.slice (some ⟨w.heap.size + 1, 0, none⟩) l.length l.length) ∧ w'.ownsRow (w.heap.size + 1) 3 1 (.slice (some ⟨w.heap.size + 1, 0, none⟩) l.length l.length) l.length (ivs l) ∧ Below w.heap.size w w')
    (k2 : ∀ w, Calls Try.prog 23 #[.string s] w fun e w' => ∃ v, e = .returned v ∧ w'.ownsRow w.heap.size 3 1 v l.length (ivs l) ∧ Below w.heap.size w w') :
    Calls Try.prog 9 #[.agg #[.int .i64 3, .string s, .int .i64 at', L], vt, vw] w fun e w' => OneP B w m X Y vt vw e w' := by
  have K1 : Hid _ := k1
  have K2 : Hid _ := k2
  have HT : Hid (w.ownsRow B 24 1 vt m X) := ht
  have HW : Hid (w.ownsRow B 24 1 vw m Y) := hw
  have HAP : Hid (ApartV vt vw) := hap
  clear k1 k2 ht hw hap
  obtain ⟨j0, hj, hy0, hy1, hy2⟩ := info_parts Try.info24
  go_enter Try.func9, Try.ntmps9
  go_wp2_with fail
  refine (K1.out _).mono ?_
  rintro e w1 ⟨rfl, ho1, hb1⟩
  obtain ⟨q1, q2, q3, hb⟩ := box4 (by simp) hb1
  clear hb1
  simp only [World.size_alloc] at ho1 ⊢
  have HO1 : Hid (w1.ownsRow (w.heap.size + 1 + 1) 3 1 (.slice (some ⟨w.heap.size + 1 + 1, 0, none⟩) l.length l.length) l.length (ivs l)) := ho1
  clear ho1
  go_wp2_with fail
  refine (K2.out _).mono ?_
  rintro e w2 ⟨v, rfl, ho2, hb2⟩
  have hz1 := hb.size
  have hz2 := hb2.size
  have hB2 : Below w.heap.size w w2 := hb.trans (hb2.mono hz1)
  have HOA : Hid (w2.ownsRow (w.heap.size + 1 + 1) 3 1 (.slice (some ⟨w.heap.size + 1 + 1, 0, none⟩) l.length l.length) l.length (ivs l)) := own_below HO1.out hb2
  have ht2 : w2.ownsRow B 24 1 vt m X := own_below HT.out hB2
  have hw2 : w2.ownsRow B 24 1 vw m Y := own_below HW.out hB2
  have ho2' := ho2
  rw [ivs_eq] at ho2'
  obtain ⟨ao, cp, rfl, hrow2⟩ := own_shape ho2'
  have HOB : Hid (w2.ownsRow B 3 1 (.slice ao l.length cp) l.length (ivs l)) := own_mono ho2 (by omega)
  clear hb hb2 q1 q2 q3 HO1 ho2 ho2' hrow2 K1 K2
  go_wp2_with (first | (at_builtin; refine wpList_append_own_at _ rfl (.tmp 107) (.tmp 109) 27 rfl B 24 j0 (.slice none 0 0) 1 24 Try.underlying27 hj hy0 hy1 hy2 rfl (by decide) _ _ _ rfl (ht2.alloc _) ⟨_, 0, none⟩ 1 1 [.slice (some ⟨w.heap.size + 1 + 1, 0, none⟩) l.length l.length] rfl rfl ?d1 ?d2 ?d3 ?d4 ?d5 ?_))
  case d1 => exact one_new _ _ _ _ rfl
  case d2 => intro u hu; simp at hu; subst hu; rfl
  case d3 => unfold maxLen; omega
  case d4 => omega
  case d5 => simp; omega
  · intro v3 w3 h3 g3 _ l3
    have hw3 : w3.ownsRow B 24 1 vw m Y := other_kept (b' := 0) (m := 0) (ys := []) (hw2.alloc _) HAP.out g3
    have hz3 : w2.heap.size + 1 ≤ w3.heap.size := by have := g3.size; simp at this; omega
    have G3 : Hid _ := g3
    have L3 : Hid _ := l3
    have H3 : Hid (w3.ownsRow B 24 1 v3 (m + 1) (X ++ [.slice (some ⟨w.heap.size + 1 + 1, 0, none⟩) l.length l.length])) := h3
    have HT2 : Hid (w2.ownsRow B 24 1 vt m X) := ht2
    have HW2 : Hid (w2.ownsRow B 24 1 vw m Y) := hw2
    clear g3 l3 h3 ht2 hw2
    go_wp2_with (first | (at_builtin; refine wpList_append_own_at _ rfl (.tmp 111) (.tmp 113) 27 rfl B 24 j0 (.slice none 0 0) 1 24 Try.underlying27 hj hy0 hy1 hy2 rfl (by decide) _ _ _ rfl (hw3.alloc _) ⟨_, 0, none⟩ 1 1 [.slice ao l.length cp] rfl rfl ?e1 ?e2 ?e3 ?e4 ?e5 ?_))
    case e1 => exact one_new _ _ _ _ rfl
    case e2 => intro u hu; simp at hu; subst hu; rfl
    case e3 => unfold maxLen; omega
    case e4 => omega
    case e5 => simp; omega
    · intro v4 w4 h4 g4 _ l4
      have hz4 : w3.heap.size + 1 ≤ w4.heap.size := by have := g4.size; simp at this; omega
      obtain ⟨r1, r2, r3, r4⟩ := two_apps (by omega) HT2.out HW2.out HAP.out H3.out G3.out (by rcases L3.out with h | h; exact .inl h; right; simpa using h) h4 g4 (by rcases l4 with h | h; exact .inl h; right; simpa using h)
      have HA4 : Hid (w4.ownsRow (w.heap.size + 1 + 1) 3 1 (.slice (some ⟨w.heap.size + 1 + 1, 0, none⟩) l.length l.length) l.length (ivs l)) := own_kept2 ((own_kept2 (HOA.out.alloc _) (HT2.out.alloc _) G3.out).alloc _) (hw3.alloc _) g4
      have HB4 : Hid (w4.ownsRow B 3 1 (.slice ao l.length cp) l.length (ivs l)) := own_kept2 ((own_kept2 (HOB.out.alloc _) (HT2.out.alloc _) G3.out).alloc _) (hw3.alloc _) g4
      have R1 : Hid (w4.ownsRow B 24 1 v3 (m + 1) (X ++ [.slice (some ⟨w.heap.size + 1 + 1, 0, none⟩) l.length l.length])) := r1
      have R2 : Hid (ApartV v3 v4) := r2
      have R3 : Hid (Keep3 w w4) := (Keep3.below hB2).trans r3
      have R4 : Hid (Below B w w4) := (hB2.mono hB).trans r4
      have H4 : Hid (w4.ownsRow B 24 1 v4 (m + 1) (Y ++ [.slice ao l.length cp])) := h4
      have hra : Row w4 (some ⟨w.heap.size + 1 + 1, 0, none⟩) l.length (l.map (fun i : Nat => (i : Int))) := own_row (by have h := HA4.out; rw [ivs_eq] at h; exact h)
      have hrb : Row w4 ao l.length (l.map (fun i : Nat => (i : Int))) := by
        have h := HB4.out
        rw [ivs_eq] at h
        obtain ⟨ao', cp', e, hr⟩ := own_shape h
        cases e
        exact hr
      have HRA : Hid _ := hra
      have HRB : Hid _ := hrb
      clear r1 r2 r3 r4 h4 g4 l4 hw3 G3 L3 H3 HT2 HW2 HOA HOB hB2 hra hrb
      go_wp2_with fail
      refine (same_any _ _ l.length l.length l.length cp _ _ _ hl hl HRA.out HRB.out).mono ?_
      rintro e w5 ⟨rfl, hb5⟩
      rw [decide_eq_true (rfl : l.map (fun i : Nat => (i : Int)) = l.map (fun i : Nat => (i : Int)))]
      have F : Hid (OneP B w m X Y vt vw (.returned (.tuple #[v3, v4, .bool true])) w5) := by
        refine .inr ⟨v3, v4, w.heap.size + 1 + 1, l, .slice ao l.length cp, rfl, by omega, hl, own_below R1.out hb5, own_below H4.out hb5, own_block (own_below HA4.out hb5), own_below HB4.out hb5, R3.out.trans (Keep3.below hb5), R4.out.trans (hb5.mono (by omega)), R2.out⟩
      clear hb5 R1 R2 R3 R4 H4 HA4 HB4 HRA HRB
      go_wp2_with fail
      go_ret3
      exact F.out

set_option maxRecDepth 100000 in
set_option maxHeartbeats 1000000 in
theorem one_5 (at' : Int) (s : ByteArray) (L vt vw : Value) (w : World) (B m : Nat) (X Y : List Value) (l : List Nat) (hl : l.length ≤ 2147483647) (hm : m ≤ 2147483647) (hB : B ≤ w.heap.size)
    (ht : w.ownsRow B 24 1 vt m X) (hw : w.ownsRow B 24 1 vw m Y) (hap : ApartV vt vw)
    (k1 : ∀ w, Calls Try.prog 13 #[.string s] w fun e w' => e = .returned (.slice (some ⟨w.heap.size + 1, 0, none⟩) l.length l.length) ∧ w'.ownsRow (w.heap.size + 1) 3 1 (.slice (some ⟨w.heap.size + 1, 0, none⟩) l.length l.length) l.length (ivs l) ∧ Below w.heap.size w w')
    (k2 : ∀ w, Calls Try.prog 27 #[.string s] w fun e w' => ∃ v, e = .returned v ∧ w'.ownsRow w.heap.size 3 1 v l.length (ivs l) ∧ Below w.heap.size w w') :
    Calls Try.prog 9 #[.agg #[.int .i64 5, .string s, .int .i64 at', L], vt, vw] w fun e w' => OneP B w m X Y vt vw e w' := by
  have K1 : Hid _ := k1
  have K2 : Hid _ := k2
  have HT : Hid (w.ownsRow B 24 1 vt m X) := ht
  have HW : Hid (w.ownsRow B 24 1 vw m Y) := hw
  have HAP : Hid (ApartV vt vw) := hap
  clear k1 k2 ht hw hap
  obtain ⟨j0, hj, hy0, hy1, hy2⟩ := info_parts Try.info24
  go_enter Try.func9, Try.ntmps9
  go_wp2_with fail
  refine (K1.out _).mono ?_
  rintro e w1 ⟨rfl, ho1, hb1⟩
  obtain ⟨q1, q2, q3, hb⟩ := box4 (by simp) hb1
  clear hb1
  simp only [World.size_alloc] at ho1 ⊢
  have HO1 : Hid (w1.ownsRow (w.heap.size + 1 + 1) 3 1 (.slice (some ⟨w.heap.size + 1 + 1, 0, none⟩) l.length l.length) l.length (ivs l)) := ho1
  clear ho1
  go_wp2_with fail
  refine (K2.out _).mono ?_
  rintro e w2 ⟨v, rfl, ho2, hb2⟩
  have hz1 := hb.size
  have hz2 := hb2.size
  have hB2 : Below w.heap.size w w2 := hb.trans (hb2.mono hz1)
  have HOA : Hid (w2.ownsRow (w.heap.size + 1 + 1) 3 1 (.slice (some ⟨w.heap.size + 1 + 1, 0, none⟩) l.length l.length) l.length (ivs l)) := own_below HO1.out hb2
  have ht2 : w2.ownsRow B 24 1 vt m X := own_below HT.out hB2
  have hw2 : w2.ownsRow B 24 1 vw m Y := own_below HW.out hB2
  have ho2' := ho2
  rw [ivs_eq] at ho2'
  obtain ⟨ao, cp, rfl, hrow2⟩ := own_shape ho2'
  have HOB : Hid (w2.ownsRow B 3 1 (.slice ao l.length cp) l.length (ivs l)) := own_mono ho2 (by omega)
  clear hb hb2 q1 q2 q3 HO1 ho2 ho2' hrow2 K1 K2
  go_wp2_with (first | (at_builtin; refine wpList_append_own_at _ rfl (.tmp 146) (.tmp 148) 27 rfl B 24 j0 (.slice none 0 0) 1 24 Try.underlying27 hj hy0 hy1 hy2 rfl (by decide) _ _ _ rfl (ht2.alloc _) ⟨_, 0, none⟩ 1 1 [.slice (some ⟨w.heap.size + 1 + 1, 0, none⟩) l.length l.length] rfl rfl ?d1 ?d2 ?d3 ?d4 ?d5 ?_))
  case d1 => exact one_new _ _ _ _ rfl
  case d2 => intro u hu; simp at hu; subst hu; rfl
  case d3 => unfold maxLen; omega
  case d4 => omega
  case d5 => simp; omega
  · intro v3 w3 h3 g3 _ l3
    have hw3 : w3.ownsRow B 24 1 vw m Y := other_kept (b' := 0) (m := 0) (ys := []) (hw2.alloc _) HAP.out g3
    have hz3 : w2.heap.size + 1 ≤ w3.heap.size := by have := g3.size; simp at this; omega
    have G3 : Hid _ := g3
    have L3 : Hid _ := l3
    have H3 : Hid (w3.ownsRow B 24 1 v3 (m + 1) (X ++ [.slice (some ⟨w.heap.size + 1 + 1, 0, none⟩) l.length l.length])) := h3
    have HT2 : Hid (w2.ownsRow B 24 1 vt m X) := ht2
    have HW2 : Hid (w2.ownsRow B 24 1 vw m Y) := hw2
    clear g3 l3 h3 ht2 hw2
    go_wp2_with (first | (at_builtin; refine wpList_append_own_at _ rfl (.tmp 150) (.tmp 152) 27 rfl B 24 j0 (.slice none 0 0) 1 24 Try.underlying27 hj hy0 hy1 hy2 rfl (by decide) _ _ _ rfl (hw3.alloc _) ⟨_, 0, none⟩ 1 1 [.slice ao l.length cp] rfl rfl ?e1 ?e2 ?e3 ?e4 ?e5 ?_))
    case e1 => exact one_new _ _ _ _ rfl
    case e2 => intro u hu; simp at hu; subst hu; rfl
    case e3 => unfold maxLen; omega
    case e4 => omega
    case e5 => simp; omega
    · intro v4 w4 h4 g4 _ l4
      have hz4 : w3.heap.size + 1 ≤ w4.heap.size := by have := g4.size; simp at this; omega
      obtain ⟨r1, r2, r3, r4⟩ := two_apps (by omega) HT2.out HW2.out HAP.out H3.out G3.out (by rcases L3.out with h | h; exact .inl h; right; simpa using h) h4 g4 (by rcases l4 with h | h; exact .inl h; right; simpa using h)
      have HA4 : Hid (w4.ownsRow (w.heap.size + 1 + 1) 3 1 (.slice (some ⟨w.heap.size + 1 + 1, 0, none⟩) l.length l.length) l.length (ivs l)) := own_kept2 ((own_kept2 (HOA.out.alloc _) (HT2.out.alloc _) G3.out).alloc _) (hw3.alloc _) g4
      have HB4 : Hid (w4.ownsRow B 3 1 (.slice ao l.length cp) l.length (ivs l)) := own_kept2 ((own_kept2 (HOB.out.alloc _) (HT2.out.alloc _) G3.out).alloc _) (hw3.alloc _) g4
      have R1 : Hid (w4.ownsRow B 24 1 v3 (m + 1) (X ++ [.slice (some ⟨w.heap.size + 1 + 1, 0, none⟩) l.length l.length])) := r1
      have R2 : Hid (ApartV v3 v4) := r2
      have R3 : Hid (Keep3 w w4) := (Keep3.below hB2).trans r3
      have R4 : Hid (Below B w w4) := (hB2.mono hB).trans r4
      have H4 : Hid (w4.ownsRow B 24 1 v4 (m + 1) (Y ++ [.slice ao l.length cp])) := h4
      have hra : Row w4 (some ⟨w.heap.size + 1 + 1, 0, none⟩) l.length (l.map (fun i : Nat => (i : Int))) := own_row (by have h := HA4.out; rw [ivs_eq] at h; exact h)
      have hrb : Row w4 ao l.length (l.map (fun i : Nat => (i : Int))) := by
        have h := HB4.out
        rw [ivs_eq] at h
        obtain ⟨ao', cp', e, hr⟩ := own_shape h
        cases e
        exact hr
      have HRA : Hid _ := hra
      have HRB : Hid _ := hrb
      clear r1 r2 r3 r4 h4 g4 l4 hw3 G3 L3 H3 HT2 HW2 HOA HOB hB2 hra hrb
      go_wp2_with fail
      refine (same_any _ _ l.length l.length l.length cp _ _ _ hl hl HRA.out HRB.out).mono ?_
      rintro e w5 ⟨rfl, hb5⟩
      rw [decide_eq_true (rfl : l.map (fun i : Nat => (i : Int)) = l.map (fun i : Nat => (i : Int)))]
      have F : Hid (OneP B w m X Y vt vw (.returned (.tuple #[v3, v4, .bool true])) w5) := by
        refine .inr ⟨v3, v4, w.heap.size + 1 + 1, l, .slice ao l.length cp, rfl, by omega, hl, own_below R1.out hb5, own_below H4.out hb5, own_block (own_below HA4.out hb5), own_below HB4.out hb5, R3.out.trans (Keep3.below hb5), R4.out.trans (hb5.mono (by omega)), R2.out⟩
      clear hb5 R1 R2 R3 R4 H4 HA4 HB4 HRA HRB
      go_wp2_with fail
      go_ret3
      exact F.out

end Go.Proofs.Ytgjbkdnefbnclaa
