import Derived.Test.YtjibpdncginkdaaNe
set_option linter.unusedVariables false
set_option linter.unusedSimpArgs false
namespace Go.Proofs.Ytjibpdncginkdaa
open Go.RowKit

theorem RG.nonempty {β : Type} {T e : TypeId} {enc : β → List Value} {own : Nat → Nat} {i : Nat} {w : World} {g room : Nat} {sv : Value} {zs : List β} {front : Nat} {l : List β} (h : RG T e enc own i w g room sv zs front l) (hl : 0 < l.length) :
    ∃ b, sv = .slice (some ⟨b, 0, none⟩) zs.length zs.length ∧ w.heap[b]? = some (.cells (flat enc zs).toArray e (0, 0)) ∧ own b = i ∧ b ≠ g ∧ front < zs.length := by
  rcases h.row with ⟨rfl, _, _⟩ | h1
  · have := h.hold.1; rw [List.length_nil] at this; omega
  · exact h1

theorem popFI_nil (w : World) : Calls Try.prog 22 #[.pointer none] w fun e w' => e = .returned (.tuple #[.int .i64 0, .int .i64 3]) ∧ w' = w := by
  go_enter Try.func22, Try.ntmps22
  go_wp2_with fail
  refine (someI_nil _).mono ?_
  rintro e w1 ⟨rfl, rfl⟩
  go_wp2_with fail
  go_ret2
  exact ⟨rfl, rfl⟩
theorem popFI_empty (g : Nat) (w : World) (h3 : w.cell? ⟨g, 3, none⟩ = some (.int .i64 0)) : Calls Try.prog 22 #[.pointer (some ⟨g, 0, none⟩)] w fun e w' => e = .returned (.tuple #[.int .i64 0, .int .i64 51]) ∧ w' = w := by
  go_enter Try.func22, Try.ntmps22
  go_wp2_with fail
  refine (someI_empty g w h3).mono ?_
  rintro e w1 ⟨rfl, rfl⟩
  go_wp2_with fail
  go_ret2
  exact ⟨rfl, rfl⟩
theorem popBI_nil (w : World) : Calls Try.prog 24 #[.pointer none] w fun e w' => e = .returned (.tuple #[.int .i64 0, .int .i64 3]) ∧ w' = w := by
  go_enter Try.func24, Try.ntmps24
  go_wp2_with fail
  refine (someI_nil _).mono ?_
  rintro e w1 ⟨rfl, rfl⟩
  go_wp2_with fail
  go_ret2
  exact ⟨rfl, rfl⟩
theorem popBI_empty (g : Nat) (w : World) (h3 : w.cell? ⟨g, 3, none⟩ = some (.int .i64 0)) : Calls Try.prog 24 #[.pointer (some ⟨g, 0, none⟩)] w fun e w' => e = .returned (.tuple #[.int .i64 0, .int .i64 51]) ∧ w' = w := by
  go_enter Try.func24, Try.ntmps24
  go_wp2_with fail
  refine (someI_empty g w h3).mono ?_
  rintro e w1 ⟨rfl, rfl⟩
  go_wp2_with fail
  go_ret2
  exact ⟨rfl, rfl⟩

/-- Behind a pop: a cell cleared, front and count as they are then. -/
theorem RI.popped {own : Nat → Nat} {i : Nat} {w : World} {g room b : Nat} {zs : List Int} {front : Nat} {l l' : List Int} (h : RI own i w g room (.slice (some ⟨b, 0, none⟩) zs.length zs.length) zs front l) (hnf : Nf own w) (hrow : w.heap[b]? = some (.cells (flat encI zs).toArray 3 (0, 0))) (hob : own b = i) (hbg : b ≠ g) (p front' : Nat) (hfr : front' < zs.length) (c : Int) (hc : c = (l'.length : Int)) (hh : Holds (zs.set p 0) front' l') :
    AfI own i w (((w.setCell ⟨b, p, none⟩ (.int .i64 0)).setCell ⟨g, 2, none⟩ (.int .i64 front')).setCell ⟨g, 3, none⟩ (.int .i64 c)) g room l' := by
  subst hc
  refine ⟨own, _, _, front', fun k hk => hnf k (by rw [size_set, size_set, size_set] at hk; exact hk), (((Fr.refl i own w).set' hob _ _).set' h.lab _ _).set' h.lab _ _, h.put ?_ ?_ hbg hob (List.length_set) hfr hh⟩
  · have := blk_set (blk_set (blk_other h.blk (Ne.symm hbg) (k := p) (.int .i64 0)) 2 (.int .i64 front')) 3 (.int .i64 (l'.length : Int))
    rw [this]; simp
  · have := blk_other (blk_other (blk_set hrow p (.int .i64 0)) hbg (k := 2) (.int .i64 front')) hbg (k := 3) (.int .i64 (l'.length : Int))
    rw [flatI_set] at this
    exact this
theorem RI.poppedB {own : Nat → Nat} {i : Nat} {w : World} {g room b : Nat} {zs : List Int} {front : Nat} {l l' : List Int} (h : RI own i w g room (.slice (some ⟨b, 0, none⟩) zs.length zs.length) zs front l) (hnf : Nf own w) (hrow : w.heap[b]? = some (.cells (flat encI zs).toArray 3 (0, 0))) (hob : own b = i) (hbg : b ≠ g) (p : Nat) (hfr : front < zs.length) (c : Int) (hc : c = (l'.length : Int)) (hh : Holds (zs.set p 0) front l') :
    AfI own i w ((w.setCell ⟨b, p, none⟩ (.int .i64 0)).setCell ⟨g, 3, none⟩ (.int .i64 c)) g room l' := by
  subst hc
  refine ⟨own, _, _, front, fun k hk => hnf k (by rw [size_set, size_set] at hk; exact hk), ((Fr.refl i own w).set' hob _ _).set' h.lab _ _, h.put ?_ ?_ hbg hob (List.length_set) hfr hh⟩
  · have := blk_set (blk_other h.blk (Ne.symm hbg) (k := p) (.int .i64 0)) 3 (.int .i64 (l'.length : Int))
    rw [this]; simp
  · have := blk_other (blk_set hrow p (.int .i64 0)) hbg (k := 3) (.int .i64 (l'.length : Int))
    rw [flatI_set] at this
    exact this
theorem RI.putAt {own : Nat → Nat} {i : Nat} {w : World} {g room b : Nat} {zs : List Int} {front : Nat} {l l' : List Int} (h : RI own i w g room (.slice (some ⟨b, 0, none⟩) zs.length zs.length) zs front l) (hnf : Nf own w) (hrow : w.heap[b]? = some (.cells (flat encI zs).toArray 3 (0, 0))) (hob : own b = i) (hbg : b ≠ g) (p : Nat) (x : Int) (hfr : front < zs.length) (hc : l'.length = l.length) (hh : Holds (zs.set p x) front l') :
    AfI own i w (w.setCell ⟨b, p, none⟩ (.int .i64 x)) g room l' := by
  refine ⟨own, _, _, front, fun k hk => hnf k (by rw [size_set] at hk; exact hk), (Fr.refl i own w).set' hob _ _, h.put ?_ ?_ hbg hob (List.length_set) hfr hh⟩
  · rw [hc]; exact blk_other h.blk (Ne.symm hbg) (k := p) (.int .i64 x)
  · have := blk_set hrow p (.int .i64 x)
    rw [flatI_set] at this
    exact this

set_option maxHeartbeats 1000000 in
theorem popFI_any (own : Nat → Nat) (i g room front : Nat) (sv : Value) (zs l : List Int) (x : Int) (w : World) (hR : RI own i w g room sv zs front l) (hnf : Nf own w) (hx : l[0]? = some x) :
    Calls Try.prog 22 #[.pointer (some ⟨g, 0, none⟩)] w fun e w' => e = .returned (.tuple #[.int .i64 x, .int .i64 0]) ∧ AfI own i w w' g room l.tail := by
  have hlp : 0 < l.length := (List.getElem?_eq_some_iff.1 hx).1
  obtain ⟨b, rfl, hrow, hob, hbg, hfl⟩ := hR.nonempty hlp
  have hle := hR.hold.1
  have hr2 := hR.r2
  have hr3 := hR.len
  have h1 := hR.c1
  have h2 := hR.c2
  have h3 := hR.c3
  have fz2 := hR.fz 2
  have fz3 := hR.fz 3
  obtain ⟨p, hp⟩ : ∃ p, (front + 0) % zs.length = p := ⟨_, rfl⟩
  obtain ⟨q, hq⟩ : ∃ q, (front + 1) % zs.length = q := ⟨_, rfl⟩
  have hpn : p < zs.length := by rw [← hp]; exact Nat.mod_lt _ (by omega)
  have hqn : q < zs.length := by rw [← hq]; exact Nat.mod_lt _ (by omega)
  have hy : zs[p]? = some x := by rw [← hp, ← hR.hold.2 0 hlp]; exact hx
  have HEND : Hid _ := hR.popped hnf hrow hob hbg p q hqn ((l.length : Int) - 1) (l' := l.tail) (by rw [List.length_tail]; omega) (by have := hR.hold.popFront 0 hlp; rw [hp, hq] at this; exact this)
  have hc := blk_cell hrow (flatI_at hy)
  have hcf : w.frozen? ⟨b, p, none⟩ = false := blk_frozen hrow
  have HS : Hid (Calls Try.prog 40 #[.pointer (some ⟨g, 0, none⟩)] w fun e w' => e = .returned (.int .i64 0) ∧ w' = w) := someI g l.length w h3 hlp
  have HE : Hid (Calls Try.prog 41 #[.pointer (some ⟨g, 0, none⟩), .int .i64 0] w fun e w' => e = .returned (.int .i64 x) ∧ ∃ m, w' = (w.drewN m).setCell ⟨b, p, none⟩ (.int .i64 0)) := emptyI g zs.length front 0 p b x w h1 h2 hpn (by omega) (by omega) hp hc hcf
  have HC : Hid (∀ W, W.cell? ⟨g, 1, none⟩ = some (.slice (some ⟨b, 0, none⟩) zs.length zs.length) → W.cell? ⟨g, 2, none⟩ = some (.int .i64 front) → Calls Try.prog 39 #[.pointer (some ⟨g, 0, none⟩), .int .i64 1] W fun e w' => e = .returned (.int .i64 q) ∧ ∃ m, w' = W.drewN m) := fun W a b => cellI g zs.length front 1 q _ W a b (by omega) (by omega) (by omega) hq
  clear hnf hrow hob hp hq hy hx
  have q7 : g ≠ b := Ne.symm hbg
  have D1 : Hid (∀ m, ((w.drewN m).setCell ⟨b, p, none⟩ (.int .i64 0)).cell? ⟨g, 1, none⟩ = some (.slice (some ⟨b, 0, none⟩) zs.length zs.length) ∧ ((w.drewN m).setCell ⟨b, p, none⟩ (.int .i64 0)).cell? ⟨g, 2, none⟩ = some (.int .i64 front)) := fun m => by
    have := blk_other (W := w.drewN m) (k := p) hR.blk q7 (.int .i64 0)
    exact ⟨blk_cell this rfl, blk_cell this rfl⟩
  clear hR
  generalize zs.length = n at *
  generalize hL : l.length = c at *
  clear hL
  go_enter Try.func22, Try.ntmps22
  go_wp2_with fail
  refine HS.out.mono ?_
  rintro e w1 ⟨rfl, rfl⟩
  go_wp2_with fail
  refine HE.out.mono ?_
  rintro e w2 ⟨rfl, m, rfl⟩
  go_wp2_with fail
  refine (HC.out _ (D1.out m).1 (D1.out m).2).mono ?_
  rintro e w3 ⟨rfl, m2, rfl⟩
  go_wp2_with fail
  go_ret2
  exact ⟨rfl, After.same HEND.out rfl rfl rfl rfl⟩

set_option maxHeartbeats 1000000 in
theorem popBI_any (own : Nat → Nat) (i g room front : Nat) (sv : Value) (zs l : List Int) (x : Int) (w : World) (hR : RI own i w g room sv zs front l) (hnf : Nf own w) (hlp : 0 < l.length) (hx : l[l.length - 1]? = some x) :
    Calls Try.prog 24 #[.pointer (some ⟨g, 0, none⟩)] w fun e w' => e = .returned (.tuple #[.int .i64 x, .int .i64 0]) ∧ AfI own i w w' g room l.dropLast := by
  obtain ⟨b, rfl, hrow, hob, hbg, hfl⟩ := hR.nonempty hlp
  have hle := hR.hold.1
  have hr2 := hR.r2
  have hr3 := hR.len
  have h1 := hR.c1
  have h2 := hR.c2
  have h3 := hR.c3
  have fz3 := hR.fz 3
  obtain ⟨p, hp⟩ : ∃ p, (front + (l.length - 1)) % zs.length = p := ⟨_, rfl⟩
  have hpn : p < zs.length := by rw [← hp]; exact Nat.mod_lt _ (by omega)
  have hy : zs[p]? = some x := by rw [← hp, ← hR.hold.2 (l.length - 1) (by omega)]; exact hx
  have HEND : Hid _ := hR.poppedB hnf hrow hob hbg p hfl ((l.length : Int) - 1) (l' := l.dropLast) (by rw [List.length_dropLast]; omega) (by have := hR.hold.popBack 0 hlp; rw [hp] at this; exact this)
  have hc := blk_cell hrow (flatI_at hy)
  have hcf : w.frozen? ⟨b, p, none⟩ = false := blk_frozen hrow
  have HS : Hid (Calls Try.prog 40 #[.pointer (some ⟨g, 0, none⟩)] w fun e w' => e = .returned (.int .i64 0) ∧ w' = w) := someI g l.length w h3 hlp
  have HE : Hid (Calls Try.prog 41 #[.pointer (some ⟨g, 0, none⟩), .int .i64 ((l.length : Int) - 1)] w fun e w' => e = .returned (.int .i64 x) ∧ ∃ m, w' = (w.drewN m).setCell ⟨b, p, none⟩ (.int .i64 0)) := by
    have := emptyI g zs.length front (l.length - 1) p b x w h1 h2 hpn (by omega) (by omega) hp hc hcf
    rw [show ((l.length - 1 : Nat) : Int) = (l.length : Int) - 1 by omega] at this
    exact this
  clear hnf hrow hob hp hy hx
  have q7 : g ≠ b := Ne.symm hbg
  clear hR
  generalize zs.length = n at *
  generalize hL : l.length = c at *
  clear hL
  go_enter Try.func24, Try.ntmps24
  go_wp2_with fail
  refine HS.out.mono ?_
  rintro e w1 ⟨rfl, rfl⟩
  go_wp2_with fail
  refine HE.out.mono ?_
  rintro e w2 ⟨rfl, m, rfl⟩
  go_wp2_with fail
  go_ret2
  exact ⟨rfl, After.same HEND.out rfl rfl rfl rfl⟩

theorem atI_nil (k : Int) (w : World) : Calls Try.prog 23 #[.pointer none, .int .i64 k] w fun e w' => e = .returned (.tuple #[.int .i64 0, .int .i64 3]) ∧ w' = w := by
  go_enter Try.func23, Try.ntmps23
  go_wp2_with fail
  refine (withinI_nil _ _).mono ?_
  rintro e w1 ⟨rfl, rfl⟩
  go_wp2_with fail
  go_ret2
  exact ⟨rfl, rfl⟩
theorem withinI_bad (g c : Nat) (k : Int) (w : World) (h : w.cell? ⟨g, 3, none⟩ = some (.int .i64 c)) (hk : k < 0 ∨ (c : Int) ≤ k) : Calls Try.prog 42 #[.pointer (some ⟨g, 0, none⟩), .int .i64 k] w fun e w' => e = .returned (.int .i64 1) ∧ w' = w := by
  rcases hk with hk | hk
  · exact withinI_neg g k w hk
  · exact withinI_out g c k w h hk
theorem atI_bad (g c : Nat) (k : Int) (w : World) (h : w.cell? ⟨g, 3, none⟩ = some (.int .i64 c)) (hk : k < 0 ∨ (c : Int) ≤ k) : Calls Try.prog 23 #[.pointer (some ⟨g, 0, none⟩), .int .i64 k] w fun e w' => e = .returned (.tuple #[.int .i64 0, .int .i64 1]) ∧ w' = w := by
  have H : Hid (Calls Try.prog 42 #[.pointer (some ⟨g, 0, none⟩), .int .i64 k] w fun e w' => e = .returned (.int .i64 1) ∧ w' = w) := withinI_bad g c k w h hk
  clear h hk
  go_enter Try.func23, Try.ntmps23
  go_wp2_with fail
  refine (Hid.out H).mono ?_
  rintro e w1 ⟨rfl, rfl⟩
  go_wp2_with fail
  go_ret2
  exact ⟨rfl, rfl⟩
theorem setI_nil (k x : Int) (w : World) : Calls Try.prog 36 #[.pointer none, .int .i64 k, .int .i64 x] w fun e w' => e = .returned (.int .i64 3) ∧ w' = w := by
  go_enter Try.func36, Try.ntmps36
  go_wp2_with fail
  refine (withinI_nil _ _).mono ?_
  rintro e w1 ⟨rfl, rfl⟩
  go_wp2_with fail
  go_ret
  exact ⟨rfl, rfl⟩
theorem setI_bad (g c : Nat) (k x : Int) (w : World) (h : w.cell? ⟨g, 3, none⟩ = some (.int .i64 c)) (hk : k < 0 ∨ (c : Int) ≤ k) : Calls Try.prog 36 #[.pointer (some ⟨g, 0, none⟩), .int .i64 k, .int .i64 x] w fun e w' => e = .returned (.int .i64 1) ∧ w' = w := by
  have H : Hid (Calls Try.prog 42 #[.pointer (some ⟨g, 0, none⟩), .int .i64 k] w fun e w' => e = .returned (.int .i64 1) ∧ w' = w) := withinI_bad g c k w h hk
  clear h hk
  go_enter Try.func36, Try.ntmps36
  go_wp2_with fail
  refine (Hid.out H).mono ?_
  rintro e w1 ⟨rfl, rfl⟩
  go_wp2_with fail
  go_ret
  exact ⟨rfl, rfl⟩

set_option maxHeartbeats 1000000 in
theorem atI_any (own : Nat → Nat) (i g room front k : Nat) (sv : Value) (zs l : List Int) (x : Int) (w : World) (hR : RI own i w g room sv zs front l) (hx : l[k]? = some x) :
    Calls Try.prog 23 #[.pointer (some ⟨g, 0, none⟩), .int .i64 k] w fun e w' => e = .returned (.tuple #[.int .i64 x, .int .i64 0]) ∧ ∃ m, w' = w.drewN m := by
  have hkl : k < l.length := (List.getElem?_eq_some_iff.1 hx).1
  obtain ⟨b, rfl, hrow, hob, hbg, hfl⟩ := hR.nonempty (by omega)
  have hle := hR.hold.1
  have hr2 := hR.r2
  have hr3 := hR.len
  have h1 := hR.c1
  have h2 := hR.c2
  have h3 := hR.c3
  obtain ⟨p, hp⟩ : ∃ p, (front + k) % zs.length = p := ⟨_, rfl⟩
  have hpn : p < zs.length := by rw [← hp]; exact Nat.mod_lt _ (by omega)
  have hy : zs[p]? = some x := by rw [← hp, ← hR.hold.2 k hkl]; exact hx
  have hc := blk_cell hrow (flatI_at hy)
  have HS : Hid (Calls Try.prog 42 #[.pointer (some ⟨g, 0, none⟩), .int .i64 k] w fun e w' => e = .returned (.int .i64 0) ∧ w' = w) := withinI g l.length k w h3 hkl
  have HC : Hid (∀ W, W.cell? ⟨g, 1, none⟩ = some (.slice (some ⟨b, 0, none⟩) zs.length zs.length) → W.cell? ⟨g, 2, none⟩ = some (.int .i64 front) → Calls Try.prog 39 #[.pointer (some ⟨g, 0, none⟩), .int .i64 k] W fun e w' => e = .returned (.int .i64 p) ∧ ∃ m, w' = W.drewN m) := fun W a b => cellI g zs.length front k p _ W a b (by omega) (by omega) (by omega) hp
  clear hR hrow hob hp hy hx hkl
  generalize zs.length = n at *
  have i1 : (0 : Int) ≤ (p : Int) := by omega
  have i2 : (p : Int) < (n : Int) := by omega
  go_enter Try.func23, Try.ntmps23
  go_wp2_with fail
  refine HS.out.mono ?_
  rintro e w1 ⟨rfl, rfl⟩
  go_wp2_with fail
  go_quiet ((go_at_call 39; exact Calls.quiet_of (HC.out _ (by simpa using h1) (by simpa using h2))))
  go_wp2_with fail
  go_ret2
  exact ⟨rfl, ⟨_, rfl⟩⟩

set_option maxHeartbeats 1000000 in
theorem setI_any (own : Nat → Nat) (i g room front k : Nat) (sv : Value) (zs l : List Int) (x : Int) (w : World) (hR : RI own i w g room sv zs front l) (hnf : Nf own w) (hkl : k < l.length) :
    Calls Try.prog 36 #[.pointer (some ⟨g, 0, none⟩), .int .i64 k, .int .i64 x] w fun e w' => e = .returned (.int .i64 0) ∧ AfI own i w w' g room (l.set k x) := by
  obtain ⟨b, rfl, hrow, hob, hbg, hfl⟩ := hR.nonempty (by omega)
  have hle := hR.hold.1
  have hr2 := hR.r2
  have hr3 := hR.len
  have h1 := hR.c1
  have h2 := hR.c2
  have h3 := hR.c3
  obtain ⟨p, hp⟩ : ∃ p, (front + k) % zs.length = p := ⟨_, rfl⟩
  have hpn : p < zs.length := by rw [← hp]; exact Nat.mod_lt _ (by omega)
  obtain ⟨y, hy⟩ : ∃ y, zs[p]? = some y := ⟨_, List.getElem?_eq_getElem hpn⟩
  have HEND : Hid _ := hR.putAt hnf hrow hob hbg p x hfl (l' := l.set k x) List.length_set (by have := hR.hold.set x hkl; rw [hp] at this; exact this)
  have hc := blk_cell hrow (flatI_at hy)
  have hcf : w.frozen? ⟨b, p, none⟩ = false := blk_frozen hrow
  have HS : Hid (Calls Try.prog 42 #[.pointer (some ⟨g, 0, none⟩), .int .i64 k] w fun e w' => e = .returned (.int .i64 0) ∧ w' = w) := withinI g l.length k w h3 hkl
  have HC : Hid (∀ W, W.cell? ⟨g, 1, none⟩ = some (.slice (some ⟨b, 0, none⟩) zs.length zs.length) → W.cell? ⟨g, 2, none⟩ = some (.int .i64 front) → Calls Try.prog 39 #[.pointer (some ⟨g, 0, none⟩), .int .i64 k] W fun e w' => e = .returned (.int .i64 p) ∧ ∃ m, w' = W.drewN m) := fun W a b => cellI g zs.length front k p _ W a b (by omega) (by omega) (by omega) hp
  clear hR hnf hrow hob hp hy
  have q7 : g ≠ b := Ne.symm hbg
  generalize zs.length = n at *
  have i1 : (0 : Int) ≤ (p : Int) := by omega
  have i2 : (p : Int) < (n : Int) := by omega
  clear hkl
  go_enter Try.func36, Try.ntmps36
  go_wp2_with fail
  refine HS.out.mono ?_
  rintro e w1 ⟨rfl, rfl⟩
  go_wp2_with fail
  go_region_with (go_at_call 39; refine (HC.out _ (by simpa using h1) (by simpa using h2)).mono ?_; rintro e w1 ⟨rfl, m, rfl⟩)
  all_goals go_wp2_with fail
  all_goals go_ret
  all_goals exact ⟨rfl, After.same HEND.out rfl rfl rfl rfl⟩
end Go.Proofs.Ytjibpdncginkdaa
