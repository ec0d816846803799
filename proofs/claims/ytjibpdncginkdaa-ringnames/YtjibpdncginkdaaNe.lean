import Derived.Test.YtjibpdncginkdaaNd
set_option linter.unusedVariables false
set_option linter.unusedSimpArgs false
namespace Go.Proofs.Ytjibpdncginkdaa
open Go.RowKit

theorem widenI_any (own : Nat → Nat) (i g room front : Nat) (sv : Value) (zs l : List Int) (w : World) (hR : RI own i w g room sv zs front l) (hnf : Nf own w) (hf : l.length = zs.length) (hr : zs.length < room) :
    Calls Try.prog 38 #[.pointer (some ⟨g, 0, none⟩)] w fun e w' => e = .returned (.tuple #[]) ∧ ∃ own' b zs', Nf own' w' ∧ Fr i own own' w w' ∧ RI own' i w' g room (.slice (some ⟨b, 0, none⟩) zs'.length zs'.length) zs' 0 l ∧ l.length < zs'.length := by
  have hg := blk_lt hR.blk
  rcases hR.row with ⟨rfl, rfl, rfl⟩ | ⟨b, rfl, hb, hob, hbg, hfl⟩
  · refine (widenI_nil g room w hg hR.c0 hR.c1 hR.c2 hR.fz hR.r1).mono ?_
    rintro e w' ⟨rfl, W, hW, hrow, rfl⟩
    obtain rfl : l = [] := List.eq_nil_of_length_eq_zero hf
    obtain ⟨own', a, b, c⟩ := hR.widened hnf hW hrow rfl hR.r1 (by simp) ⟨by simp, fun i hi => absurd hi (by simp)⟩
    exact ⟨rfl, own', w.heap.size, [0], a, b, c, by simp⟩
  · have h2 := hR.r2
    obtain ⟨N, hN⟩ : ∃ N, N = min room (2 * zs.length) := ⟨_, rfl⟩
    have hlen : (zs.drop front ++ zs.take front ++ List.replicate (N - zs.length) 0).length = N := by rw [List.length_append, List.length_append, List.length_drop, List.length_take, List.length_replicate]; omega
    refine (widenI_core g room zs.length front N b 0 zs w rfl hg hR.c0 hR.c1 hR.c2 hR.fz hb hfl h2 (by omega) (by omega) (by omega)).mono ?_
    rintro e w' ⟨rfl, W, hW, hrow, rfl⟩
    obtain ⟨own', a, b, c⟩ := hR.widened hnf hW hrow hlen (by omega) (by omega) (hR.hold.widen (Z := List.replicate (N - zs.length) 0) (by omega) hf)
    refine ⟨rfl, own', w.heap.size, _, a, b, by rw [hlen]; exact c, by rw [hlen]; omega⟩

/-- A thing laid into a cell of the ring's row, and another count. -/
theorem RG.put {β : Type} {T e : TypeId} {enc : β → List Value} {own : Nat → Nat} {i : Nat} {w W : World} {g room b : Nat} {zs zs' : List β} {front front' : Nat} {l l' : List β} (h : RG T e enc own i w g room (.slice (some ⟨b, 0, none⟩) zs.length zs.length) zs front l)
    (hg : W.heap[g]? = some (.cells #[.int .i64 room, .slice (some ⟨b, 0, none⟩) zs.length zs.length, .int .i64 front', .int .i64 l'.length] T (0, 0))) (hb : W.heap[b]? = some (.cells (flat enc zs').toArray e (0, 0)))
    (hbg : b ≠ g) (hob : own b = i) (hl : zs'.length = zs.length) (hfr : front' < zs.length) (hh : Holds zs' front' l') : RG T e enc own i W g room (.slice (some ⟨b, 0, none⟩) zs.length zs.length) zs' front' l' :=
  ⟨hg, h.lab, h.r1, h.r2, by rw [hl]; exact h.len, .inr ⟨b, by rw [hl], hb, hob, hbg, by rw [hl]; exact hfr⟩, hh⟩

theorem pushI_full (g room : Nat) (x : Int) (w : World) (h0 : w.cell? ⟨g, 0, none⟩ = some (.int .i64 room)) (h3 : w.cell? ⟨g, 3, none⟩ = some (.int .i64 room)) :
    Calls Try.prog 20 #[.pointer (some ⟨g, 0, none⟩), .int .i64 x] w fun e w' => e = .returned (.int .i64 50) ∧ ∃ m, w' = w.drewN m := by
  go_enter Try.func20, Try.ntmps20
  go_wp2_with fail
  go_quiet (fail)
  go_wp2_with fail
  go_ret
  exact ⟨rfl, ⟨_, rfl⟩⟩
theorem pushI_nil (x : Int) (w : World) : Calls Try.prog 20 #[.pointer none, .int .i64 x] w fun e w' => e = .returned (.int .i64 3) ∧ w' = w := by
  go_enter Try.func20, Try.ntmps20
  go_wp2_with fail
  go_ret
  exact ⟨rfl, rfl⟩

/-- Behind a push into a ring that has a free cell. -/
theorem RI.pushed {own : Nat → Nat} {i : Nat} {w : World} {g room b : Nat} {zs : List Int} {front : Nat} {l : List Int} (h : RI own i w g room (.slice (some ⟨b, 0, none⟩) zs.length zs.length) zs front l) (hnf : Nf own w) (hrow : w.heap[b]? = some (.cells (flat encI zs).toArray 3 (0, 0))) (hob : own b = i) (hbg : b ≠ g) (hfr : front < zs.length) (hlt : l.length < zs.length) (x : Int) :
    AfI own i w ((w.setCell ⟨b, (front + l.length) % zs.length, none⟩ (.int .i64 x)).setCell ⟨g, 3, none⟩ (.int .i64 ((l.length : Int) + 1))) g room (l ++ [x]) := by
  refine ⟨own, _, _, front, fun k hk => hnf k (by rw [size_set, size_set] at hk; exact hk), ((Fr.refl i own w).set' hob _ _).set' h.lab _ _, h.put ?_ ?_ hbg hob (List.length_set) hfr (h.hold.push x hlt)⟩
  · have := blk_set (blk_other h.blk (Ne.symm hbg) (k := (front + l.length) % zs.length) (.int .i64 x)) 3 (.int .i64 ((l.length : Int) + 1))
    rw [this]; simp
  · have := blk_other (blk_set hrow ((front + l.length) % zs.length) (.int .i64 x)) hbg (k := 3) (.int .i64 ((l.length : Int) + 1))
    rw [flatI_set] at this
    exact this

set_option maxHeartbeats 1000000 in
theorem pushI_in (own : Nat → Nat) (i g room front b : Nat) (zs l : List Int) (x : Int) (w : World) (hR : RI own i w g room (.slice (some ⟨b, 0, none⟩) zs.length zs.length) zs front l) (hnf : Nf own w) (hrow : w.heap[b]? = some (.cells (flat encI zs).toArray 3 (0, 0))) (hob : own b = i) (hbg : b ≠ g) (hfr : front < zs.length) (hlt : l.length < zs.length) :
    Calls Try.prog 20 #[.pointer (some ⟨g, 0, none⟩), .int .i64 x] w fun e w' => e = .returned (.int .i64 0) ∧ AfI own i w w' g room (l ++ [x]) := by
  have HEND : Hid _ := hR.pushed hnf hrow hob hbg hfr hlt x
  have h0 := hR.c0
  have h1 := hR.c1
  have h2 := hR.c2
  have h3 := hR.c3
  have fz := hR.fz 3
  have hr2 := hR.r2
  have hr3 := hR.len
  obtain ⟨p, hp⟩ : ∃ p, (front + l.length) % zs.length = p := ⟨_, rfl⟩
  have hpn : p < zs.length := by rw [← hp]; exact Nat.mod_lt _ (by omega)
  rw [hp] at HEND
  obtain ⟨y, hy⟩ : ∃ y, zs[p]? = some y := ⟨_, List.getElem?_eq_getElem hpn⟩
  have hc := blk_cell hrow (flatI_at hy)
  have hcf : w.frozen? ⟨b, p, none⟩ = false := blk_frozen hrow
  have HC : Hid (∀ W, W.cell? ⟨g, 1, none⟩ = some (.slice (some ⟨b, 0, none⟩) zs.length zs.length) → W.cell? ⟨g, 2, none⟩ = some (.int .i64 front) → Calls Try.prog 39 #[.pointer (some ⟨g, 0, none⟩), .int .i64 l.length] W fun e w' => e = .returned (.int .i64 p) ∧ ∃ m, w' = W.drewN m) := fun W a b => cellI g zs.length front l.length p _ W a b (by omega) (by omega) (by omega) hp
  clear hR hnf hrow hob hp hy
  generalize zs.length = n at *
  generalize hL : l.length = c at *
  clear hL
  have i1 : (0 : Int) ≤ (p : Int) := by omega
  have i2 : (p : Int) < (n : Int) := by omega
  have q1 : ¬ ((c : Int) = (room : Int)) := by omega
  have q2 : ¬ (c = room) := by omega
  have q3 : ¬ ((c : Int) = (n : Int)) := by omega
  have q4 : ¬ (c = n) := by omega
  have q5 : ((c : Int) == (room : Int)) = false := by simp; omega
  have q6 : ((c : Int) == (n : Int)) = false := by simp; omega
  have q7 : g ≠ b := Ne.symm hbg
  go_enter Try.func20, Try.ntmps20
  go_wp2_with fail
  go_quiet (fail)
  go_wp2_with fail
  go_quiet (fail)
  go_wp2_with fail
  go_region_with (go_at_call 39; refine (HC.out _ (by simpa using h1) (by simpa using h2)).mono ?_; rintro e w1 ⟨rfl, m, rfl⟩)
  all_goals go_wp2_with fail
  all_goals go_ret
  all_goals exact ⟨rfl, After.same HEND.out rfl rfl rfl rfl⟩

set_option maxHeartbeats 1000000 in
theorem pushI_grow (own : Nat → Nat) (i g room front : Nat) (sv : Value) (zs l : List Int) (x : Int) (w : World) (hR : RI own i w g room sv zs front l) (hnf : Nf own w) (hf : l.length = zs.length) (hr : zs.length < room) :
    Calls Try.prog 20 #[.pointer (some ⟨g, 0, none⟩), .int .i64 x] w fun e w' => e = .returned (.int .i64 0) ∧ AfI own i w w' g room (l ++ [x]) := by
  have HW : Hid (∀ m, Calls Try.prog 38 #[.pointer (some ⟨g, 0, none⟩)] (w.drewN m) fun e w' => e = .returned (.tuple #[]) ∧ ∃ own' b zs', Nf own' w' ∧ Fr i own own' w w' ∧ RI own' i w' g room (.slice (some ⟨b, 0, none⟩) zs'.length zs'.length) zs' 0 l ∧ l.length < zs'.length) := fun m =>
    (widenI_any own i g room front sv zs l (w.drewN m) (hR.same rfl) hnf hf hr).mono (fun e w' ⟨he, own', b, zs', h1, h2, h3⟩ => ⟨he, own', b, zs', h1, ⟨h2.os, h2.tape, h2.output, h2.size, h2.block, h2.old⟩, h3⟩)
  have h0 := hR.c0
  have h1 := hR.c1
  have h2 := hR.c2
  have h3 := hR.c3
  have hr2 := hR.r2
  obtain ⟨sp, hsp⟩ : ∃ sp, sv = .slice sp zs.length zs.length := by
    rcases hR.row with ⟨rfl, rfl, _⟩ | ⟨b, rfl, _⟩
    · exact ⟨_, rfl⟩
    · exact ⟨_, rfl⟩
  rw [hsp] at h1
  rw [← hf] at h1 hr
  clear hR hnf hsp hf
  generalize hL : l.length = c at *
  have HLC : Hid (l.length = c) := hL
  clear hL
  have q1 : ¬ ((c : Int) = (room : Int)) := by omega
  have q2 : ¬ (c = room) := by omega
  have q5 : ((c : Int) == (room : Int)) = false := by simp; omega
  go_enter Try.func20, Try.ntmps20
  go_wp2_with fail
  go_quiet (fail)
  go_wp2_with fail
  go_quiet (fail)
  go_wp2_with fail
  refine (HW.out _).mono ?_
  rintro e w2 ⟨rfl, own2, b, zs2, hnf2, hfr2, hR2, hlt2⟩
  clear h0 h1 h2 h3
  have hrow := hR2.row
  rcases hrow with ⟨_, h, _⟩ | ⟨b', hb', hrow, hob, hbg, hfl⟩
  · cases h
  · obtain rfl : b' = b := by cases hb'; rfl
    clear hb'
    have HEND : Hid (AfI own i w _ g room (l ++ [x])) := After.trans hfr2 (hR2.pushed hnf2 hrow hob hbg hfl (by rw [HLC.out]; exact hlt2) x)
    have h0 := hR2.c0
    have h1 := hR2.c1
    have h2 := hR2.c2
    have h3 := hR2.c3
    have fz := hR2.fz 3
    have hr3 := hR2.len
    rw [HLC.out] at HEND h3
    obtain ⟨p, hp⟩ : ∃ p, (0 + c) % zs2.length = p := ⟨_, rfl⟩
    have hpn : p < zs2.length := by rw [← hp]; exact Nat.mod_lt _ (by omega)
    rw [hp] at HEND
    obtain ⟨y, hy⟩ : ∃ y, zs2[p]? = some y := ⟨_, List.getElem?_eq_getElem hpn⟩
    have hc := blk_cell hrow (flatI_at hy)
    have hcf : w2.frozen? ⟨b', p, none⟩ = false := blk_frozen hrow
    have HC : Hid (∀ W, W.cell? ⟨g, 1, none⟩ = some (.slice (some ⟨b', 0, none⟩) zs2.length zs2.length) → W.cell? ⟨g, 2, none⟩ = some (.int .i64 (0 : Nat)) → Calls Try.prog 39 #[.pointer (some ⟨g, 0, none⟩), .int .i64 c] W fun e w' => e = .returned (.int .i64 p) ∧ ∃ m, w' = W.drewN m) := fun W a b => cellI g zs2.length 0 c p _ W a b (by omega) (by omega) (by omega) hp
    clear hR2 hnf2 hfr2 hrow hob hp hy HW
    generalize zs2.length = n at *
    have i1 : (0 : Int) ≤ (p : Int) := by omega
    have i2 : (p : Int) < (n : Int) := by omega
    have q7 : g ≠ b' := Ne.symm hbg
    go_wp2_with fail
    go_region_with (go_at_call 39; refine (HC.out _ (by simpa using h1) (by simpa using h2)).mono ?_; rintro e w1 ⟨rfl, m, rfl⟩)
    all_goals go_wp2_with fail
    all_goals go_ret
    all_goals exact ⟨rfl, After.same HEND.out rfl rfl rfl rfl⟩

/-- A push where there is room. -/
theorem pushI_any (own : Nat → Nat) (i g room front : Nat) (sv : Value) (zs l : List Int) (x : Int) (w : World) (hR : RI own i w g room sv zs front l) (hnf : Nf own w) (hr : l.length < room) :
    Calls Try.prog 20 #[.pointer (some ⟨g, 0, none⟩), .int .i64 x] w fun e w' => e = .returned (.int .i64 0) ∧ AfI own i w w' g room (l ++ [x]) := by
  have hle := hR.hold.1
  by_cases hf : l.length = zs.length
  · exact pushI_grow own i g room front sv zs l x w hR hnf hf (by omega)
  · have hrow := hR.row
    rcases hrow with ⟨rfl, _, _⟩ | ⟨b, rfl, h1, h2, h3, h4⟩
    · rw [List.length_nil] at hle hf; omega
    · exact pushI_in own i g room front b zs l x w hR hnf h1 h2 h3 h4 (by omega)
end Go.Proofs.Ytjibpdncginkdaa
