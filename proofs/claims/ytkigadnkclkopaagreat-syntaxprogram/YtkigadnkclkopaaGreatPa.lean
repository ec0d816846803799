import Derived.Test.YtkigadnkclkopaaGreatGp
import Derived.Test.YtkigadnkclkopaaGreatG9
set_option linter.unusedVariables false
set_option linter.unusedSimpArgs false
namespace Go.Proofs.YtkigadnkclkopaaGreat
open Go.RowKit

/-! Program as the laws see it; awake. -/
/-- What Program answers. -/
structure Prg (W : World) (E : List Ev) (code : Int) (a : Nat) (e : Ending) (w' : World) : Prop where
  bel : Below W.heap.size W w'
  ex : ∃ (n : Nd) (p : Option Addr) (cv : Nat), e = .returned (.tuple #[ndv n.k n.d (.slice p n.c.length cv), .int .i64 code, .int .i64 ((if code = 0 then 0 else a : Nat) : Int)]) ∧ TN (fun j => W.heap.size ≤ j) w' n (.slice p n.c.length cv) ∧ (code = 0 → bld E [] = some n) ∧ (code ≠ 0 → n = .mk 0 tv0 [])
theorem bo_some {E : List Ev} {n : Nd} (h : bld E [] = some n) : bo E = (n, 0) := by unfold bo; rw [h]
theorem prg_any {W : World} {ao : Option Addr} {l : List Tv} {cap : Nat} (hl : Lt W ao l) (hn : l.length ≤ 4194304) {E : List Ev} {code : Int} {a : Nat} (ha : Alr (.live [] 0) l E code a) :
    Calls Tryz.prog 6 #[.slice ao l.length cap] W (Prg W E code a) := by
  refine (program_any hl hn ha).mono ?_
  rintro e w' ⟨hb, n, sv, at', he, ht, h1, h2⟩
  obtain ⟨p, cv, rfl, _⟩ := tn_shape ht
  by_cases hc : code = 0
  · subst hc
    obtain ⟨c, hbl, _⟩ := alr_tree ha
    have h3 := bo_some hbl
    obtain ⟨rfl, rfl⟩ := h1 rfl
    rw [h3] at he ht
    exact ⟨hb, _, p, cv, he, ht, fun _ => hbl, fun h => absurd rfl h⟩
  · obtain ⟨rfl, rfl⟩ := h2 hc
    rw [if_neg hc] at he
    exact ⟨hb, _, p, cv, by rw [if_neg hc]; exact he, ht, fun h => absurd h hc, fun _ => rfl⟩
theorem Lt.drop {W : World} {b off : Nat} {l : List Tv} (h : Lt W (some ⟨b, off, none⟩) l) (k : Nat) : Lt W (some ⟨b, off + k * 6, none⟩) (l.drop k) := by
  intro j d hj
  rw [List.getElem?_drop] at hj
  obtain ⟨b', off', e, c⟩ := h (k + j) d hj
  cases e
  refine ⟨_, _, rfl, ?_⟩
  have e2 : off + k * 6 + j * 6 = off + (k + j) * 6 := by omega
  rw [e2]
  exact c
theorem Lt.take {W : World} {ao : Option Addr} {l : List Tv} (h : Lt W ao l) (k : Nat) : Lt W ao (l.take k) := by
  refine Lt.pre (m := l.drop k) ?_
  rw [List.take_append_drop]
  exact h
theorem lt_new (W : World) (ts : List Tv) : Lt (W.alloc (.cells (tcs ts).toArray 28)) (some ⟨W.heap.size, 0, none⟩) ts := by
  intro j d hj
  have hc : ∀ (i : Nat) (u : Value), d.cs[i]? = some u → (W.alloc (.cells (tcs ts).toArray 28)).cell? ⟨W.heap.size, 0 + j * 6 + i, none⟩ = some u := fun i u hu => by
    refine blk_cell (new_at W _) ?_
    rw [Nat.zero_add]
    have := flat_at Tv.cs 6 Tv.cs_len ts j i d u hj hu
    simpa [tcs] using this
  exact ⟨_, _, rfl, hc 0 _ rfl, hc 1 _ rfl, hc 2 _ rfl, hc 3 _ rfl, hc 4 _ rfl, hc 5 _ rfl⟩
theorem lkey_any (s : ByteArray) (W : World) : Calls Tryz.prog 14 #[.string s] W fun r w' => r = .returned (.agg #[.int .u8 2, .string s, .int .i64 0, .int .i64 0, .int .i64 0, .int .i64 0]) ∧ Below W.heap.size W w' := by
  go_enter Tryz.func14, Tryz.ntmps14
  go_wp2_with fail
  refine bodyPost_ret (v := .agg #[.int .u8 2, .string s, .int .i64 0, .int .i64 0, .int .i64 0, .int .i64 0]) (by simp [results, Tryz.f14, go_sem]) rfl ?_
  exact ⟨rfl, (Below.refl _ _).alloc (Nat.le_refl _) _⟩
theorem lsign_any (s : ByteArray) (W : World) : Calls Tryz.prog 16 #[.string s] W fun r w' => r = .returned (.agg #[.int .u8 6, .string s, .int .i64 0, .int .i64 0, .int .i64 0, .int .i64 0]) ∧ Below W.heap.size W w' := by
  go_enter Tryz.func16, Tryz.ntmps16
  go_wp2_with fail
  refine bodyPost_ret (v := .agg #[.int .u8 6, .string s, .int .i64 0, .int .i64 0, .int .i64 0, .int .i64 0]) (by simp [results, Tryz.f16, go_sem]) rfl ?_
  exact ⟨rfl, (Below.refl _ _).alloc (Nat.le_refl _) _⟩
theorem lname_any (s : ByteArray) (W : World) : Calls Tryz.prog 15 #[.string s] W fun r w' => r = .returned (.agg #[.int .u8 1, .string s, .int .i64 0, .int .i64 0, .int .i64 0, .int .i64 0]) ∧ Below W.heap.size W w' := by
  go_enter Tryz.func15, Tryz.ntmps15
  go_wp2_with fail
  refine bodyPost_ret (v := .agg #[.int .u8 1, .string s, .int .i64 0, .int .i64 0, .int .i64 0, .int .i64 0]) (by simp [results, Tryz.f15, go_sem]) rfl ?_
  exact ⟨rfl, (Below.refl _ _).alloc (Nat.le_refl _) _⟩
/-- The tokens of awake. -/
def tKey (s : ByteArray) : Tv := ⟨2, s, 0, 0, 0, 0⟩
def tSign (s : ByteArray) : Tv := ⟨6, s, 0, 0, 0, 0⟩
def tName (s : ByteArray) : Tv := ⟨1, s, 0, 0, 0, 0⟩
def aw : List Tv := [tKey ⟨#[112, 114, 111, 103, 114, 97, 109]⟩, tName ⟨#[112]⟩, tSign ⟨#[59]⟩, tKey ⟨#[98, 101, 103, 105, 110]⟩, tKey ⟨#[115, 107, 105, 112]⟩, tKey ⟨#[101, 110, 100]⟩, tSign ⟨#[46]⟩]
def awE : List Ev := (alrF aw (.live [] 0)).elim [] (·.1)
theorem aw_run : Alr (.live [] 0) aw awE 0 7 := by
  have h : (alrF aw (.live [] 0)).map (fun x => (x.2.1, x.2.2)) = some (0, 7) := by kernel_rfl
  cases ha : alrF aw (.live [] 0) with
  | none => rw [ha] at h; cases h
  | some x =>
    obtain ⟨E, c, k⟩ := x
    rw [ha] at h
    cases h
    have : awE = E := by unfold awE; rw [ha]; rfl
    rw [this]
    exact alrF_is _ _ _ _ _ ha
def awN : Option (Int × Nat) := (bld awE []).map (fun n => (n.k, n.c.length))
theorem aw_tree : awN = some (1, 5) := by kernel_rfl
theorem aw_run1 : ∃ E, Alr (.live [] 0) (aw.drop 1) E 120 0 := by
  have h : (alrF (aw.drop 1) (.live [] 0)).map (fun x => (x.2.1, x.2.2)) = some (120, 0) := by kernel_rfl
  cases ha : alrF (aw.drop 1) (.live [] 0) with
  | none => rw [ha] at h; cases h
  | some x =>
    obtain ⟨E, c, k⟩ := x
    rw [ha] at h
    cases h
    exact ⟨E, alrF_is _ _ _ _ _ ha⟩
theorem aw_run3 : ∃ E, Alr (.live [] 0) (aw.take 3) E 121 3 := by
  have h : (alrF (aw.take 3) (.live [] 0)).map (fun x => (x.2.1, x.2.2)) = some (121, 3) := by kernel_rfl
  cases ha : alrF (aw.take 3) (.live [] 0) with
  | none => rw [ha] at h; cases h
  | some x =>
    obtain ⟨E, c, k⟩ := x
    rw [ha] at h
    cases h
    exact ⟨E, alrF_is _ _ _ _ _ ha⟩

end Go.Proofs.YtkigadnkclkopaaGreat
