import Derived.Test.YtkglkhijngpgiaaGreatZo
import Derived.Test.YtkglkhijngpgiaaGreatG8
set_option linter.unusedVariables false
set_option linter.unusedSimpArgs false
namespace Go.Proofs.YtkglkhijngpgiaaGreat
open Go.RowKit

/-! Read; Between. -/
/-- What Read leaves. -/
structure RdO (w w' : World) (g : Nat) (L : List Tv) (e : Int) (l : List (Int × Nat)) : Prop where
  res : Res L e l
  bel : Below w.heap.size w w'
  c7 : w'.cell? ⟨g, 7, none⟩ = some (.int .i64 e)
  c6 : ∃ vl, w'.cell? ⟨g, 6, none⟩ = some vl ∧ Rp w' vl l ∧ (∀ k, vl.ownBlock = some k → w.heap.size ≤ k)
  gl : g < w'.heap.size
set_option maxHeartbeats 1000000 in
theorem read_doc (ao : Option Addr) (cap : Nat) (L : List Tv) (w : World) (hLt : Lt w ao L) (hL : L.length ≤ 1000000) :
    Calls Tryz.prog 26 #[.slice ao L.length cap, .bool false] w fun e w' => e = .returned (pt w.heap.size) ∧ ∃ e l, RdO w w' w.heap.size L e l := by
  have HP : Hid (∀ W, W = w.alloc (.cells #[.slice ao L.length cap, .int .i64 0, nilS, .int .i64 0, .bool false, nilS, nilS, .int .i64 0] 65) → Calls Tryz.prog 35 #[pt w.heap.size] W fun e w' => e = .returned (.tuple #[]) ∧ ∃ e l, RdO w w' w.heap.size L e l) := by
    intro W eW
    have hb : Below w.heap.size w W := by rw [eW]; exact below_new _ _
    have hn : W.heap[w.heap.size]? = some (.cells #[.slice ao L.length cap, .int .i64 0, nilS, .int .i64 0, .bool false, nilS, nilS, .int .i64 0] 65) := by rw [eW]; exact new_at _ _
    have hRD : RD ⟨w, ao, cap, L, w.heap.size⟩ 0 d00 W := ⟨hb, hLt, Nat.le_refl _, hL, ⟨nilS, nilS, nilS, hn, rp_nil _, rp_nil _, ⟨0, Nat.le_refl _, rq_nil _⟩, (fun k e => by cases e), (fun k e => by cases e), (fun k e => by cases e)⟩, Nat.zero_le _, (fun _ => Nat.zero_le _), Nat.zero_le _, Nat.zero_le _⟩
    refine (program_any hRD (by omega)).mono ?_
    rintro e w' ⟨rfl, dz, d', h1, h2, h3⟩
    obtain ⟨vp, vq, vl, v⟩ := h2.rv
    obtain ⟨c0, c1, c2, c3, c4, c5, c6, c7⟩ := v.rb.cells
    exact ⟨rfl, d'.e, d'.l, ⟨dz, d', h1, h3, rfl, rfl⟩, h2.bel, c7, ⟨vl, c6, v.rl, fun k e => (v.bl k e).1⟩, v.rb.lt⟩
  clear hLt
  go_enter Tryz.func26, Tryz.ntmps26
  go_wp2_with fail
  refine (HP.out _ rfl).mono ?_
  rintro e w1 ⟨rfl, h1⟩
  have H1 := show Hid _ from h1
  clear h1 HP
  go_wp2_with fail
  go_ret
  exact ⟨rfl, H1.out⟩
theorem st_cells {W : World} {v : Value} {p : List (Int × Nat)} (h : Rp W v p) {i : Nat} {x : Int × Nat} (hi : p[i]? = some x) : ∃ b cap, v = .slice (some ⟨b, 0, none⟩) p.length cap ∧ b < W.heap.size ∧ W.cell? ⟨b, i * 2, none⟩ = some (.int .u8 x.1) ∧ W.cell? ⟨b, i * 2 + 1, none⟩ = some (.int .i64 (x.2 : Int)) := by
  have hil := (List.getElem?_eq_some_iff.1 hi).1
  rcases h.2 with ⟨_, h0⟩ | ⟨b, cap, cur, rfl, _, h2, _⟩
  · omega
  · have hc : ∀ (k : Nat) (u : Value), (scs p)[k]? = some u → W.cell? ⟨b, k, none⟩ = some u := fun k u hu => by
      have := World.ownsRow.cells h (g := b) rfl k u hu
      rw [Addr.add_lit, Nat.zero_add] at this
      exact this
    exact ⟨b, cap, rfl, blk_lt h2, hc _ _ (flat_at _ 2 (fun _ => rfl) p i 0 x _ hi rfl), hc _ _ (flat_at _ 2 (fun _ => rfl) p i 1 x _ hi rfl)⟩
theorem cpl_step {a b : List (Int × Nat)} {n : Nat} (h : n ≤ cpl a b) : (∀ x y, a[n]? = some x → b[n]? = some y → (x = y ↔ n < cpl a b)) ∧ (n < cpl a b → n < a.length ∧ n < b.length) ∧ (n = cpl a b → n < a.length → n < b.length → ∀ x y, a[n]? = some x → b[n]? = some y → x ≠ y) := by
  induction a generalizing b n with
  | nil =>
    have h0 : cpl [] b = 0 := by cases b <;> rfl
    rw [h0] at h ⊢
    exact ⟨(fun x y h => by simp at h), (fun h => by omega), (fun _ h => by simp at h)⟩
  | cons u a ih =>
    cases b with
    | nil =>
      have h0 : cpl (u :: a) [] = 0 := rfl
      rw [h0] at h ⊢
      exact ⟨(fun x y _ h => by simp at h), (fun h => by omega), (fun _ _ h => by simp at h)⟩
    | cons v b =>
      by_cases e : u = v
      · have hc : cpl (u :: a) (v :: b) = cpl a b + 1 := by simp only [cpl, if_pos e]
        rw [hc] at h ⊢
        cases n with
        | zero =>
          refine ⟨fun x y h1 h2 => ?_, fun _ => by simp, fun h0 => by omega⟩
          simp at h1 h2
          subst h1 h2
          exact ⟨fun _ => by omega, fun _ => e⟩
        | succ n =>
          obtain ⟨a1, a2, a3⟩ := ih (b := b) (n := n) (by omega)
          refine ⟨fun x y h1 h2 => ?_, fun h1 => ?_, fun h0 h1 h2 x y h3 h4 => ?_⟩
          · have := a1 x y (by simpa using h1) (by simpa using h2)
            rw [this]
            omega
          · have := a2 (by omega)
            simp
            exact this
          · exact a3 (by omega) (by simpa using h1) (by simpa using h2) x y (by simpa using h3) (by simpa using h4)
      · have hc : cpl (u :: a) (v :: b) = 0 := by simp only [cpl, if_neg e]
        rw [hc] at h ⊢
        obtain rfl : n = 0 := by omega
        refine ⟨fun x y h1 h2 => ?_, fun h => by omega, fun _ _ _ x y h1 h2 => ?_⟩
        · simp at h1 h2
          subst h1 h2
          exact ⟨fun h => absurd h e, fun h => by omega⟩
        · simp at h1 h2
          subst h1 h2
          exact e

end Go.Proofs.YtkglkhijngpgiaaGreat
