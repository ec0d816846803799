import Derived.Test.YtcokccfbeonlnaaDoorVa
import Derived.Test.YtcokccfbeonlnaaDoorLb
import Derived.Test.YtcokccfbeonlnaaDoorYb
import Derived.WalkSmall
set_option linter.unusedVariables false
set_option linter.unusedSimpArgs false
namespace Go.Proofs.YtcokccfbeonlnaaDoor
open Go.RowKit

/-! Rows of numbers beside one another. -/
def ic (xs : List Int) : List Value := xs.map fun x => .int .i64 x
theorem ic_len (xs : List Int) : (ic xs).length = xs.length := by simp [ic]
theorem ic_at {xs : List Int} {j : Nat} {x : Int} (h : xs[j]? = some x) : (ic xs)[j]? = some (.int .i64 x) := by simp [ic, h]
theorem ic_app (xs ys : List Int) : ic (xs ++ ys) = ic xs ++ ic ys := by simp [ic]
theorem ic_set (xs : List Int) (j : Nat) (x : Int) : (ic xs).set j (.int .i64 x) = ic (xs.set j x) := by simp [ic, List.map_set]
structure Rws (B : Nat) (W : World) (rs : List (Value × List Int)) : Prop where
  row : ∀ (k : Nat) (r : Value × List Int), rs[k]? = some r → W.ownsRow B 3 1 r.1 r.2.length (ic r.2)
  dif : ∀ (i j : Nat) (a b : Value × List Int), i ≠ j → rs[i]? = some a → rs[j]? = some b → ∀ k, a.1.ownBlock = some k → b.1.ownBlock = some k → False
theorem Rws.below {B : Nat} {W W' : World} {rs : List (Value × List Int)} (h : Rws B W rs) (hb : Below W.heap.size W W') : Rws B W' rs := ⟨fun k r hr => row_kept (h.row k r hr) hb, h.dif⟩
theorem Rws.upd {B : Nat} {W W' : World} {rs : List (Value × List Int)} (h : Rws B W rs) {k : Nat} {v v' : Value} {xs ys : List Int} (hk : rs[k]? = some (v, xs)) (hr : W'.ownsRow B 3 1 v' ys.length (ic ys)) (hg : W.grownBy W' v.ownBlock) (hv : v'.ownBlock = v.ownBlock ∨ v'.ownBlock = some W.heap.size) : Rws B W' (rs.set k (v', ys)) := by
  have hkl := (List.getElem?_eq_some_iff.1 hk).1
  have hne : ∀ j a, j ≠ k → rs[j]? = some a → ∀ q, a.1.ownBlock = some q → v'.ownBlock = some q → False := by
    intro j a hj ha q h1 h2
    rcases hv with hv | hv
    · exact h.dif j k a (v, xs) hj ha hk q h1 (by rw [← hv]; exact h2)
    · rw [hv] at h2
      have := ((h.row j a ha).lt q h1).2
      cases h2; omega
  refine ⟨?_, ?_⟩
  · intro j r hj
    rw [List.getElem?_set] at hj
    by_cases e : k = j
    · subst e
      rw [if_pos rfl, if_pos hkl] at hj
      cases hj; exact hr
    · rw [if_neg e] at hj
      refine (h.row j r hj).kept hg ?_
      cases hb : r.1.ownBlock with
      | none => exact .inl rfl
      | some q =>
        right
        intro e2
        exact h.dif j k r (v, xs) (fun e3 => e e3.symm) hj hk q hb e2.symm
  · intro i j a b hij ha hb q h1 h2
    rw [List.getElem?_set] at ha hb
    by_cases ei : k = i
    · subst ei
      rw [if_pos rfl, if_pos hkl] at ha
      rw [if_neg hij] at hb
      cases ha
      exact hne j b (fun e => hij e.symm) hb q h2 h1
    · rw [if_neg ei] at ha
      by_cases ej : k = j
      · subst ej
        rw [if_pos rfl, if_pos hkl] at hb
        cases hb
        exact hne i a hij ha q h1 h2
      · rw [if_neg ej] at hb
        exact h.dif i j a b hij ha hb q h1 h2
theorem grown_refl (W : World) (r : Option Nat) : W.grownBy W r := ⟨rfl, rfl, rfl, Nat.le_refl _, fun _ _ _ => rfl⟩
/-- A row that gives up its last number. -/
theorem Rws.pop {B : Nat} {W : World} {rs : List (Value × List Int)} (h : Rws B W rs) {k g cap : Nat} {xs : List Int} {x : Int} (hk : rs[k]? = some (.slice (some ⟨g, 0, none⟩) (xs.length + 1) cap, xs ++ [x])) : Rws B W (rs.set k (.slice (some ⟨g, 0, none⟩) xs.length cap, xs)) := by
  have hr := h.row k _ hk
  rw [ic_app, List.length_append] at hr
  exact h.upd hk (ownsRow_pop (by rw [ic_len, Nat.mul_one]) hr) (grown_refl _ _) (.inl rfl)
theorem Rws.store {B : Nat} {W : World} {rs : List (Value × List Int)} (h : Rws B W rs) {k g n cap : Nat} {xs : List Int} (hn : n = xs.length) (hk : rs[k]? = some (.slice (some ⟨g, 0, none⟩) n cap, xs)) (j : Nat) (x : Int) : Rws B (W.setCell ⟨g, j, none⟩ (.int .i64 x)) (rs.set k (.slice (some ⟨g, 0, none⟩) n cap, xs.set j x)) := by
  subst hn
  have hr := h.row k _ hk
  obtain ⟨h1, h2⟩ := World.ownsRow.stored hr j (.int .i64 x)
  rw [ic_set] at h1
  exact h.upd hk (by rw [List.length_set]; exact h1) h2 (.inl rfl)
theorem Rws.get {B : Nat} {W : World} {rs : List (Value × List Int)} (h : Rws B W rs) {k : Nat} {v : Value} {xs : List Int} (hk : rs[k]? = some (v, xs)) (h0 : 0 < xs.length) : ∃ g cap, v = .slice (some ⟨g, 0, none⟩) xs.length cap ∧ xs.length ≤ cap ∧ cap ≤ 9223372036854775807 ∧ (∀ j x, xs[j]? = some x → W.cell? ⟨g, j, none⟩ = some (.int .i64 x)) ∧ (∀ j, W.frozen? ⟨g, j, none⟩ = false) ∧ B ≤ g := by
  have hr := h.row k _ hk
  have hr0 := hr
  rcases hr.2 with ⟨_, h1⟩ | ⟨g, cap, cur, e, hb, _, h2, h3, _⟩
  · have h2 : xs.length = 0 := h1
    omega
  · simp only at e
    subst e
    refine ⟨g, cap, rfl, h2, h3, ?_, fun j => World.ownsRow.frozenAt hr0 j, hb⟩
    intro j x hx
    have hj := (List.getElem?_eq_some_iff.1 hx).1
    rw [World.ownsRow.cellAt hr0 j (by show j < xs.length * 1; omega)]
    exact ic_at hx
theorem Tryd.info3' : (Tryd.prog.info? 3).map (fun i => (i.zero, i.size, i.bytes)) = some (some (.int .i64 0), 1, 8) := by kernel_rfl
/-- One number behind a row. -/
theorem app_num {W : World} {ops : Array Oper} {rest : List Oper} {o : Oper} {a : Act} {Q : Exit → Act → World → Prop} (hgd : o.guard = none) (s x : Operand)
    (ho : o.op = .call { callee := .builtin .append, args := #[s, x], argTypes := #[39, 39] }) (B : Nat) (rs : List (Value × List Int)) (k : Nat) (v : Value) (xs : List Int) (u : Int) (hs : a.eval s = v) (hR : Rws B W rs) (hk : rs[k]? = some (v, xs))
    (g c : Nat) (hx : a.eval x = .slice (some ⟨g, 0, none⟩) 1 c) (hg : W.heap[g]? = some (.cells #[.int .i64 u] 3 (0, 0))) (hl : xs.length ≤ 1000000000) (hB : B ≤ W.heap.size)
    (h : ∀ q cap w', xs.length + 1 ≤ cap → cap ≤ 9223372036854775807 → Rws B w' (rs.set k (.slice (some ⟨q, 0, none⟩) (xs.length + 1) cap, xs ++ [u])) → Below B W w' → wpList Tryd.prog ops Q rest (a.put o.dst (.slice (some ⟨q, 0, none⟩) (xs.length + 1) cap)) w') : wpList Tryd.prog ops Q (o :: rest) a W := by
  obtain ⟨i0, hi, hz0, hz1, hz2⟩ := info_parts Tryd.info3'
  have hr := hR.row k _ hk
  refine wpList_append_own_at (P := Tryd.prog) (w := W) hgd s x 39 ho B 3 i0 (.int .i64 0) 1 8 Tryd.underlying39 hi hz0 hz1 hz2 rfl (by decide) v _ _ hs hr ⟨g, 0, none⟩ 1 c [.int .i64 u] hx rfl ?_ (by intro y hy; simp at hy; subst hy; rfl) (by unfold maxLen; simp only; omega) (by simp only; omega) hB ?_
  · intro j y hy
    exact World.news_of_block hg j y (by simpa using hy)
  · intro v' w' h1 h2 _ h4
    have hrow : w'.ownsRow B 3 1 v' (xs ++ [u]).length (ic (xs ++ [u])) := by rw [List.length_append, ic_app]; exact h1
    have hR' := hR.upd hk hrow h2 h4
    have hbl : Below B W w' := (Below.refl B W).grown h2 hB (row_own hr)
    rcases h1.2 with ⟨_, h0⟩ | ⟨q, cap, cur, rfl, _, _, h5, h6, _⟩
    · simp at h0
    · exact h q cap w' h5 h6 hR' hbl

/-! Between two pieces. -/
set_option maxHeartbeats 1000000 in
theorem between_any (l : List Dc) (p i : Nat) (hp : p ≤ i) (g3 g4 n3 n4 c3 c4 : Nat) (w : World) (h3 : n3 ≤ c3 ∧ c3 ≤ 9223372036854775807 ∧ i < n3) (h4 : n4 ≤ c4 ∧ c4 ≤ 9223372036854775807 ∧ i < n4)
    (s1 : w.cell? ⟨g3, p, none⟩ = some (.int .i64 (Sf l p : Nat))) (s2 : w.cell? ⟨g3, i, none⟩ = some (.int .i64 (Sf l i : Nat))) (f1 : w.cell? ⟨g4, p, none⟩ = some (.int .i64 (Fc l p : Nat))) (f2 : w.cell? ⟨g4, i, none⟩ = some (.int .i64 (Fc l i : Nat))) (hS : Sf l i ≤ 1000000000) :
    Calls Tryd.prog 48 #[.slice (some ⟨g3, 0, none⟩) n3 c3, .slice (some ⟨g4, 0, none⟩) n4 c4, .int .i64 p, .int .i64 i] w fun e w' => e = .returned (.int .i64 (btw l p i : Nat)) ∧ Below w.heap.size w w' := by
  obtain ⟨m1, m2⟩ := Sf_mono l hp
  have hb : btw l p i = if Fc l p < Fc l i then 1099511627776 else Sf l i - Sf l p := rfl
  generalize Sf l p = a at *
  generalize Sf l i = b at *
  generalize Fc l p = c at *
  generalize Fc l i = d at *
  generalize btw l p i = R at *
  have q1 : (i : Int) < n3 := by omega
  have q2 : (i : Int) < n4 := by omega
  have q3 : (p : Int) < n3 := by omega
  have q4 : (p : Int) < n4 := by omega
  have q5 : (0 : Int) ≤ i := by omega
  have q6 : (0 : Int) ≤ p := by omega
  by_cases hc : c < d
  · rw [if_pos hc] at hb
    subst hb
    have q7 : (c : Int) < d := by omega
    go_enter Tryd.func48, Tryd.ntmps48
    go_wp2_with fail
    go_quiet (fail)
    go_wp2_with fail
    go_ret
    exact ⟨rfl, below_drewN (Below.refl _ _) _⟩
  · rw [if_neg hc] at hb
    have q7 : ¬ (c : Int) < d := by omega
    have hb' : (R : Int) = (b : Int) - a := by omega
    rw [hb']
    clear hb hb'
    go_enter Tryd.func48, Tryd.ntmps48
    go_wp2_with fail
    go_quiet (fail)
    go_wp2_with fail
    go_quiet (fail)
    go_wp2_with fail
    go_ret
    exact ⟨rfl, below_drewN (below_drewN (Below.refl _ _) _) _⟩

/-! How wide a piece is, in the document's words. -/
def dwd (d : Dc) : Nat := if isF d then 1099511627776 else fwd d
set_option maxHeartbeats 1000000 in
theorem dwide_any (d : Dc) (hd : rt d = true) (hs : d.t.size ≤ 2147483647) (w : World) : Calls Tryd.prog 49 #[.agg #[.int .u8 d.k, .string d.t, .int .i64 d.b, .int .i64 d.i, .bool d.e]] w fun e w' => e = .returned (.int .i64 (dwd d : Nat)) ∧ Below w.heap.size w w' := by
  cases rt_of hd with
  | text t hq =>
    have hz : dwd ⟨1, t, 0, 0, false⟩ = if hasF t then 1099511627776 else (tw t).toNat := by
      unfold dwd fwd isF pw; cases h : hasF t <;> simp [h]
    rw [hz]
    have hb := tw_bd t
    have HH : Hid (hasF t = decide ((10 : UInt8) ∈ lsb t)) := rfl
    have HT : Hid (∀ W, Calls Tryd.prog 73 #[.string t] W fun e w' => e = .returned (.int .i64 ((tw t).toNat : Nat)) ∧ Below W.heap.size W w') := fun W => by
      rw [show (((tw t).toNat : Nat) : Int) = tw t by omega]; exact rtext_any t W hs
    generalize (tw t).toNat = z at *
    generalize hasF t = b at *
    clear hz hb
    simp only at hs
    obtain ⟨R, hR⟩ : ∃ R : Nat, (if b = true then 1099511627776 else z) = R := ⟨_, rfl⟩
    rw [hR]
    have HR : Hid ((if b = true then 1099511627776 else z) = R) := hR
    clear hR
    have hB1 := (Below.refl w.heap.size w).alloc (Nat.le_refl _) (.cells #[.int .u8 1, .string t, .int .i64 0, .int .i64 0, .bool false] 26)
    go_enter Tryd.func49, Tryd.ntmps49
    go_wp2_with fail
    go_loopw [3] (fun i wr => ∃ k : Nat, k ≤ t.size ∧ i = .int .i64 k ∧ Hid ((10 : UInt8) ∉ (lsb t).take k) ∧ wr = w.alloc (.cells #[.int .u8 1, .string t, .int .i64 0, .int .i64 0, .bool false] 26)) (fun i _ => t.size - (intOf i).toNat)
    case atStart => exact ⟨0, Nat.zero_le _, rfl, (by show ¬ _; simp), rfl⟩
    case round =>
      obtain ⟨k, hk, rfl, HI, rfl⟩ := hrel
      by_cases hlt : k < t.size
      · have q1 : (k : Int) < t.size := by omega
        have q2 : (0 : Int) ≤ k := by omega
        have hat := at_ls' t k hlt
        obtain ⟨c, hc⟩ : ∃ c, t[k] = c := ⟨_, rfl⟩
        rw [hc] at hat
        by_cases h10 : c = 10
        · subst h10
          have HE : Hid (b = true) := by
            show _ = _
            rw [HH.out]; exact decide_eq_true (List.mem_of_getElem? hat)
          clear hat HI HH
          go_wp2_with fail
          go_ret
          exact ⟨by rw [← HR.out, HE.out]; rfl, hB1⟩
        · have n2 : ((c.toNat : Int) == 10) = false := u8_ne c 10 h10
          have HE : Hid ((10 : UInt8) ∉ (lsb t).take (k + 1)) := by
            show ¬ _
            rw [List.take_add_one, hat]
            intro hm
            rcases List.mem_append.1 hm with hm | hm
            · exact HI.out hm
            · simp at hm; exact h10 hm.symm
          clear hat HI
          go_wp2_with fail
          exact ⟨⟨k + 1, hlt, by go_num, HE.out, by trivial⟩, by simp [intOf]; omega⟩
      · obtain rfl : k = t.size := by omega
        have q1 : ¬ ((t.size : Int) < t.size) := by omega
        have HE : Hid (b = false) := by
          show _ = _
          rw [HH.out]
          have := HI.out
          rw [List.take_of_length_le (by rw [ls_len]; exact Nat.le_refl _)] at this
          exact decide_eq_false this
        clear HI HH
        go_wp2_with (go_at_call 73; refine (HT.out _).mono ?_; rintro e w2 ⟨rfl, hb2⟩)
        go_ret
        exact ⟨by rw [← HR.out, HE.out]; rfl, hB1.trans (hb2.mono hB1.size)⟩
  | brk m hq =>
    obtain ⟨q1, q2⟩ := rtN_of hq
    have hz : ((dwd ⟨3, bE, m, 0, false⟩ : Nat) : Int) = m := by
      have : dwd ⟨3, bE, m, 0, false⟩ = m.toNat := by unfold dwd fwd isF pw; simp
      rw [this]; omega
    rw [hz]
    go_enter Tryd.func49, Tryd.ntmps49
    go_wp2_with fail
    go_ret
    exact ⟨rfl, (Below.refl _ _).alloc (Nat.le_refl _) _⟩
  | beg m e hq =>
    have hz : dwd ⟨6, bE, 0, m, e⟩ = 0 := by unfold dwd fwd isF pw; simp
    rw [hz]
    go_enter Tryd.func49, Tryd.ntmps49
    go_wp2_with fail
    go_ret
    exact ⟨rfl, (Below.refl _ _).alloc (Nat.le_refl _) _⟩
  | blank =>
    go_enter Tryd.func49, Tryd.ntmps49
    go_wp2_with fail
    go_ret
    exact ⟨rfl, (Below.refl _ _).alloc (Nat.le_refl _) _⟩
  | hard =>
    go_enter Tryd.func49, Tryd.ntmps49
    go_wp2_with fail
    go_ret
    exact ⟨rfl, (Below.refl _ _).alloc (Nat.le_refl _) _⟩
  | empty =>
    go_enter Tryd.func49, Tryd.ntmps49
    go_wp2_with fail
    go_ret
    exact ⟨rfl, (Below.refl _ _).alloc (Nat.le_refl _) _⟩
  | «end» =>
    go_enter Tryd.func49, Tryd.ntmps49
    go_wp2_with fail
    go_ret
    exact ⟨rfl, (Below.refl _ _).alloc (Nat.le_refl _) _⟩
end Go.Proofs.YtcokccfbeonlnaaDoor
