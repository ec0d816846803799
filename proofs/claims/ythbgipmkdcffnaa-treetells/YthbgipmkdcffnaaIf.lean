import Derived.Test.YthbgipmkdcffnaaLa
set_option linter.unusedVariables false
set_option linter.unusedSimpArgs false
namespace Go.Proofs.Ythbgipmkdcffnaa
open Go.RowKit

/-! The document's Toks. -/
/-- Blocks of another type stand. -/
def KY (T : TypeId) (W w' : World) : Prop := ∀ (k : Nat) (cs : Array Value) (U : TypeId) (f : Nat × Nat), W.heap[k]? = some (.cells cs U f) → U ≠ T → w'.heap[k]? = some (.cells cs U f)
theorem KY.trans {T : TypeId} {a b c : World} (h : KY T a b) (k : KY T b c) : KY T a c := fun i cs U f hi hU => k i cs U f (h i cs U f hi hU) hU
theorem KY.of_below {T : TypeId} {a b : World} (h : Below a.heap.size a b) : KY T a b := fun i cs U f hi _ => blk_below hi h
theorem KY.of_grown {B : Nat} {a b : World} {v : Value} {l : List Tv} (hr : Rt B a v l) (h : a.grownBy b v.ownBlock) : KY 30 a b := fun i cs U f hi hU =>
  (h.block i (blk_lt hi) (fun e => hr.ne hi hU i e.symm rfl)).trans hi
theorem toksL_app (a b : List Nd) : toksL (a ++ b) = toksL a ++ toksL b := by
  induction a with
  | nil => simp [toksL]
  | cons x r ih => simp [toksL, ih]
theorem toksL_take {c : List Nd} {j : Nat} {m : Nd} (h : c[j]? = some m) : toksL (c.take (j + 1)) = toksL (c.take j) ++ toks m := by
  rw [List.take_add_one, h, toksL_app]
  simp [toksL]
theorem toksL_le {c : List Nd} {j : Nat} : (toksL (c.take j)).length ≤ (toksL c).length := by
  have : toksL c = toksL (c.take j) ++ toksL (c.drop j) := by rw [← toksL_app, List.take_append_drop]
  rw [this, List.length_append]
  omega
/-- A row under way. -/
structure PI (w0 : World) (v : Value) (T : List Tv) (V : World) : Prop where
  bel : Below w0.heap.size w0 V
  rt : Rt w0.heap.size V v T
theorem PI.below {w0 : World} {v : Value} {T : List Tv} {V V1 : World} (h : PI w0 v T V) (hb : Below V.heap.size V V1) : PI w0 v T V1 := ⟨h.bel.trans (hb.mono h.bel.size), h.rt.below hb⟩
def PutC (w0 : World) (n : Nd) : Prop := ∀ vn, Nv w0 vn n → ∀ W v T, PI w0 v T W → T.length + (toks n).length ≤ 1000000000 → Calls Try.prog 31 #[v, vn] W fun r w' => ∃ v', r = .returned v' ∧ PI w0 v' (T ++ toks n) w' ∧ KY 30 W w'
set_option maxRecDepth 100000 in
set_option maxHeartbeats 600000 in
theorem put_step (w0 : World) (n : Nd) (IH : ∀ m, m ∈ n.c → PutC w0 m) : PutC w0 n := by
  intro vn h W v T hI hle
  obtain ⟨ao, cap, rfl, q1, q2, q3, q4⟩ := h
  have HI : Hid (PI w0 v T W) := hI
  obtain ⟨pv, cv, hv, _⟩ := hI.rt.shape
  subst hv
  obtain ⟨k, d, c⟩ := n
  dsimp only [Nd.k, Nd.d, Nd.c] at *
  obtain ⟨W1, eW⟩ : ∃ W1, W.alloc (NdB k d (.slice ao c.length cap)) = W1 := ⟨_, rfl⟩
  have HB1 : Hid (Below W.heap.size W W1 ∧ W1.heap[W.heap.size]? = some (NdB k d (.slice ao c.length cap))) := by rw [← eW]; exact ⟨below_new _ _, new_at _ _⟩
  have x0 : W1.cell? ⟨W.heap.size, 0, none⟩ = some (.int .u8 k) := blk_cell HB1.out.2 rfl
  have x1 : W1.cell? ⟨W.heap.size, 1, none⟩ = some (.int .u8 d.k) := blk_cell HB1.out.2 rfl
  have x2 : W1.cell? ⟨W.heap.size, 2, none⟩ = some (.string d.t) := blk_cell HB1.out.2 rfl
  have x3 : W1.cell? ⟨W.heap.size, 3, none⟩ = some (.int .i64 d.a) := blk_cell HB1.out.2 rfl
  have x4 : W1.cell? ⟨W.heap.size, 4, none⟩ = some (.int .i64 d.l) := blk_cell HB1.out.2 rfl
  have x5 : W1.cell? ⟨W.heap.size, 5, none⟩ = some (.int .i64 d.c) := blk_cell HB1.out.2 rfl
  have x6 : W1.cell? ⟨W.heap.size, 6, none⟩ = some (.int .i64 d.f) := blk_cell HB1.out.2 rfl
  have x7 : W1.cell? ⟨W.heap.size, 7, none⟩ = some (.slice ao c.length cap) := blk_cell HB1.out.2 rfl
  have xl : W.heap.size < W1.heap.size := blk_lt HB1.out.2
  have H1 : Hid (PI w0 (.slice pv T.length cv) T W1) := HI.out.below HB1.out.1
  by_cases hk : k = 0
  · subst hk
    have e : toks (.mk 0 d c) = [d] := by simp [toks]
    have hle1 : T.length ≤ 1000000000 := by omega
    have HW : Hid (w0.heap.size ≤ (W1.alloc (TkB d)).heap.size) := Nat.le_trans H1.out.bel.size (below_new W1 (TkB d)).size
    rw [e]
    clear hI hle q3 q4 IH e
    go_enter Try.func31, Try.ntmps31
    go_wp2_with (at_builtin; refine app_tok (by rfl) _ _ (by rfl) w0.heap.size (.slice pv T.length cv) T d (by rfl) (H1.out.rt.below (below_new _ _)) W1.heap.size 1 (by rfl) (new_at _ _) hle1 HW.out ?_; intro v' w3 h1 h2 h3 h4; have H3 : Hid (PI w0 v' (T ++ [d]) w3 ∧ KY 30 W w3) := ⟨⟨(H1.out.below (below_new _ _)).bel.trans h2, h1⟩, ((KY.of_below HB1.out.1).trans (KY.of_below (below_new _ _))).trans (KY.of_grown (H1.out.rt.below (below_new _ _)) h3)⟩; clear h1 h2 h3 h4)
    go_ret
    exact ⟨_, rfl, H3.out⟩
  · have e : toks (.mk k d c) = toksL c := by simp [toks, hk]
    have q5 : (k == 0) = false := by simpa using hk
    rw [e] at hle ⊢
    have HIH : Hid (∀ m, m ∈ c → PutC w0 m) := IH
    have HQ : Hid ((ao = none → c = []) ∧ ∀ a, ao = some a → c = [] ∨ ∃ b o, a = ⟨b, o, none⟩ ∧ HL w0 b o c) := ⟨q3, q4⟩
    have hcl : (c.length : Int) ≤ 9223372036854775807 := by have : maxLen = 9223372036854775807 := rfl; omega
    have HL1 : Hid (T.length + (toksL c).length ≤ 1000000000) := hle
    clear hI hle q3 q4 IH e HI
    go_enter Try.func31, Try.ntmps31
    go_wp2_with fail
    go_loopw [0, 5] (fun lv iv wr => ∃ j : Nat, j ≤ c.length ∧ iv = .int .i64 j ∧ Hid (PI w0 lv (T ++ toksL (c.take j)) wr ∧ wr.heap[W.heap.size]? = some (NdB k d (.slice ao c.length cap)) ∧ KY 30 W wr)) (fun _ iv _ => c.length - (intOf iv).toNat)
    case atStart => exact ⟨0, Nat.zero_le _, rfl, by simpa [toksL] using H1.out, HB1.out.2, KY.of_below HB1.out.1⟩
    case round =>
      obtain ⟨j, hj, rfl, HJ⟩ := hrel
      have u7 : wr.cell? ⟨W.heap.size, 7, none⟩ = some (.slice ao c.length cap) := blk_cell HJ.out.2.1 rfl
      have ul := blk_lt HJ.out.2.1
      obtain ⟨pl, cl, hvl, _⟩ := HJ.out.1.rt.shape
      have hll := toksL_le (c := c) (j := j)
      by_cases hlt : j < c.length
      · have z1 : (j : Int) < c.length := by omega
        have z2 : (0 : Int) ≤ j := by omega
        obtain ⟨m, hm⟩ : ∃ m, c[j]? = some m := ⟨_, List.getElem?_eq_getElem hlt⟩
        have hmm : m ∈ c := List.mem_of_getElem? hm
        obtain ⟨b, o, rfl, hbr, ao2, cap2, ⟨y0, y1, y2, y3, y4, y5, y6, y7⟩, hv⟩ := kid0 HQ.out HJ.out.1.bel hm
        have ht := toksL_take hm
        have hll2 := toksL_le (c := c) (j := j + 1)
        rw [ht] at hll2
        have HC : Hid (∀ lv, PI w0 lv (T ++ toksL (c.take j)) wr → Calls Try.prog 31 #[lv, .agg #[.int .u8 m.k, .int .u8 m.d.k, .string m.d.t, .int .i64 m.d.a, .int .i64 m.d.l, .int .i64 m.d.c, .int .i64 m.d.f, .slice ao2 m.c.length cap2]] wr fun r w' => ∃ v', r = .returned v' ∧ PI w0 v' ((T ++ toksL (c.take j)) ++ toks m) w' ∧ KY 30 wr w') := fun lv hI => HIH.out m hmm _ hv wr lv _ hI (by have := HL1.out; simp at hll2 ⊢; omega)
        have HT : Hid ((T ++ toksL (c.take j)) ++ toks m = T ++ toksL (c.take (j + 1))) := (by rw [ht]; simp : (T ++ toksL (c.take j)) ++ toks m = T ++ toksL (c.take (j + 1)))
        clear hm hmm hv ht hll hll2
        obtain ⟨nl, hnl⟩ : ∃ nl, (T ++ toksL (c.take j)).length = nl := ⟨_, rfl⟩
        rw [hnl] at hvl
        subst hvl
        clear hnl
        go_wp2_with fail
        refine (HC.out _ HJ.out.1).mono ?_
        rintro r w4 ⟨v4, rfl, hb4, hk4⟩
        have H4 : Hid (PI w0 v4 (T ++ toksL (c.take (j + 1))) w4 ∧ w4.heap[W.heap.size]? = some (NdB k d (.slice (some ⟨b, o, none⟩) c.length cap)) ∧ KY 30 W w4) := by
          rw [← HT.out]
          exact ⟨hb4, hk4 _ _ _ _ HJ.out.2.1 (by decide), HJ.out.2.2.trans hk4⟩
        obtain ⟨p5, c5, hv5, _⟩ := hb4.rt.shape
        obtain ⟨nl5, hnl5⟩ : ∃ nl5, ((T ++ toksL (c.take j)) ++ toks m).length = nl5 := ⟨_, rfl⟩
        rw [hnl5] at hv5
        clear hb4 hk4 hnl5
        subst hv5
        go_wp2_with fail
        exact ⟨⟨j + 1, hlt, by go_num, H4⟩, by simp [intOf]; omega⟩
      · obtain rfl : j = c.length := by omega
        have z1 : ¬ ((c.length : Int) < c.length) := by omega
        rw [List.take_length] at HJ hvl hll
        obtain ⟨nl, hnl⟩ : ∃ nl, (T ++ toksL c).length = nl := ⟨_, rfl⟩
        rw [hnl] at hvl
        subst hvl
        clear hnl
        go_wp2_with fail
        go_ret
        exact ⟨_, rfl, HJ.out.1, HJ.out.2.2⟩
theorem put_any (w0 : World) (n : Nd) : PutC w0 n := by
  obtain ⟨s, hs⟩ : ∃ s, nsz n = s := ⟨_, rfl⟩
  induction s using Nat.strongRecOn generalizing n with
  | ind s ih => exact put_step w0 n (fun m hm => ih (nsz m) (by rw [← hs]; exact nsz_kid hm) m rfl)
/-- The document's Toks. -/
theorem rtoks_any (n : Nd) (vn : Value) (W : World) (h : Nv W vn n) (hl : (toks n).length ≤ 1000000000) :
    Calls Try.prog 18 #[vn] W fun r w' => ∃ v', r = .returned v' ∧ PI W v' (toks n) w' := by
  have HA : Hid (∀ V, Below W.heap.size W V → Calls Try.prog 31 #[.slice none 0 0, vn] V fun r w' => ∃ v', r = .returned v' ∧ PI W v' (toks n) w') := fun V hb => by
    refine (put_any W n vn h V (.slice none 0 0) [] ⟨hb, rt_nil _ _⟩ (by simpa using hl)).mono ?_
    rintro r w' ⟨v', rfl, h1, _⟩
    exact ⟨v', rfl, by simpa using h1⟩
  obtain ⟨ao, cap, rfl, _⟩ := h
  go_enter Try.func18, Try.ntmps18
  go_wp2_with fail
  refine (HA.out _ (by first | exact below_new _ _ | exact Below.refl _ _)).mono ?_
  rintro r w1 ⟨v', rfl, h1⟩
  have H1 := show Hid _ from h1
  clear h1 HA
  go_wp2_with fail
  go_ret
  exact ⟨_, rfl, H1.out⟩

end Go.Proofs.Ythbgipmkdcffnaa
