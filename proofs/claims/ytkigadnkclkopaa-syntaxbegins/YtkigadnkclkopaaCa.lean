import Derived.Test.YtkigadnkclkopaaTg
import Derived.Laws.EntriesVeiled
set_option linter.unusedVariables false
set_option linter.unusedSimpArgs false
namespace Go.Proofs.Ytkigadnkclkopaa
open Go.RowKit

/-! The code's isToken, kindOf, Depth. -/
abbrev ndv (k : Int) (d : Tv) (s : Value) : Value := .agg #[.int .u8 k, .int .u8 d.k, .string d.t, .int .i64 d.a, .int .i64 d.l, .int .i64 d.c, .int .i64 d.f, s]
theorem isTok_any (k : Int) (d : Tv) (ao : Option Addr) (n cap : Nat) (W : World) : Calls Try.prog 18 #[ndv k d (.slice ao n cap)] W fun r w' => r = .returned (.bool (k == 0)) ∧ Below W.heap.size W w' := by
  go_enter Try.func18, Try.ntmps18
  go_wp2_with fail
  go_ret
  exact ⟨rfl, below_new _ _⟩
/-- What a token's event is. -/
def kof (t : Tv) : Int := if cm t then 4 else 2
theorem kindOf_any (t : Tv) (W : World) : Calls Try.prog 33 #[t.v] W fun r w' => r = .returned (.int .u8 (kof t)) ∧ Below W.heap.size W w' := by
  unfold kof cm
  dsimp only [Tv.v]
  obtain ⟨b7, e7⟩ : ∃ b, (t.k == 7) = b := ⟨_, rfl⟩
  obtain ⟨b8, e8⟩ : ∃ b, (t.k == 8) = b := ⟨_, rfl⟩
  rw [e7, e8]
  cases b7
  · cases b8
    · go_enter Try.func33, Try.ntmps33
      go_wp2_with fail
      go_ret
      exact ⟨rfl, below_new _ _⟩
    · go_enter Try.func33, Try.ntmps33
      go_wp2_with fail
      go_ret
      exact ⟨rfl, below_new _ _⟩
  · go_enter Try.func33, Try.ntmps33
    go_wp2_with fail
    go_ret
    exact ⟨rfl, below_new _ _⟩
theorem tkE_kof (d : Tv) : tkE d = ⟨kof d, 0, d⟩ := by
  unfold tkE kof
  split <;> rfl

/-- A kid: its cells now, and its value as it was. -/
theorem kid0 {w0 : World} {ao : Option Addr} {c : List Nd} (h : (ao = none → c = []) ∧ ∀ a, ao = some a → c = [] ∨ ∃ b o, a = ⟨b, o, none⟩ ∧ HL w0 b o c) {V : World} (hb : Below w0.heap.size w0 V) {j : Nat} {m : Nd} (hm : c[j]? = some m) :
    ∃ b o, ao = some ⟨b, o, none⟩ ∧ b < V.heap.size ∧ ∃ ao2 cap2, (V.cell? ⟨b, o + j * 8, none⟩ = some (.int .u8 m.k) ∧ V.cell? ⟨b, o + j * 8 + 1, none⟩ = some (.int .u8 m.d.k) ∧ V.cell? ⟨b, o + j * 8 + 2, none⟩ = some (.string m.d.t) ∧ V.cell? ⟨b, o + j * 8 + 3, none⟩ = some (.int .i64 m.d.a) ∧ V.cell? ⟨b, o + j * 8 + 4, none⟩ = some (.int .i64 m.d.l) ∧ V.cell? ⟨b, o + j * 8 + 5, none⟩ = some (.int .i64 m.d.c) ∧ V.cell? ⟨b, o + j * 8 + 6, none⟩ = some (.int .i64 m.d.f) ∧ V.cell? ⟨b, o + j * 8 + 7, none⟩ = some (.slice ao2 m.c.length cap2)) ∧
      Nv w0 (.agg #[.int .u8 m.k, .int .u8 m.d.k, .string m.d.t, .int .i64 m.d.a, .int .i64 m.d.l, .int .i64 m.d.c, .int .i64 m.d.f, .slice ao2 m.c.length cap2]) m := by
  obtain ⟨b, o, e, hlt, ao2, cap2, ⟨y0, y1, y2, y3, y4, y5, y6, y7⟩, hv⟩ := Nv.kid h (Below.refl _ _) hm
  have tr : ∀ i u, w0.cell? ⟨b, i, none⟩ = some u → V.cell? ⟨b, i, none⟩ = some u := fun i u hu => (World.cell?_of_block (a := ⟨b, i, none⟩) (hb.block b hlt)).trans hu
  exact ⟨b, o, e, Nat.lt_of_lt_of_le hlt hb.size, ao2, cap2, ⟨tr _ _ y0, tr _ _ y1, tr _ _ y2, tr _ _ y3, tr _ _ y4, tr _ _ y5, tr _ _ y6, tr _ _ y7⟩, hv⟩
abbrev lookF (g p : Nat) : Value := .func (.func 24) #[] #[.pointer (some ⟨g, 0, none⟩), .pointer (some ⟨p, 0, none⟩)]
/-- What look has in hand. -/
structure DI (w0 : World) (g p : Nat) (D : Nat) (V : World) : Prop where
  bel : Below w0.heap.size w0 V
  hg : V.heap[g]? = some (.cells #[.int .i64 (D : Int)] 3 (0, 0))
  hp : V.heap[p]? = some (.cells #[lookF g p] 59 (0, 0))
  g0 : w0.heap.size ≤ g
  p0 : w0.heap.size ≤ p
theorem DI.ne {w0 : World} {g p D : Nat} {V : World} (h : DI w0 g p D V) : g ≠ p := by
  rintro rfl
  have := h.hg
  rw [h.hp] at this
  injection this with e
  injection e with _ e
  exact absurd e (by decide)
theorem DI.below {w0 : World} {g p D : Nat} {V V' : World} (h : DI w0 g p D V) (hb : Below V.heap.size V V') : DI w0 g p D V' :=
  ⟨h.bel.trans (hb.mono h.bel.size), blk_below h.hg hb, blk_below h.hp hb, h.g0, h.p0⟩
theorem DI.set {w0 : World} {g p D : Nat} {V : World} (h : DI w0 g p D V) (D' : Nat) : DI w0 g p D' (V.setCell ⟨g, 0, none⟩ (.int .i64 (D' : Int))) :=
  ⟨Kp.low h.bel (Kp.set V g 0 _) (fun k e => by subst e; exact h.g0) h.bel.size, blk_set h.hg 0 _, blk_other h.hp (Ne.symm h.ne) _, h.g0, h.p0⟩
def LookC (w0 : World) (n : Nd) : Prop := ∀ vn, Nv w0 vn n → ∀ W g p D a, DI w0 g p D W → a + dpt n ≤ 100000 → D ≤ 100000 → Calls Try.prog 24 #[vn, .int .i64 (a : Nat), .pointer (some ⟨g, 0, none⟩), .pointer (some ⟨p, 0, none⟩)] W fun r w' => r = .returned (.tuple #[]) ∧ DI w0 g p (if n.k = 0 then D else max D (a + dpt n)) w' ∧ Kp (fun k => k = g) W w'
set_option maxRecDepth 100000 in
set_option maxHeartbeats 600000 in
theorem look_step (w0 : World) (n : Nd) (IH : ∀ m, m ∈ n.c → LookC w0 m) : LookC w0 n := by
  intro vn h W g p D a hI ha hD
  obtain ⟨ao, cap, rfl, q1, q2, q3, q4⟩ := h
  have HI : Hid (DI w0 g p D W) := hI
  obtain ⟨k, d, c⟩ := n
  dsimp only [Nd.k, Nd.d, Nd.c] at *
  have HTk : Hid (∀ V, Calls Try.prog 18 #[ndv k d (.slice ao c.length cap)] V fun r w' => r = .returned (.bool (k == 0)) ∧ Below V.heap.size V w') := fun V => isTok_any k d ao c.length cap V
  obtain ⟨W1, eW⟩ : ∃ W1, W1 = W.alloc (NdB k d (.slice ao c.length cap)) := ⟨_, rfl⟩
  have HB1 : Hid (Below W.heap.size W W1 ∧ W1.heap[W.heap.size]? = some (NdB k d (.slice ao c.length cap))) := by rw [eW]; exact ⟨below_new _ _, new_at _ _⟩
  have x0 : W1.cell? ⟨W.heap.size, 0, none⟩ = some (.int .u8 k) := blk_cell HB1.out.2 rfl
  have x1 : W1.cell? ⟨W.heap.size, 1, none⟩ = some (.int .u8 d.k) := blk_cell HB1.out.2 rfl
  have x2 : W1.cell? ⟨W.heap.size, 2, none⟩ = some (.string d.t) := blk_cell HB1.out.2 rfl
  have x3 : W1.cell? ⟨W.heap.size, 3, none⟩ = some (.int .i64 d.a) := blk_cell HB1.out.2 rfl
  have x4 : W1.cell? ⟨W.heap.size, 4, none⟩ = some (.int .i64 d.l) := blk_cell HB1.out.2 rfl
  have x5 : W1.cell? ⟨W.heap.size, 5, none⟩ = some (.int .i64 d.c) := blk_cell HB1.out.2 rfl
  have x6 : W1.cell? ⟨W.heap.size, 6, none⟩ = some (.int .i64 d.f) := blk_cell HB1.out.2 rfl
  have x7 : W1.cell? ⟨W.heap.size, 7, none⟩ = some (.slice ao c.length cap) := blk_cell HB1.out.2 rfl
  have xl : W.heap.size < W1.heap.size := blk_lt HB1.out.2
  by_cases hk : k = 0
  · subst hk
    clear hI q3 q4 IH
    simp only [if_true]
    go_enter Try.func24, Try.ntmps24
    go_wp2_with fail
    try rw [← eW]
    refine (HTk.out _).mono ?_
    rintro r w2 ⟨rfl, hb2⟩
    have H2 : Hid (Below W.heap.size W w2) := HB1.out.1.trans (hb2.mono HB1.out.1.size)
    clear hb2
    go_wp2_with fail
    first | go_ret | (refine bodyPost_ret (results_none rfl _ _ _) rfl ?_)
    exact ⟨rfl, HI.out.below H2.out, Kp.of_below H2.out⟩
  · have hdp : dpt (.mk k d c) = dptL c + 1 := by simp [dpt, hk]
    rw [hdp] at ha ⊢
    simp only [hk, if_false]
    have hkb : (k == 0) = false := by simpa using hk
    rw [hkb] at HTk
    have HIH : Hid (∀ m, m ∈ c → LookC w0 m) := IH
    have HQ : Hid ((ao = none → c = []) ∧ ∀ a, ao = some a → c = [] ∨ ∃ b o, a = ⟨b, o, none⟩ ∧ HL w0 b o c) := ⟨q3, q4⟩
    have hcl : (c.length : Int) ≤ 9223372036854775807 := by have : maxLen = 9223372036854775807 := rfl; omega
    have HDL : Hid (∀ m, m ∈ c → dpt m ≤ dptL c) := fun m hm => by
      obtain ⟨j, hj, e⟩ := List.getElem_of_mem hm
      have h1 := dptL_take (c := c) (j := j) (m := m) (by rw [← e]; exact List.getElem?_eq_getElem hj)
      have h2 := dptL_le (c := c) (j := j + 1)
      omega
    clear hI q3 q4 IH hdp
    go_enter Try.func24, Try.ntmps24
    go_wp2_with fail
    try rw [← eW]
    refine (HTk.out _).mono ?_
    rintro r w2 ⟨rfl, hb2⟩
    have HN2 : Hid (w2.heap[W.heap.size]? = some (NdB k d (.slice ao c.length cap))) := blk_below HB1.out.2 hb2
    have H2 : Hid (DI w0 g p D w2) := HI.out.below (HB1.out.1.trans (hb2.mono HB1.out.1.size))
    have HK2 : Hid (Kp (fun k => k = g) W w2) := Kp.of_below (HB1.out.1.trans (hb2.mono HB1.out.1.size))
    have y7 : w2.cell? ⟨W.heap.size, 7, none⟩ = some (.slice ao c.length cap) := blk_cell HN2.out rfl
    have yg : w2.cell? ⟨g, 0, none⟩ = some (.int .i64 (D : Int)) := blk_cell H2.out.hg rfl
    have yf : w2.frozen? ⟨g, 0, none⟩ = false := blk_frozen H2.out.hg
    have ygl : g < w2.heap.size := blk_lt H2.out.hg
    have yl : W.heap.size < w2.heap.size := blk_lt HN2.out
    have hng : W.heap.size ≠ g := fun e => by have := HI.out.hg; rw [← e] at this; have := blk_lt this; omega
    clear hb2 x0 x1 x2 x3 x4 x5 x6 x7
    have hmx : ((max D (a + 1) : Nat) : Int) = max (D : Int) ((a : Int) + 1) := by omega
    have HX : Hid (∀ D1 : Nat, ∃ w3, w2.setCell ⟨g, 0, none⟩ (.int .i64 (D1 : Int)) = w3 ∧ DI w0 g p D1 w3 ∧ Kp (fun k => k = g) W w3 ∧ w3.heap[W.heap.size]? = some (NdB k d (.slice ao c.length cap))) := fun D1 => ⟨_, rfl, H2.out.set D1, HK2.out.step (Kp.set _ _ _ _) (fun _ _ h => h), blk_other HN2.out hng _⟩
    go_wp2_with fail
    all_goals first
      | (obtain ⟨w3, e3, h3⟩ := HX.out D
         rw [e3]
         have H3 : Hid (∃ D1, D1 = max D (a + 1) ∧ DI w0 g p D1 w3 ∧ Kp (fun k => k = g) W w3 ∧ w3.heap[W.heap.size]? = some (NdB k d (.slice ao c.length cap))) := ⟨D, by omega, h3⟩)
      | (obtain ⟨w3, e3, h3⟩ := HX.out (a + 1)
         rw [show ((a + 1 : Nat) : Int) = (a : Int) + 1 by omega] at e3
         rw [e3]
         have H3 : Hid (∃ D1, D1 = max D (a + 1) ∧ DI w0 g p D1 w3 ∧ Kp (fun k => k = g) W w3 ∧ w3.heap[W.heap.size]? = some (NdB k d (.slice ao c.length cap))) := ⟨a + 1, by omega, h3⟩)
    all_goals (
      clear h3 e3 HX hmx y7 yg yf ygl yl
      go_loopw [17] (fun iv wr => ∃ j : Nat, j ≤ c.length ∧ iv = .int .i64 j ∧ Hid (DI w0 g p (max D (a + 1 + dptL (c.take j))) wr ∧ Kp (fun k => k = g) W wr ∧ wr.heap[W.heap.size]? = some (NdB k d (.slice ao c.length cap)))) (fun iv _ => c.length - (intOf iv).toNat)
      case atStart =>
        obtain ⟨D1, rfl, h3⟩ := H3.out
        exact ⟨0, Nat.zero_le _, rfl, by unfold Hid; simpa [dptL] using h3⟩
      case round =>
        obtain ⟨j, hj, rfl, HJ⟩ := hrel
        have yp : wr.cell? ⟨p, 0, none⟩ = some (lookF g p) := blk_cell HJ.out.1.hp rfl
        have ypl : p < wr.heap.size := blk_lt HJ.out.1.hp
        have hdj := dptL_le (c := c) (j := j)
        by_cases hlt : j < c.length
        · have z1 : (j : Int) < c.length := by omega
          have z2 : (0 : Int) ≤ j := by omega
          obtain ⟨m, hm⟩ : ∃ m, c[j]? = some m := ⟨_, List.getElem?_eq_getElem hlt⟩
          have hmm : m ∈ c := List.mem_of_getElem? hm
          obtain ⟨b, o, rfl, hbl, ao2, cap2, ⟨v0, v1, v2, v3, v4, v5, v6, v7⟩, hv⟩ := kid0 HQ.out HJ.out.1.bel hm
          have hdm := HDL.out m hmm
          have ht := dptL_take hm
          have HC : Hid (∀ V, DI w0 g p (max D (a + 1 + dptL (c.take j))) V → Calls Try.prog 24 #[ndv m.k m.d (.slice ao2 m.c.length cap2), .int .i64 ((a : Int) + 1), .pointer (some ⟨g, 0, none⟩), .pointer (some ⟨p, 0, none⟩)] V fun r w' => r = .returned (.tuple #[]) ∧ DI w0 g p (max D (a + 1 + dptL (c.take (j + 1)))) w' ∧ Kp (fun k => k = g) V w') := fun V hV => by
            refine (HIH.out m hmm _ hv V g p _ (a + 1) hV (by omega) (by omega)).mono ?_
            rintro r w' ⟨rfl, h1, h2⟩
            refine ⟨rfl, ?_, h2⟩
            rw [ht]
            by_cases hm0 : m.k = 0
            · have : dpt m = 0 := by obtain ⟨mk, md, mc⟩ := m; have hm0' : mk = 0 := hm0; simp [dpt, hm0']
              rw [if_pos hm0] at h1
              rw [this]
              simpa using h1
            · rw [if_neg hm0] at h1
              have e : max (max D (a + 1 + dptL (c.take j))) (a + 1 + dpt m) = max D (a + 1 + max (dptL (c.take j)) (dpt m)) := by omega
              rw [e] at h1
              exact h1
          clear hm hmm hv ht
          obtain ⟨W4, eW4⟩ : ∃ W4, W4 = wr.alloc (NdB m.k m.d (.slice ao2 m.c.length cap2)) := ⟨_, rfl⟩
          have H4 : Hid (Below wr.heap.size wr W4) := by rw [eW4]; exact below_new _ _
          go_wp2_with fail
          try rw [← eW4]
          refine (HC.out _ (HJ.out.1.below H4.out)).mono ?_
          rintro r w5 ⟨rfl, h5, k5⟩
          have H5 : Hid (DI w0 g p (max D (a + 1 + dptL (c.take (j + 1)))) w5 ∧ Kp (fun k => k = g) W w5 ∧ w5.heap[W.heap.size]? = some (NdB k d (.slice (some ⟨b, o, none⟩) c.length cap))) := ⟨h5, (HJ.out.2.1.step (T := fun k => k = g) (Kp.of_below H4.out) (fun _ _ h => h)).step k5 (fun _ _ h => h), k5.blk (blk_below HJ.out.2.2 H4.out) hng⟩
          clear h5 k5
          go_wp2_with fail
          exact ⟨⟨j + 1, hlt, by go_num, H5⟩, by simp [intOf]; omega⟩
        · obtain rfl : j = c.length := by omega
          have z1 : ¬ ((c.length : Int) < c.length) := by omega
          rw [List.take_length] at *
          have HE : Hid (DI w0 g p (max D (a + (dptL c + 1))) wr ∧ Kp (fun k => k = g) W wr) := ⟨by rw [show a + (dptL c + 1) = a + 1 + dptL c by omega]; exact HJ.out.1, HJ.out.2.1⟩
          go_wp2_with fail
          go_end0
          exact ⟨rfl, HE.out.1, HE.out.2⟩)
theorem look_any (w0 : World) (n : Nd) : LookC w0 n := by
  obtain ⟨s, hs⟩ : ∃ s, nsz n = s := ⟨_, rfl⟩
  induction s using Nat.strongRecOn generalizing n with
  | ind s ih => exact look_step w0 n (fun m hm => ih (nsz m) (by rw [← hs]; exact nsz_kid hm) m rfl)

end Go.Proofs.Ytkigadnkclkopaa
