import Derived.Test.YtkigadnkclkopaaG7
import Derived.Laws.EntriesVeiled
import Derived.Deep.RegionHeld3
import Derived.Deep.RegionWith
import Derived.Deep.RegionLaw
import Derived.WalkMore
import Derived.Deep.AppendLies
set_option linter.unusedVariables false
set_option linter.unusedSimpArgs false
namespace Go.Proofs.Ytkigadnkclkopaa
open Go.RowKit

/-! The code's isToken, kindOf, Depth. -/
abbrev ndv (k : Int) (d : Tv) (s : Value) : Value := .agg #[.int .u8 k, .int .u8 d.k, .string d.t, .int .i64 d.a, .int .i64 d.l, .int .i64 d.c, .int .i64 d.f, s]
theorem isTok_any (k : Int) (d : Tv) (ao : Option Addr) (n cap : Nat) (W : World) : Calls Try.prog 18 #[ndv k d (.slice ao n cap)] W fun r w' => r = .returned (.bool (k == 0)) ∧ Below W.heap.size W w' := by
  go_enter Try.func18, Try.ntmps18
  go_wp2_with fail
  go_ret
  exact ⟨rfl, below_new _ _⟩
/-- What a token's event is. -/
def kof (t : Tv) : Int := if cm t then 4 else 2
theorem kindOf_any (t : Tv) (W : World) : Calls Try.prog 33 #[t.v] W fun r w' => r = .returned (.int .u8 (kof t)) ∧ Below W.heap.size W w' := by
  unfold kof cm
  dsimp only [Tv.v]
  obtain ⟨b7, e7⟩ : ∃ b, (t.k == 7) = b := ⟨_, rfl⟩
  obtain ⟨b8, e8⟩ : ∃ b, (t.k == 8) = b := ⟨_, rfl⟩
  rw [e7, e8]
  cases b7
  · cases b8
    · go_enter Try.func33, Try.ntmps33
      go_wp2_with fail
      go_ret
      exact ⟨rfl, below_new _ _⟩
    · go_enter Try.func33, Try.ntmps33
      go_wp2_with fail
      go_ret
      exact ⟨rfl, below_new _ _⟩
  · go_enter Try.func33, Try.ntmps33
    go_wp2_with fail
    go_ret
    exact ⟨rfl, below_new _ _⟩
theorem tkE_kof (d : Tv) : tkE d = ⟨kof d, 0, d⟩ := by
  unfold tkE kof
  split <;> rfl

/-- A kid: its cells now, and its value as it was. -/
theorem kid0 {w0 : World} {ao : Option Addr} {c : List Nd} (h : (ao = none → c = []) ∧ ∀ a, ao = some a → c = [] ∨ ∃ b o, a = ⟨b, o, none⟩ ∧ HL w0 b o c) {V : World} (hb : Below w0.heap.size w0 V) {j : Nat} {m : Nd} (hm : c[j]? = some m) :
    ∃ b o, ao = some ⟨b, o, none⟩ ∧ b < V.heap.size ∧ ∃ ao2 cap2, (V.cell? ⟨b, o + j * 8, none⟩ = some (.int .u8 m.k) ∧ V.cell? ⟨b, o + j * 8 + 1, none⟩ = some (.int .u8 m.d.k) ∧ V.cell? ⟨b, o + j * 8 + 2, none⟩ = some (.string m.d.t) ∧ V.cell? ⟨b, o + j * 8 + 3, none⟩ = some (.int .i64 m.d.a) ∧ V.cell? ⟨b, o + j * 8 + 4, none⟩ = some (.int .i64 m.d.l) ∧ V.cell? ⟨b, o + j * 8 + 5, none⟩ = some (.int .i64 m.d.c) ∧ V.cell? ⟨b, o + j * 8 + 6, none⟩ = some (.int .i64 m.d.f) ∧ V.cell? ⟨b, o + j * 8 + 7, none⟩ = some (.slice ao2 m.c.length cap2)) ∧
      Nv w0 (.agg #[.int .u8 m.k, .int .u8 m.d.k, .string m.d.t, .int .i64 m.d.a, .int .i64 m.d.l, .int .i64 m.d.c, .int .i64 m.d.f, .slice ao2 m.c.length cap2]) m := by
  obtain ⟨b, o, e, hlt, ao2, cap2, ⟨y0, y1, y2, y3, y4, y5, y6, y7⟩, hv⟩ := Nv.kid h (Below.refl _ _) hm
  have tr : ∀ i u, w0.cell? ⟨b, i, none⟩ = some u → V.cell? ⟨b, i, none⟩ = some u := fun i u hu => (World.cell?_of_block (a := ⟨b, i, none⟩) (hb.block b hlt)).trans hu
  exact ⟨b, o, e, Nat.lt_of_lt_of_le hlt hb.size, ao2, cap2, ⟨tr _ _ y0, tr _ _ y1, tr _ _ y2, tr _ _ y3, tr _ _ y4, tr _ _ y5, tr _ _ y6, tr _ _ y7⟩, hv⟩
abbrev lookF (g p : Nat) : Value := .func (.func 24) #[] #[.pointer (some ⟨g, 0, none⟩), .pointer (some ⟨p, 0, none⟩)]
/-- What look has in hand. -/
structure DI (w0 : World) (g p : Nat) (D : Nat) (V : World) : Prop where
  bel : Below w0.heap.size w0 V
  hg : V.heap[g]? = some (.cells #[.int .i64 (D : Int)] 3 (0, 0))
  hp : V.heap[p]? = some (.cells #[lookF g p] 59 (0, 0))
  g0 : w0.heap.size ≤ g
  p0 : w0.heap.size ≤ p
theorem DI.ne {w0 : World} {g p D : Nat} {V : World} (h : DI w0 g p D V) : g ≠ p := by
  rintro rfl
  have := h.hg
  rw [h.hp] at this
  injection this with e
  injection e with _ e
  exact absurd e (by decide)
theorem DI.below {w0 : World} {g p D : Nat} {V V' : World} (h : DI w0 g p D V) (hb : Below V.heap.size V V') : DI w0 g p D V' :=
  ⟨h.bel.trans (hb.mono h.bel.size), blk_below h.hg hb, blk_below h.hp hb, h.g0, h.p0⟩
theorem DI.set {w0 : World} {g p D : Nat} {V : World} (h : DI w0 g p D V) (D' : Nat) : DI w0 g p D' (V.setCell ⟨g, 0, none⟩ (.int .i64 (D' : Int))) :=
  ⟨Kp.low h.bel (Kp.set V g 0 _) (fun k e => by subst e; exact h.g0) h.bel.size, blk_set h.hg 0 _, blk_other h.hp (Ne.symm h.ne) _, h.g0, h.p0⟩
def LookC (w0 : World) (n : Nd) : Prop := ∀ vn, Nv w0 vn n → ∀ W g p D a, DI w0 g p D W → a + dpt n ≤ 100000 → D ≤ 100000 → Calls Try.prog 24 #[vn, .int .i64 (a : Nat), .pointer (some ⟨g, 0, none⟩), .pointer (some ⟨p, 0, none⟩)] W fun r w' => r = .returned (.tuple #[]) ∧ DI w0 g p (if n.k = 0 then D else max D (a + dpt n)) w' ∧ Kp (fun k => k = g) W w'
set_option maxRecDepth 100000 in
set_option maxHeartbeats 600000 in
theorem look_step (w0 : World) (n : Nd) (IH : ∀ m, m ∈ n.c → LookC w0 m) : LookC w0 n := by
  intro vn h W g p D a hI ha hD
  obtain ⟨ao, cap, rfl, q1, q2, q3, q4⟩ := h
  have HI : Hid (DI w0 g p D W) := hI
  obtain ⟨k, d, c⟩ := n
  dsimp only [Nd.k, Nd.d, Nd.c] at *
  have HTk : Hid (∀ V, Calls Try.prog 18 #[ndv k d (.slice ao c.length cap)] V fun r w' => r = .returned (.bool (k == 0)) ∧ Below V.heap.size V w') := fun V => isTok_any k d ao c.length cap V
  obtain ⟨W1, eW⟩ : ∃ W1, W1 = W.alloc (NdB k d (.slice ao c.length cap)) := ⟨_, rfl⟩
  have HB1 : Hid (Below W.heap.size W W1 ∧ W1.heap[W.heap.size]? = some (NdB k d (.slice ao c.length cap))) := by rw [eW]; exact ⟨below_new _ _, new_at _ _⟩
  have x0 : W1.cell? ⟨W.heap.size, 0, none⟩ = some (.int .u8 k) := blk_cell HB1.out.2 rfl
  have x1 : W1.cell? ⟨W.heap.size, 1, none⟩ = some (.int .u8 d.k) := blk_cell HB1.out.2 rfl
  have x2 : W1.cell? ⟨W.heap.size, 2, none⟩ = some (.string d.t) := blk_cell HB1.out.2 rfl
  have x3 : W1.cell? ⟨W.heap.size, 3, none⟩ = some (.int .i64 d.a) := blk_cell HB1.out.2 rfl
  have x4 : W1.cell? ⟨W.heap.size, 4, none⟩ = some (.int .i64 d.l) := blk_cell HB1.out.2 rfl
  have x5 : W1.cell? ⟨W.heap.size, 5, none⟩ = some (.int .i64 d.c) := blk_cell HB1.out.2 rfl
  have x6 : W1.cell? ⟨W.heap.size, 6, none⟩ = some (.int .i64 d.f) := blk_cell HB1.out.2 rfl
  have x7 : W1.cell? ⟨W.heap.size, 7, none⟩ = some (.slice ao c.length cap) := blk_cell HB1.out.2 rfl
  have xl : W.heap.size < W1.heap.size := blk_lt HB1.out.2
  by_cases hk : k = 0
  · subst hk
    clear hI q3 q4 IH
    simp only [if_true]
    go_enter Try.func24, Try.ntmps24
    go_wp2_with fail
    try rw [← eW]
    refine (HTk.out _).mono ?_
    rintro r w2 ⟨rfl, hb2⟩
    have H2 : Hid (Below W.heap.size W w2) := HB1.out.1.trans (hb2.mono HB1.out.1.size)
    clear hb2
    go_wp2_with fail
    first | go_ret | (refine bodyPost_ret (results_none rfl _ _ _) rfl ?_)
    exact ⟨rfl, HI.out.below H2.out, Kp.of_below H2.out⟩
  · have hdp : dpt (.mk k d c) = dptL c + 1 := by simp [dpt, hk]
    rw [hdp] at ha ⊢
    simp only [hk, if_false]
    have hkb : (k == 0) = false := by simpa using hk
    rw [hkb] at HTk
    have HIH : Hid (∀ m, m ∈ c → LookC w0 m) := IH
    have HQ : Hid ((ao = none → c = []) ∧ ∀ a, ao = some a → c = [] ∨ ∃ b o, a = ⟨b, o, none⟩ ∧ HL w0 b o c) := ⟨q3, q4⟩
    have hcl : (c.length : Int) ≤ 9223372036854775807 := by have : maxLen = 9223372036854775807 := rfl; omega
    have HDL : Hid (∀ m, m ∈ c → dpt m ≤ dptL c) := fun m hm => by
      obtain ⟨j, hj, e⟩ := List.getElem_of_mem hm
      have h1 := dptL_take (c := c) (j := j) (m := m) (by rw [← e]; exact List.getElem?_eq_getElem hj)
      have h2 := dptL_le (c := c) (j := j + 1)
      omega
    clear hI q3 q4 IH hdp
    go_enter Try.func24, Try.ntmps24
    go_wp2_with fail
    try rw [← eW]
    refine (HTk.out _).mono ?_
    rintro r w2 ⟨rfl, hb2⟩
    have HN2 : Hid (w2.heap[W.heap.size]? = some (NdB k d (.slice ao c.length cap))) := blk_below HB1.out.2 hb2
    have H2 : Hid (DI w0 g p D w2) := HI.out.below (HB1.out.1.trans (hb2.mono HB1.out.1.size))
    have HK2 : Hid (Kp (fun k => k = g) W w2) := Kp.of_below (HB1.out.1.trans (hb2.mono HB1.out.1.size))
    have y7 : w2.cell? ⟨W.heap.size, 7, none⟩ = some (.slice ao c.length cap) := blk_cell HN2.out rfl
    have yg : w2.cell? ⟨g, 0, none⟩ = some (.int .i64 (D : Int)) := blk_cell H2.out.hg rfl
    have yf : w2.frozen? ⟨g, 0, none⟩ = false := blk_frozen H2.out.hg
    have ygl : g < w2.heap.size := blk_lt H2.out.hg
    have yl : W.heap.size < w2.heap.size := blk_lt HN2.out
    have hng : W.heap.size ≠ g := fun e => by have := HI.out.hg; rw [← e] at this; have := blk_lt this; omega
    clear hb2 x0 x1 x2 x3 x4 x5 x6 x7
    have hmx : ((max D (a + 1) : Nat) : Int) = max (D : Int) ((a : Int) + 1) := by omega
    have HX : Hid (∀ D1 : Nat, ∃ w3, w2.setCell ⟨g, 0, none⟩ (.int .i64 (D1 : Int)) = w3 ∧ DI w0 g p D1 w3 ∧ Kp (fun k => k = g) W w3 ∧ w3.heap[W.heap.size]? = some (NdB k d (.slice ao c.length cap))) := fun D1 => ⟨_, rfl, H2.out.set D1, HK2.out.step (Kp.set _ _ _ _) (fun _ _ h => h), blk_other HN2.out hng _⟩
    go_wp2_with fail
    all_goals first
      | (obtain ⟨w3, e3, h3⟩ := HX.out D
         rw [e3]
         have H3 : Hid (∃ D1, D1 = max D (a + 1) ∧ DI w0 g p D1 w3 ∧ Kp (fun k => k = g) W w3 ∧ w3.heap[W.heap.size]? = some (NdB k d (.slice ao c.length cap))) := ⟨D, by omega, h3⟩)
      | (obtain ⟨w3, e3, h3⟩ := HX.out (a + 1)
         rw [show ((a + 1 : Nat) : Int) = (a : Int) + 1 by omega] at e3
         rw [e3]
         have H3 : Hid (∃ D1, D1 = max D (a + 1) ∧ DI w0 g p D1 w3 ∧ Kp (fun k => k = g) W w3 ∧ w3.heap[W.heap.size]? = some (NdB k d (.slice ao c.length cap))) := ⟨a + 1, by omega, h3⟩)
    all_goals (
      clear h3 e3 HX hmx y7 yg yf ygl yl
      go_loopw [17] (fun iv wr => ∃ j : Nat, j ≤ c.length ∧ iv = .int .i64 j ∧ Hid (DI w0 g p (max D (a + 1 + dptL (c.take j))) wr ∧ Kp (fun k => k = g) W wr ∧ wr.heap[W.heap.size]? = some (NdB k d (.slice ao c.length cap)))) (fun iv _ => c.length - (intOf iv).toNat)
      case atStart =>
        obtain ⟨D1, rfl, h3⟩ := H3.out
        exact ⟨0, Nat.zero_le _, rfl, by unfold Hid; simpa [dptL] using h3⟩
      case round =>
        obtain ⟨j, hj, rfl, HJ⟩ := hrel
        have yp : wr.cell? ⟨p, 0, none⟩ = some (lookF g p) := blk_cell HJ.out.1.hp rfl
        have ypl : p < wr.heap.size := blk_lt HJ.out.1.hp
        have hdj := dptL_le (c := c) (j := j)
        by_cases hlt : j < c.length
        · have z1 : (j : Int) < c.length := by omega
          have z2 : (0 : Int) ≤ j := by omega
          obtain ⟨m, hm⟩ : ∃ m, c[j]? = some m := ⟨_, List.getElem?_eq_getElem hlt⟩
          have hmm : m ∈ c := List.mem_of_getElem? hm
          obtain ⟨b, o, rfl, hbl, ao2, cap2, ⟨v0, v1, v2, v3, v4, v5, v6, v7⟩, hv⟩ := kid0 HQ.out HJ.out.1.bel hm
          have hdm := HDL.out m hmm
          have ht := dptL_take hm
          have HC : Hid (∀ V, DI w0 g p (max D (a + 1 + dptL (c.take j))) V → Calls Try.prog 24 #[ndv m.k m.d (.slice ao2 m.c.length cap2), .int .i64 ((a : Int) + 1), .pointer (some ⟨g, 0, none⟩), .pointer (some ⟨p, 0, none⟩)] V fun r w' => r = .returned (.tuple #[]) ∧ DI w0 g p (max D (a + 1 + dptL (c.take (j + 1)))) w' ∧ Kp (fun k => k = g) V w') := fun V hV => by
            refine (HIH.out m hmm _ hv V g p _ (a + 1) hV (by omega) (by omega)).mono ?_
            rintro r w' ⟨rfl, h1, h2⟩
            refine ⟨rfl, ?_, h2⟩
            rw [ht]
            by_cases hm0 : m.k = 0
            · have : dpt m = 0 := by obtain ⟨mk, md, mc⟩ := m; have hm0' : mk = 0 := hm0; simp [dpt, hm0']
              rw [if_pos hm0] at h1
              rw [this]
              simpa using h1
            · rw [if_neg hm0] at h1
              have e : max (max D (a + 1 + dptL (c.take j))) (a + 1 + dpt m) = max D (a + 1 + max (dptL (c.take j)) (dpt m)) := by omega
              rw [e] at h1
              exact h1
          clear hm hmm hv ht
          obtain ⟨W4, eW4⟩ : ∃ W4, W4 = wr.alloc (NdB m.k m.d (.slice ao2 m.c.length cap2)) := ⟨_, rfl⟩
          have H4 : Hid (Below wr.heap.size wr W4) := by rw [eW4]; exact below_new _ _
          go_wp2_with fail
          try rw [← eW4]
          refine (HC.out _ (HJ.out.1.below H4.out)).mono ?_
          rintro r w5 ⟨rfl, h5, k5⟩
          have H5 : Hid (DI w0 g p (max D (a + 1 + dptL (c.take (j + 1)))) w5 ∧ Kp (fun k => k = g) W w5 ∧ w5.heap[W.heap.size]? = some (NdB k d (.slice (some ⟨b, o, none⟩) c.length cap))) := ⟨h5, (HJ.out.2.1.step (T := fun k => k = g) (Kp.of_below H4.out) (fun _ _ h => h)).step k5 (fun _ _ h => h), k5.blk (blk_below HJ.out.2.2 H4.out) hng⟩
          clear h5 k5
          go_wp2_with fail
          exact ⟨⟨j + 1, hlt, by go_num, H5⟩, by simp [intOf]; omega⟩
        · obtain rfl : j = c.length := by omega
          have z1 : ¬ ((c.length : Int) < c.length) := by omega
          rw [List.take_length] at *
          have HE : Hid (DI w0 g p (max D (a + (dptL c + 1))) wr ∧ Kp (fun k => k = g) W wr) := ⟨by rw [show a + (dptL c + 1) = a + 1 + dptL c by omega]; exact HJ.out.1, HJ.out.2.1⟩
          go_wp2_with fail
          go_end0
          exact ⟨rfl, HE.out.1, HE.out.2⟩)
theorem look_any (w0 : World) (n : Nd) : LookC w0 n := by
  obtain ⟨s, hs⟩ : ∃ s, nsz n = s := ⟨_, rfl⟩
  induction s using Nat.strongRecOn generalizing n with
  | ind s ih => exact look_step w0 n (fun m hm => ih (nsz m) (by rw [← hs]; exact nsz_kid hm) m rfl)

end Go.Proofs.Ytkigadnkclkopaa

set_option linter.unusedVariables false
set_option linter.unusedSimpArgs false
namespace Go.Proofs.Ytkigadnkclkopaa
open Go.RowKit

/-! The code's Depth. -/
theorem size_al (W : World) (o : Obj) : (W.alloc o).heap.size = W.heap.size + 1 := World.size_alloc _ _
theorem di_start (W : World) (o : Obj) (x : Value) : DI W (W.heap.size + 1) (W.heap.size + 1 + 1) 0 (((W.alloc o).alloc (.cells #[.int .i64 0] 3)).alloc (.cells #[lookF (W.heap.size + 1) (W.heap.size + 1 + 1)] 59)) := by
  have e1 := size_al W o
  have e2 := size_al (W.alloc o) (.cells #[.int .i64 0] 3)
  have b1 := below_new W o
  have b2 := below_new (W.alloc o) (.cells #[.int .i64 0] 3)
  have b3 := below_new ((W.alloc o).alloc (.cells #[.int .i64 0] 3)) (.cells #[lookF (W.heap.size + 1) (W.heap.size + 1 + 1)] 59)
  refine ⟨(b1.trans (b2.mono b1.size)).trans (b3.mono (by omega)), ?_, ?_, by omega, by omega⟩
  · refine alloc_at' ?_ _
    rw [← e1]
    exact new_at _ _
  · rw [← e1, ← e2]
    exact new_at _ _
set_option maxRecDepth 100000 in
theorem depth_any (n : Nd) (vn : Value) (W : World) (h : Nv W vn n) (hd : dpt n ≤ 100000) : Calls Try.prog 10 #[vn] W fun r w' => r = .returned (.int .i64 (dpt n : Nat)) ∧ Below W.heap.size W w' := by
  have hmf : ∀ (fn : Fn) (first cap : Array Value) (w : World), (Instr.makeFunc fn first cap).run Try.prog w = .ok (.func fn first cap) w := fun _ _ _ _ => rfl
  have HL : Hid (∀ V, DI W (W.heap.size + 1) (W.heap.size + 1 + 1) 0 V → Calls Try.prog 24 #[vn, .int .i64 0, .pointer (some ⟨W.heap.size + 1, 0, none⟩), .pointer (some ⟨W.heap.size + 1 + 1, 0, none⟩)] V fun r w' => r = .returned (.tuple #[]) ∧ DI W (W.heap.size + 1) (W.heap.size + 1 + 1) (dpt n) w') := fun V hV => by
    refine (look_any W n vn h V _ _ 0 0 hV (by omega) (by omega)).mono ?_
    rintro r w' ⟨rfl, h1, _⟩
    refine ⟨rfl, ?_⟩
    by_cases hk : n.k = 0
    · rw [if_pos hk] at h1
      have : dpt n = 0 := by obtain ⟨mk, md, mc⟩ := n; have hm0' : mk = 0 := hk; simp [dpt, hm0']
      rw [this]; exact h1
    · rw [if_neg hk] at h1
      rw [show max 0 (0 + dpt n) = dpt n by omega] at h1
      exact h1
  obtain ⟨ao, cap, rfl, _⟩ := h
  go_enter Try.func10, Try.ntmps10
  go_wp2_with fail
  refine (HL.out _ (di_start W _ .nilFunc)).mono ?_
  rintro r w1 ⟨rfl, h1⟩
  have yg : w1.cell? ⟨W.heap.size + 1, 0, none⟩ = some (.int .i64 (dpt n : Int)) := blk_cell h1.hg rfl
  have ygl : W.heap.size + 1 < w1.heap.size := blk_lt h1.hg
  have H1 : Hid (Below W.heap.size W w1) := h1.bel
  clear h1 HL
  go_wp2_with fail
  go_ret
  exact ⟨rfl, H1.out⟩

end Go.Proofs.Ytkigadnkclkopaa

set_option linter.unusedVariables false
set_option linter.unusedSimpArgs false
namespace Go.Proofs.Ytkigadnkclkopaa
open Go.RowKit

/-! The code's Events. -/
theorem step_ev {W : World} {ops : Array Oper} {o : Oper} {a : Act} {K : Act → World → Prop} {Q : Exit → Act → World → Prop} {E : Prop} (hgd : o.guard = none) (s x : Operand)
    (ho : o.op = .call { callee := .builtin .append, args := #[s, x], argTypes := #[49, 49] }) (v : Value) (l : List Ev) (d : Ev) (hs : a.eval s = v) (hr : Re W v l)
    (g c : Nat) (hx : a.eval x = .slice (some ⟨g, 0, none⟩) 1 c) (hg : W.heap[g]? = some (.cells #[.int .u8 d.k, .int .u8 d.n, .int .u8 d.d.k, .string d.d.t, .int .i64 d.d.a, .int .i64 d.d.l, .int .i64 d.d.c, .int .i64 d.d.f] 63 (0, 0))) (hl : l.length ≤ 1000000000)
    (h : ∀ q cap w', Re w' (.slice (some ⟨q, 0, none⟩) (l.length + 1) cap) (l ++ [d]) → W.grownBy w' v.ownBlock → Nb W v (.slice (some ⟨q, 0, none⟩) (l.length + 1) cap) → K (a.put o.dst (.slice (some ⟨q, 0, none⟩) (l.length + 1) cap)) w') :
    if Region.wanted o (yielded ops a.tmps) = true then Oper.wp Try.prog o a W K Q else E := by
  obtain ⟨i0, hi, hz0, hz1, hz2⟩ := info_parts Try.info63
  refine step_append_lies W hgd s x 49 ho 0 63 i0 _ 8 64 Try.underlying49 hi hz0 hz1 hz2 rfl (by decide) v _ _ hs hr ⟨g, 0, none⟩ 1 c (ecs [d]) hx (by rw [ecs_len]; rfl) ?_ (ecs_one [d]) (by omega) (by unfold maxLen; omega) (by omega) (Nat.zero_le _) _ rfl ?_
  · intro j u hu
    refine World.news_of_block hg j u ?_
    have e : ecs [d] = [.int .u8 d.k, .int .u8 d.n, .int .u8 d.d.k, .string d.d.t, .int .i64 d.d.a, .int .i64 d.d.l, .int .i64 d.d.c, .int .i64 d.d.f] := by simp [ecs, flat, Ev.cs]
    rw [e] at hu
    simpa using hu
  · intro q cap w' a1 a2 a3 _
    refine h q cap w' ?_ a2 ?_
    · unfold Re
      rw [List.length_append, ecs_app]
      exact a1
    · rcases a3 with a3 | a3
      · exact .inl a3.symm
      · exact .inr ⟨q, rfl, by omega⟩
/-- A block of a type. -/
def tyB (T : TypeId) (W : World) (k : Nat) : Prop := ∃ cs f, W.heap[k]? = some (.cells cs T f)
/-- What stands, but for one block and those of a type. -/
def KT (T : TypeId) (g : Nat) (W w' : World) : Prop := Kp (fun k => k = g ∨ tyB T W k) W w'
theorem KT.refl (T : TypeId) (g : Nat) (W : World) : KT T g W W := Kp.refl _ _
theorem KT.trans {T : TypeId} {g : Nat} {a b c : World} (h : KT T g a b) (k : KT T g b c) : KT T g a c := by
  refine ⟨k.os.trans h.os, k.tape.trans h.tape, k.output.trans h.output, Nat.le_trans h.size k.size, fun j hj hS => ?_⟩
  have e := h.block j hj hS
  refine (k.block j (Nat.lt_of_lt_of_le hj h.size) (fun ht => hS ?_)).trans e
  rcases ht with ht | ⟨cs, f, ht⟩
  · exact .inl ht
  · exact .inr ⟨cs, f, by rw [← e]; exact ht⟩
theorem KT.of_below {T : TypeId} {g : Nat} {a b : World} (h : Below a.heap.size a b) : KT T g a b := Kp.of_below h
theorem KT.of_kp {T : TypeId} {g : Nat} {a b : World} (h : Kp (fun k => k = g) a b) : KT T g a b := h.sub (fun k e => .inl e)
theorem KT.blk {T : TypeId} {g : Nat} {a b : World} (h : KT T g a b) {k : Nat} {cs : Array Value} {U : TypeId} {f : Nat × Nat} (hk : a.heap[k]? = some (.cells cs U f)) (hg : k ≠ g) (hT : U ≠ T) : b.heap[k]? = some (.cells cs U f) := by
  refine Kp.blk h hk ?_
  rintro (e | ⟨cs', f', e⟩)
  · exact hg e
  · rw [hk] at e
    injection e with e
    injection e with _ e
    exact hT e
theorem re_ty {W : World} {v : Value} {E : List Ev} (h : Re W v E) : ∀ k, v.ownBlock = some k → tyB 63 W k := by
  intro k hk
  rcases h.2 with ⟨rfl, _⟩ | ⟨b, cap, cur, rfl, _, h3, _⟩
  · cases hk
  · simp only [Value.ownBlock, Option.some.injEq] at hk
    subst hk
    exact ⟨_, _, h3⟩

end Go.Proofs.Ytkigadnkclkopaa

set_option linter.unusedVariables false
set_option linter.unusedSimpArgs false
namespace Go.Proofs.Ytkigadnkclkopaa
open Go.RowKit

end Go.Proofs.Ytkigadnkclkopaa

set_option linter.unusedVariables false
set_option linter.unusedSimpArgs false
namespace Go.Proofs.Ytkigadnkclkopaa
open Go.RowKit

/-! Trees in rows of their own; events as a reader sees them; what reading a node makes (none of a walk). -/
def nc (n : Nd) (s : Value) : List Value := [.int .u8 n.k, .int .u8 n.d.k, .string n.d.t, .int .i64 n.d.a, .int .i64 n.d.l, .int .i64 n.d.c, .int .i64 n.d.f, s]
theorem nc_len (x : Nd × Value) : (nc x.1 x.2).length = 8 := rfl
def ncs (c : List Nd) (vs : List Value) : List Value := flat (fun x : Nd × Value => nc x.1 x.2) (c.zip vs)
theorem ncs_len (c : List Nd) (vs : List Value) (h : vs.length = c.length) : (ncs c vs).length = c.length * 8 := by
  unfold ncs
  rw [flat_len _ 8 nc_len, List.length_zip, h, Nat.min_self]
theorem ncs_app (c : List Nd) (vs : List Value) (h : vs.length = c.length) (n : Nd) (s : Value) : ncs (c ++ [n]) (vs ++ [s]) = ncs c vs ++ nc n s := by
  unfold ncs
  rw [List.zip_append h.symm, flat_append]
  simp [flat]
theorem ncs_at {c : List Nd} {vs : List Value} {j i : Nat} {n : Nd} {s u : Value} (hn : c[j]? = some n) (hs : vs[j]? = some s) (hu : (nc n s)[i]? = some u) : (ncs c vs)[j * 8 + i]? = some u := by
  refine flat_at _ 8 nc_len _ j i (n, s) u ?_ hu
  rw [List.getElem?_zip_eq_some]
  exact ⟨hn, hs⟩
/-- A row of nodes of its own. -/
def RN (W : World) (sv : Value) (c : List Nd) (vs : List Value) : Prop := vs.length = c.length ∧ W.ownsRow 0 32 8 sv c.length (ncs c vs)
theorem RN.shape {W : World} {sv : Value} {c : List Nd} {vs : List Value} (h : RN W sv c vs) : ∃ p cap, sv = .slice p c.length cap ∧ c.length ≤ cap ∧ cap ≤ maxLen := row_shape h.2
theorem RN.kp {S : Nat → Prop} {W W' : World} {sv : Value} {c : List Nd} {vs : List Value} (h : RN W sv c vs) (hk : Kp S W W') (hS : ∀ k, sv.ownBlock = some k → ¬ S k) : RN W' sv c vs := ⟨h.1, hk.row h.2 hS⟩
theorem RN.lt {W : World} {sv : Value} {c : List Nd} {vs : List Value} (h : RN W sv c vs) : ∀ k, sv.ownBlock = some k → k < W.heap.size := by
  intro k hk
  rcases h.2.2 with ⟨rfl, _⟩ | ⟨b, cap, cur, rfl, _, h3, _⟩
  · cases hk
  · simp only [Value.ownBlock, Option.some.injEq] at hk
    subst hk
    exact blk_lt h3
theorem rn_nil (W : World) : RN W (.slice none 0 0) [] [] := ⟨rfl, World.ownsRow_nil W 0 32 8⟩
mutual
/-- The row of a node's kids, and of theirs: all their blocks are of O. -/
def TN (O : Nat → Prop) (W : World) : Nd → Value → Prop
  | .mk _ _ c, sv => ∃ vs, RN W sv c vs ∧ (∀ k, sv.ownBlock = some k → O k) ∧ TL O W c vs
def TL (O : Nat → Prop) (W : World) : List Nd → List Value → Prop
  | [], vs => vs = []
  | n :: r, vs => ∃ x vr, vs = x :: vr ∧ TN O W n x ∧ TL O W r vr
end
theorem tn_nil (O : Nat → Prop) (W : World) (k : Int) (d : Tv) : TN O W (.mk k d []) (.slice none 0 0) := by
  rw [TN]
  exact ⟨[], rn_nil W, (fun k hk => by cases hk), by rw [TL]⟩
mutual
theorem TN.kp {O S : Nat → Prop} {W W' : World} (hk : Kp S W W') (hS : ∀ k, O k → ¬ S k) : ∀ (n : Nd) (x : Value), TN O W n x → TN O W' n x
  | .mk _ _ c, x, h => by
    rw [TN] at h ⊢
    obtain ⟨vs, h1, h2, h3⟩ := h
    exact ⟨vs, h1.kp hk (fun k e => hS k (h2 k e)), h2, TL.kp hk hS c vs h3⟩
theorem TL.kp {O S : Nat → Prop} {W W' : World} (hk : Kp S W W') (hS : ∀ k, O k → ¬ S k) : ∀ (c : List Nd) (vs : List Value), TL O W c vs → TL O W' c vs
  | [], vs, h => by rw [TL] at h ⊢; exact h
  | n :: r, vs, h => by
    rw [TL] at h ⊢
    obtain ⟨x, vr, h1, h2, h3⟩ := h
    exact ⟨x, vr, h1, TN.kp hk hS n x h2, TL.kp hk hS r vr h3⟩
end
mutual
theorem TN.sub {O O' : Nat → Prop} {W : World} (hS : ∀ k, k < W.heap.size → O k → O' k) : ∀ (n : Nd) (x : Value), TN O W n x → TN O' W n x
  | .mk _ _ c, x, h => by
    rw [TN] at h ⊢
    obtain ⟨vs, h1, h2, h3⟩ := h
    exact ⟨vs, h1, fun k e => hS k (h1.lt k e) (h2 k e), TL.sub hS c vs h3⟩
theorem TL.sub {O O' : Nat → Prop} {W : World} (hS : ∀ k, k < W.heap.size → O k → O' k) : ∀ (c : List Nd) (vs : List Value), TL O W c vs → TL O' W c vs
  | [], vs, h => by rw [TL] at h ⊢; exact h
  | n :: r, vs, h => by
    rw [TL] at h ⊢
    obtain ⟨x, vr, h1, h2, h3⟩ := h
    exact ⟨x, vr, h1, TN.sub hS n x h2, TL.sub hS r vr h3⟩
end
theorem TL.len {O : Nat → Prop} {W : World} : ∀ {c : List Nd} {vs : List Value}, TL O W c vs → vs.length = c.length
  | [], vs, h => by rw [TL] at h; rw [h]; rfl
  | n :: r, vs, h => by
    rw [TL] at h
    obtain ⟨x, vr, rfl, _, h3⟩ := h
    simp [TL.len h3]
theorem TL.app {O : Nat → Prop} {W : World} {n : Nd} {x : Value} (hn : TN O W n x) : ∀ {c : List Nd} {vs : List Value}, TL O W c vs → TL O W (c ++ [n]) (vs ++ [x])
  | [], vs, h => by
    rw [TL] at h
    subst h
    rw [List.nil_append, List.nil_append, TL]
    exact ⟨x, [], rfl, hn, by rw [TL]⟩
  | m :: r, vs, h => by
    rw [TL] at h
    obtain ⟨y, vr, rfl, h2, h3⟩ := h
    rw [List.cons_append, List.cons_append, TL]
    exact ⟨y, vr ++ [x], rfl, h2, TL.app hn h3⟩
theorem TL.at {O : Nat → Prop} {W : World} : ∀ {c : List Nd} {vs : List Value} {j : Nat} {n : Nd}, TL O W c vs → c[j]? = some n → ∃ x, vs[j]? = some x ∧ TN O W n x
  | [], vs, j, n, h, hj => by simp at hj
  | m :: r, vs, 0, n, h, hj => by
    rw [TL] at h
    obtain ⟨y, vr, rfl, h2, h3⟩ := h
    simp at hj
    subst hj
    exact ⟨y, rfl, h2⟩
  | m :: r, vs, j + 1, n, h, hj => by
    rw [TL] at h
    obtain ⟨y, vr, rfl, h2, h3⟩ := h
    obtain ⟨x, a, b⟩ := TL.at h3 (j := j) (n := n) (by simpa using hj)
    exact ⟨x, by simpa using a, b⟩
theorem RN.cell {W : World} {sv : Value} {c : List Nd} {vs : List Value} (h : RN W sv c vs) {g n cap : Nat} (hv : sv = .slice (some ⟨g, 0, none⟩) n cap) {j i : Nat} {m : Nd} {s u : Value} (hn : c[j]? = some m) (hs : vs[j]? = some s) (hu : (nc m s)[i]? = some u) : W.cell? ⟨g, j * 8 + i, none⟩ = some u := by
  have := h.2.cells (g := g) (n := c.length) (by rw [hv]; rfl) (j * 8 + i) u (ncs_at hn hs hu)
  rw [Addr.add_lit, Nat.zero_add] at this
  exact this
theorem Nd.eta (n : Nd) : n = .mk n.k n.d n.c := by obtain ⟨k, d, c⟩ := n; rfl
/-- Read, a tree of its own is a tree. -/
theorem TN.see {O : Nat → Prop} {W : World} (n : Nd) : ∀ (x : Value), TN O W n x → Nv W (ndv n.k n.d x) n := by
  obtain ⟨s, hs⟩ : ∃ s, nsz n = s := ⟨_, rfl⟩
  induction s using Nat.strongRecOn generalizing n with
  | ind s ih =>
    intro x h
    obtain ⟨k, d, c⟩ := n
    rw [TN] at h
    obtain ⟨vs, h1, _, h3⟩ := h
    have hr := h1.2.2
    rcases hr with ⟨e1, e2⟩ | ⟨b, cap, cur, e1, _, e3, e4, e5, _⟩
    · have : c = [] := List.eq_nil_of_length_eq_zero e2
      subst this
      subst e1
      exact ⟨none, 0, rfl, Nat.le_refl _, Nat.zero_le _, (fun _ => rfl), (fun a ha => by cases ha)⟩
    · refine ⟨some ⟨b, 0, none⟩, cap, by rw [e1]; rfl, e4, e5, (fun h => by cases h), fun a ha => ?_⟩
      cases ha
      refine .inr ⟨b, 0, rfl, hl_of (fun j m hj => ?_)⟩
      obtain ⟨y, hy, hm⟩ := TL.at h3 hj
      obtain ⟨ao, cp, q0, q1, q2, q3, q4⟩ := ih (nsz m) (by rw [← hs]; exact nsz_kid (List.mem_of_getElem? hj)) m rfl y hm
      have q0' : y = .slice ao m.c.length cp := by
        simp only [ndv, Value.agg.injEq] at q0
        have := congrArg (fun a : Array Value => a[7]?) q0
        simpa using this
      subst q0'
      have hc : ∀ i u, (nc m (.slice ao m.c.length cp))[i]? = some u → W.cell? ⟨b, 0 + j * 8 + i, none⟩ = some u := fun i u hu => by
        rw [Nat.zero_add]
        exact h1.cell e1 hj hy hu
      have hc0 := hc 0 _ rfl
      obtain ⟨mk', md, mc⟩ := m
      rw [HN]
      exact ⟨⟨hc0, hc 1 _ rfl, hc 2 _ rfl, hc 3 _ rfl, hc 4 _ rfl, hc 5 _ rfl, hc 6 _ rfl⟩, ao, cp, hc 7 _ rfl, q1, q2, q3, q4⟩

/-- The events that a slice holds. -/
def Le (w : World) (ao : Option Addr) (l : List Ev) : Prop := ∀ j d, l[j]? = some d → ∃ b off, ao = some ⟨b, off, none⟩ ∧
  w.cell? ⟨b, off + j * 8, none⟩ = some (.int .u8 d.k) ∧ w.cell? ⟨b, off + j * 8 + 1, none⟩ = some (.int .u8 d.n) ∧ w.cell? ⟨b, off + j * 8 + 2, none⟩ = some (.int .u8 d.d.k) ∧ w.cell? ⟨b, off + j * 8 + 3, none⟩ = some (.string d.d.t) ∧ w.cell? ⟨b, off + j * 8 + 4, none⟩ = some (.int .i64 d.d.a) ∧ w.cell? ⟨b, off + j * 8 + 5, none⟩ = some (.int .i64 d.d.l) ∧ w.cell? ⟨b, off + j * 8 + 6, none⟩ = some (.int .i64 d.d.c) ∧ w.cell? ⟨b, off + j * 8 + 7, none⟩ = some (.int .i64 d.d.f)
theorem Le.kp {S : Nat → Prop} {w w' : World} {ao : Option Addr} {l : List Ev} (h : Le w ao l) (hb : Kp S w w') (hS : ∀ a, ao = some a → ¬ S a.block) : Le w' ao l := by
  intro j a ha
  obtain ⟨b, off, h1, c0, c1, c2, c3, c4, c5, c6, c7⟩ := h j a ha
  have hlt := World.block_lt_of_cell? _ _ c0
  have e : w'.heap[b]? = w.heap[b]? := hb.block b hlt (hS _ h1)
  exact ⟨b, off, h1, (World.cell?_of_block (a := ⟨b, _, none⟩) e).trans c0, (World.cell?_of_block (a := ⟨b, _, none⟩) e).trans c1, (World.cell?_of_block (a := ⟨b, _, none⟩) e).trans c2, (World.cell?_of_block (a := ⟨b, _, none⟩) e).trans c3, (World.cell?_of_block (a := ⟨b, _, none⟩) e).trans c4, (World.cell?_of_block (a := ⟨b, _, none⟩) e).trans c5, (World.cell?_of_block (a := ⟨b, _, none⟩) e).trans c6, (World.cell?_of_block (a := ⟨b, _, none⟩) e).trans c7⟩
theorem Le.below {w w' : World} {ao : Option Addr} {l : List Ev} (h : Le w ao l) (hb : Below w.heap.size w w') : Le w' ao l := h.kp (Kp.of_below (S := fun _ => False) hb) (fun _ _ h => h)
theorem Le.row {w : World} {v : Value} {l : List Ev} (h : Re w v l) : ∃ ao cap, v = .slice ao l.length cap ∧ Le w ao l ∧ (ao = none ∨ ∃ g, ao = some ⟨g, 0, none⟩ ∧ g < w.heap.size) ∧ l.length ≤ cap ∧ cap ≤ maxLen := by
  rcases h.2 with ⟨rfl, h0⟩ | ⟨g, cap, cur, rfl, hb, hg, h3, h4, h5, h6⟩
  · have : l = [] := List.eq_nil_of_length_eq_zero h0
    subst this
    exact ⟨none, 0, rfl, fun j d h => by simp at h, .inl rfl, Nat.zero_le _, Nat.zero_le _⟩
  · refine ⟨some ⟨g, 0, none⟩, cap, rfl, ?_, .inr ⟨g, rfl, blk_lt hg⟩, h3, h4⟩
    intro j d hj
    have hc : ∀ (i : Nat) (u : Value), d.cs[i]? = some u → w.cell? ⟨g, 0 + j * 8 + i, none⟩ = some u := fun i u hu => by
      have := World.ownsRow.cells h (g := g) rfl _ u (flat_at Ev.cs 8 Ev.cs_len l j i d _ hj hu)
      rw [Addr.add_lit, Nat.zero_add] at this
      rw [Nat.zero_add]
      exact this
    exact ⟨g, 0, rfl, hc 0 _ rfl, hc 1 _ rfl, hc 2 _ rfl, hc 3 _ rfl, hc 4 _ rfl, hc 5 _ rfl, hc 6 _ rfl, hc 7 _ rfl⟩
theorem size_ev (w : World) : (sizeOf 63).run Try.prog w = .ok 8 w := by rfl
/-- A slice without its first event. -/
theorem Le.tail {w : World} {ao : Option Addr} {e : Ev} {r : List Ev} {cap : Nat} (h : Le w ao (e :: r)) (hc : r.length + 1 ≤ cap) (hm : cap ≤ maxLen) :
    ∃ b off ao2 cap2, ao = some ⟨b, off, none⟩ ∧ b < w.heap.size ∧ (w.cell? ⟨b, off, none⟩ = some (.int .u8 e.k) ∧ w.cell? ⟨b, off + 1, none⟩ = some (.int .u8 e.n) ∧ w.cell? ⟨b, off + 2, none⟩ = some (.int .u8 e.d.k) ∧ w.cell? ⟨b, off + 3, none⟩ = some (.string e.d.t) ∧ w.cell? ⟨b, off + 4, none⟩ = some (.int .i64 e.d.a) ∧ w.cell? ⟨b, off + 5, none⟩ = some (.int .i64 e.d.l) ∧ w.cell? ⟨b, off + 6, none⟩ = some (.int .i64 e.d.c) ∧ w.cell? ⟨b, off + 7, none⟩ = some (.int .i64 e.d.f)) ∧
      (∀ W, (Instr.slice 49 (.slice (some ⟨b, off, none⟩) (r.length + 1) cap) (some (.int .i64 1)) none none).run Try.prog W = .ok (.slice ao2 r.length cap2) W) ∧ r.length ≤ cap2 ∧ cap2 ≤ maxLen ∧ Le w ao2 r := by
  obtain ⟨b, off, h1, c0, c1, c2, c3, c4, c5, c6, c7⟩ := h 0 e rfl
  have hlt := World.block_lt_of_cell? _ _ c0
  rw [Nat.zero_mul, Nat.add_zero] at c0 c1 c2 c3 c4 c5 c6 c7
  have run : ∀ W, (Instr.slice 49 (.slice (some ⟨b, off, none⟩) (r.length + 1) cap) (some (.int .i64 1)) none none).run Try.prog W = .ok (sliced (some ⟨b, off, none⟩) 1 (r.length + 1) cap 8) W := fun W => by
    rw [run_slice_l W 49 _ _ _ (by kernel_rfl) .i64 1 (by omega) (by omega)]
    have : Try.prog.elem 49 = 63 := by kernel_rfl
    rw [this, size_ev]
    rfl
  subst h1
  by_cases hz : cap = 1
  · have hr : r = [] := List.eq_nil_of_length_eq_zero (by omega)
    subst hr
    subst hz
    refine ⟨b, off, some ⟨b, off, none⟩, 0, rfl, hlt, ⟨c0, c1, c2, c3, c4, c5, c6, c7⟩, fun W => (run W).trans ?_, Nat.le_refl _, Nat.zero_le _, fun j d hj => by simp at hj⟩
    simp [sliced]
  · refine ⟨b, off, some ⟨b, off + 8, none⟩, cap - 1, rfl, hlt, ⟨c0, c1, c2, c3, c4, c5, c6, c7⟩, fun W => (run W).trans ?_, by omega, by omega, fun j d hj => ?_⟩
    · simp [sliced, hz, Addr.add_lit]
    · obtain ⟨b', off', e', x0, x1, x2, x3, x4, x5, x6, x7⟩ := h (j + 1) d (by simpa using hj)
      simp only [Option.some.injEq, Addr.mk.injEq] at e'
      obtain ⟨rfl, rfl, _⟩ := e'
      rw [show off + (j + 1) * 8 = off + 8 + j * 8 by omega] at x0 x1 x2 x3 x4 x5 x6 x7
      exact ⟨b, off + 8, rfl, x0, x1, x2, x3, x4, x5, x6, x7⟩

/-! What reading makes, by the document's steps. -/
def aft (r : List Ev) (n : Nd) : List (Int × List Nd) → Option Nd
  | [] => if n.k = 0 then none else if r = [] then some n else none
  | x :: S => bld r (putN n (x :: S))
def Aft (a : Nat) (l : List Ev) (n : Nd) (r : List Ev) : Prop := ∀ S, S.length = a → bld l S = aft r n S
def Bad (a : Nat) (l : List Ev) : Prop := ∀ S, S.length = a → bld l S = none
theorem leaf_good {a : Nat} {e : Ev} {r : List Ev} (h : e.k = kof e.d) : Aft a (e :: r) (.mk 0 e.d []) r := by
  intro S _
  have h1 : ¬ e.k = 1 := by rw [h]; unfold kof; split <;> decide
  have h3 : ¬ e.k = 3 := by rw [h]; unfold kof; split <;> decide
  have hc : (e.k = 2 ∧ cm e.d = false) ∨ (e.k = 4 ∧ cm e.d = true) := by
    rw [h]
    unfold kof
    cases hm : cm e.d
    · exact .inl ⟨by simp, rfl⟩
    · exact .inr ⟨by simp, rfl⟩
  simp only [bld]
  rw [if_neg h1, if_neg h3, if_pos hc]
  cases S with
  | nil => simp [aft, Nd.k]
  | cons x S => obtain ⟨k, c⟩ := x; simp [aft, putN]
theorem leaf_bad {a : Nat} {e : Ev} {r : List Ev} (h1 : e.k ≠ 1) (h : e.k ≠ kof e.d) (h3 : e.k = 3 → a = 0) : Bad a (e :: r) := by
  intro S hS
  simp only [bld]
  rw [if_neg h1]
  by_cases h3' : e.k = 3
  · rw [if_pos h3']
    have := h3 h3'
    have : S = [] := List.eq_nil_of_length_eq_zero (by omega)
    subst this
    rfl
  · rw [if_neg h3', if_neg]
    rintro (⟨x, y⟩ | ⟨x, y⟩)
    · exact h (by rw [x]; unfold kof; rw [y]; rfl)
    · exact h (by rw [x]; unfold kof; rw [y]; rfl)
theorem open_bad {a : Nat} {e : Ev} {r : List Ev} (h1 : e.k = 1) (h : e.n = 0 ∨ 1000 ≤ a) : Bad a (e :: r) := by
  intro S hS
  simp only [bld]
  rw [if_pos h1, if_pos (by rw [hS]; exact h)]
/-- Within a node: what came so far. -/
def Lnk (a : Nat) (l : List Ev) (k : Int) (c : List Nd) (r : List Ev) : Prop := ∀ S, S.length = a → bld l S = bld r ((k, c) :: S)
theorem open_lnk {a : Nat} {e : Ev} {r : List Ev} (h1 : e.k = 1) (h : ¬ (e.n = 0 ∨ 1000 ≤ a)) : Lnk a (e :: r) e.n [] r := by
  intro S hS
  simp only [bld]
  rw [if_pos h1, if_neg (by rw [hS]; exact h)]
theorem Lnk.kid {a : Nat} {l : List Ev} {k : Int} {c : List Nd} {r r' : List Ev} {n : Nd} (h : Lnk a l k c r) (hn : Aft (a + 1) r n r') : Lnk a l k (c ++ [n]) r' := by
  intro S hS
  rw [h S hS, hn ((k, c) :: S) (by simp [hS])]
  rfl
theorem Lnk.bad {a : Nat} {l : List Ev} {k : Int} {c : List Nd} {r : List Ev} (h : Lnk a l k c r) (hn : Bad (a + 1) r) : Bad a l := by
  intro S hS
  rw [h S hS]
  exact hn _ (by simp [hS])
theorem Lnk.nil {a : Nat} {l : List Ev} {k : Int} {c : List Nd} (h : Lnk a l k c []) : Bad a l := by
  intro S hS
  rw [h S hS]
  rfl
theorem Lnk.other {a : Nat} {l : List Ev} {k : Int} {c : List Nd} {e : Ev} {r : List Ev} (h : Lnk a l k c (e :: r)) (h3 : e.k = 3) (hn : e.n ≠ k) : Bad a l := by
  intro S hS
  rw [h S hS]
  simp only [bld]
  rw [if_neg (by rw [h3]; decide), if_pos h3]
  rw [if_neg (fun e => hn e.symm)]
theorem Lnk.shut {a : Nat} {l : List Ev} {k : Int} {c : List Nd} {e : Ev} {r : List Ev} (h : Lnk a l k c (e :: r)) (h3 : e.k = 3) (hn : e.n = k) (hk : k ≠ 0) : Aft a l (.mk k tv0 c) r := by
  intro S hS
  rw [h S hS]
  simp only [bld]
  rw [if_neg (by rw [h3]; decide), if_pos h3]
  rw [if_pos hn.symm]
  cases S with
  | nil => simp [aft, Nd.k, hk]
  | cons x S => obtain ⟨k', c'⟩ := x; simp [aft, putN]

end Go.Proofs.Ytkigadnkclkopaa
