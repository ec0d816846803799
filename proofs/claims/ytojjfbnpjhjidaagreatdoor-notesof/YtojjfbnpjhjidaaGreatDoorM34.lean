import Derived.Lib.ConvBytes
import Derived.BigQuiet
import Derived.Test.YtojjfbnpjhjidaaGreatDoorM33
set_option linter.unusedVariables false
set_option linter.unusedSimpArgs false
namespace Go.Proofs.YtojjfbnpjhjidaaGreatDoor
open Go.RowKit
def AlP (W : World) (E x y z : Int) (L : List Tv) (e : Ending) (w' : World) : Prop := ∃ v, e = .returned (.tuple #[v, .int .i64 E, .agg #[.int .i64 x, .int .i64 y, .int .i64 z]]) ∧ Rt W.heap.size w' v L ∧ Below W.heap.size W w'
abbrev plc (x y z : Int) : Obj := .cells #[.int .i64 x, .int .i64 y, .int .i64 z] 26
abbrev ftb (c x y z : Int) : Obj := .cells #[.int .i64 c, .int .i64 x, .int .i64 y, .int .i64 z] 28
abbrev ftv (c x y z : Int) : Value := .agg #[.int .i64 c, .int .i64 x, .int .i64 y, .int .i64 z]
def OdP (W : World) (E x y z : Int) (R : List Rmk) (e : Ending) (w' : World) : Prop := ∃ v, e = .returned (.tuple #[v, ftv E x y z]) ∧ Rm W.heap.size w' v R ∧ Below W.heap.size W w'
theorem ft_fill {W : World} {g : Nat} {a b c d : Int} (h : W.heap[g]? = some (ftb a b c d)) (E x y z : Int) : ((((W.setCell ⟨g, 0, none⟩ (.int .i64 E)).setCell ⟨g, 1, none⟩ (.int .i64 x)).setCell ⟨g, 2, none⟩ (.int .i64 y)).setCell ⟨g, 3, none⟩ (.int .i64 z)).heap[g]? = some (ftb E x y z) := by
  have h1 := blk_set (blk_set (blk_set (blk_set h 0 (.int .i64 E)) 1 (.int .i64 x)) 2 (.int .i64 y)) 3 (.int .i64 z)
  simpa using h1
theorem ft_below {W V : World} {g : Nat} (h : Below W.heap.size W V) (hg : W.heap.size ≤ g) (a b c d : Value) : Below W.heap.size W ((((V.setCell ⟨g, 0, none⟩ a).setCell ⟨g, 1, none⟩ b).setCell ⟨g, 2, none⟩ c).setCell ⟨g, 3, none⟩ d) :=
  (((h.setCell (p := ⟨g, 0, none⟩) hg _).setCell (p := ⟨g, 1, none⟩) hg _).setCell (p := ⟨g, 2, none⟩) hg _).setCell (p := ⟨g, 3, none⟩) hg _
theorem ft_cells {W : World} {g : Nat} {c x y z : Int} (h : W.heap[g]? = some (ftb c x y z)) : W.cell? ⟨g, 0, none⟩ = some (.int .i64 c) ∧ W.cell? ⟨g, 1, none⟩ = some (.int .i64 x) ∧ W.cell? ⟨g, 2, none⟩ = some (.int .i64 y) ∧ W.cell? ⟨g, 3, none⟩ = some (.int .i64 z) :=
  ⟨blk_cell h rfl, blk_cell h rfl, blk_cell h rfl, blk_cell h rfl⟩
theorem rof_err {s : ByteArray} {L : List Tv} {E x y z : Int} {W : World} (HS : Hid (∀ V, Calls Tryz.prog 12 #[.string s] V (AlP V E x y z L))) (hE : E ≠ 0) :
    Calls Tryz.prog 6 #[.string s] W (OdP W E x y z []) := by
  have q1 : (E == 0) = false := by simpa using hE
  have hb0 : Below W.heap.size W (W.alloc (ftb 0 0 0 0)) := (Below.refl _ _).alloc (Nat.le_refl _) _
  have k0 : (W.alloc (ftb 0 0 0 0)).heap[W.heap.size]? = some (ftb 0 0 0 0) := new_at _ _
  have H0 := show Hid _ from And.intro hb0 k0
  clear hb0 k0
  go_enter Tryz.func6, Tryz.ntmps6
  go_wp2_with fail
  refine (HS.out _).mono ?_
  rintro e w1 ⟨v, rfl, hv, hb1⟩
  obtain ⟨V1, eV1⟩ : ∃ V1, w1.alloc (plc x y z) = V1 := ⟨_, rfl⟩
  obtain ⟨g1, hg1⟩ : ∃ g1, w1.heap.size = g1 := ⟨_, rfl⟩
  obtain ⟨g0, hg0⟩ : ∃ g0, W.heap.size = g0 := ⟨_, rfl⟩
  have hx : Below w1.heap.size w1 V1 := by rw [← eV1]; exact (Below.refl _ _).alloc (Nat.le_refl _) _
  have kf : V1.heap[g0]? = some (ftb 0 0 0 0) := by rw [← hg0]; exact blk_below (blk_below H0.out.2 hb1) hx
  have kp : V1.heap[g1]? = some (plc x y z) := by rw [← eV1, ← hg1]; exact new_at _ _
  have p0 : V1.cell? ⟨g1, 0, none⟩ = some (.int .i64 x) := blk_cell kp rfl
  have p1 : V1.cell? ⟨g1, 1, none⟩ = some (.int .i64 y) := blk_cell kp rfl
  have p2 : V1.cell? ⟨g1, 2, none⟩ = some (.int .i64 z) := blk_cell kp rfl
  obtain ⟨f0, f1, f2, f3⟩ := ft_cells kf
  have z0 : ∀ j, V1.frozen? ⟨g0, j, none⟩ = false := fun j => blk_frozen kf
  have HB : Hid (Below W.heap.size W V1 ∧ V1.heap[g0]? = some (ftb 0 0 0 0)) := ⟨by have h1 := H0.out.1.trans (hb1.mono H0.out.1.size); exact h1.trans (hx.mono h1.size), kf⟩
  clear hv hb1 hx kf kp
  go_wp2_with fail
  try rw [eV1]
  try rw [hg1]
  try rw [hg0]
  clear eV1 hg1
  go_region
  all_goals (go_wp2_with fail)
  all_goals (
    have kX := blk_below (ft_fill HB.out.2 E x y z) (Below.refl _ _).drew
    obtain ⟨m0, m1, m2, m3⟩ := ft_cells kX
    refine bodyPost_ret (v := .tuple #[.slice none 0 0, ftv E x y z]) (by simp [results, Tryz.f6, go_sem, m0, m1, m2, m3]) rfl ?_
    exact ⟨_, rfl, rm_nil _ _, (ft_below HB.out.1 (by omega) _ _ _ _).drew⟩)
theorem rt_ne {A B : Nat} {w : World} {v u : Value} {l : List Tv} {m : List Rmk} (h : Rt A w v l) (k : Rm B w u m) : ∀ j, v.ownBlock = some j → ¬ some j = u.ownBlock := by
  intro j hj e
  rcases h.2 with ⟨rfl, h0⟩ | ⟨b, cap, cur, rfl, hb, h3, _⟩
  · cases hj
  · simp only [Value.ownBlock, Option.some.injEq] at hj
    subst hj
    exact k.ne h3 (by decide) b e.symm rfl
structure OI (W : World) (g : Nat) (v : Value) (L : List Tv) (j n : Nat) (u : Value) (wr : World) : Prop where
  bel : Below W.heap.size W wr
  ft : wr.heap[g]? = some (ftb 0 0 0 0)
  rt : Rt W.heap.size wr v L
  row : ∃ m, Rm W.heap.size wr u m ∧ m ++ rmk (L.drop j) j n = rmk L 0 0
  le : n ≤ j
theorem OI.lt {W : World} {g : Nat} {p : Option Addr} {k c : Nat} {L : List Tv} {j n : Nat} {u : Value} {wr : World} (h : OI W g (.slice p k c) L j n u wr) : Lt wr p L := by
  obtain ⟨a, c, e, h1, _⟩ := Lt.row h.rt
  cases e
  exact h1
theorem rt_lw {A B : Nat} {w : World} {v : Value} {l : List Tv} (h : Rt B w v l) (hA : A ≤ B) : Rt A w v l := by
  refine ⟨h.1, ?_⟩
  rcases h.2 with h1 | ⟨g, cap, cur, rfl, h2, h3, h4⟩
  · exact .inl h1
  · exact .inr ⟨g, cap, cur, rfl, Nat.le_trans hA h2, h3, h4⟩
abbrev rmB (n : Int) (t : ByteArray) (b : Bool) : Obj := .cells #[.int .i64 n, .string t, .bool b] 38
theorem OI.skip {W : World} {g : Nat} {v : Value} {L : List Tv} {j n : Nat} {u : Value} {wr V : World} (h : OI W g v L j n u wr) {t : Tv} (ht : L[j]? = some t) (hn : ntB t = false) (hb : Below wr.heap.size wr V) : OI W g v L (j + 1) (n + 1) u V := by
  obtain ⟨m, h1, h2⟩ := h.row
  rw [rmk_drop ht, hn] at h2
  exact ⟨h.bel.trans (hb.mono h.bel.size), blk_below h.ft hb, h.rt.below hb, ⟨m, h1.below hb, h2⟩, by have := h.le; omega⟩
theorem OI.on {W : World} {g : Nat} {v : Value} {L : List Tv} {j n : Nat} {u : Value} {wr V : World} (h : OI W g v L j n u wr) (hb : Below wr.heap.size wr V) : OI W g v L j n u V := by
  obtain ⟨m, h1, h2⟩ := h.row
  exact ⟨h.bel.trans (hb.mono h.bel.size), blk_below h.ft hb, h.rt.below hb, ⟨m, h1.below hb, h2⟩, h.le⟩
theorem OI.add {W : World} {g : Nat} {v : Value} {L : List Tv} {j n : Nat} {u u' : Value} {wr V : World} (h : OI W g v L j n u wr) {t : Tv} (ht : L[j]? = some t) (hn : ntB t = true) {m : List Rmk} (hm : m ++ rmk (L.drop j) j n = rmk L 0 0) (hu : Rm W.heap.size wr u m) (hr : Rm W.heap.size V u' (m ++ [⟨n, t.t, bhB j t⟩])) (hg : wr.grownBy V u.ownBlock) (hb : Below W.heap.size wr V) : OI W g v L (j + 1) n u' V := by
  have hk := Kp.of_grown hg
  refine ⟨h.bel.trans hb, hk.blk h.ft (fun e => hu.ne h.ft (by decide) g e.symm rfl), h.rt.kp hk (rt_ne h.rt hu), ⟨_, hr, ?_⟩, by have := h.le; omega⟩
  rw [rmk_drop ht, hn] at hm
  simpa using hm
theorem OI.fin {W : World} {g : Nat} {v : Value} {L : List Tv} {n : Nat} {u : Value} {wr : World} (h : OI W g v L L.length n u wr) (hg : W.heap.size = g) {V : World} (hV : (((wr.setCell ⟨g, 0, none⟩ (.int .i64 0)).setCell ⟨g, 1, none⟩ (.int .i64 0)).setCell ⟨g, 2, none⟩ (.int .i64 0)).setCell ⟨g, 3, none⟩ (.int .i64 0) = V := by rfl) : V.heap[g]? = some (ftb 0 0 0 0) ∧ Rm W.heap.size V u (rmk L 0 0) ∧ Below W.heap.size W V := by
  subst hV
  obtain ⟨m, h1, h2⟩ := h.row
  rw [List.drop_length] at h2
  have h3 : m = rmk L 0 0 := by rw [← h2]; show m = m ++ []; rw [List.append_nil]
  rw [← h3]
  refine ⟨ft_fill h.ft 0 0 0 0, h1.kp ((((Kp.set _ g 0 _).step (Kp.set _ g 1 _) (fun _ _ h => h)).step (Kp.set _ g 2 _) (fun _ _ h => h)).step (Kp.set _ g 3 _) (fun _ _ h => h)) (fun k hk e => h1.ne h.ft (by decide) k hk e), ft_below h.bel (by omega) _ _ _ _⟩
set_option maxHeartbeats 2000000 in
set_option maxRecDepth 100000 in
theorem rof_good {s : ByteArray} {L : List Tv} {x y z : Int} {W : World} (HS : Hid (∀ V, Calls Tryz.prog 12 #[.string s] V (AlP V 0 x y z L))) (hl : L.length ≤ 100000000) :
    Calls Tryz.prog 6 #[.string s] W (OdP W 0 0 0 0 (rmk L 0 0)) := by
  have hb0 : Below W.heap.size W (W.alloc (ftb 0 0 0 0)) := (Below.refl _ _).alloc (Nat.le_refl _) _
  have k0 : (W.alloc (ftb 0 0 0 0)).heap[W.heap.size]? = some (ftb 0 0 0 0) := new_at _ _
  have H0 := show Hid _ from And.intro hb0 k0
  have HN : Hid (∀ t V, Calls Tryz.prog 13 #[.agg #[.int .u8 t.k, .string t.t, .int .i64 t.a, .int .i64 t.l, .int .i64 t.c, .int .i64 t.f]] V fun r w' => r = .returned (.bool (ntB t)) ∧ Below V.heap.size V w') := risn_any
  have HBh : Hid (∀ V ao c j t, Lt V ao L → L[j]? = some t → Calls Tryz.prog 14 #[.slice ao L.length c, .int .i64 (j : Nat)] V fun r w' => r = .returned (.bool (bhB j t)) ∧ Below V.heap.size V w') := fun V ao c j t h1 h2 => rbeh_any h2 h1 (by omega)
  clear hb0 k0
  go_enter Tryz.func6, Tryz.ntmps6
  go_wp2_with fail
  refine (HS.out _).mono ?_
  rintro e w1 ⟨v, rfl, hv, hb1⟩
  obtain ⟨ao, cap, rfl, hL, -, -, -⟩ := Lt.row hv
  obtain ⟨V1, eV1⟩ : ∃ V1, w1.alloc (plc x y z) = V1 := ⟨_, rfl⟩
  obtain ⟨g0, hg0⟩ : ∃ g0, W.heap.size = g0 := ⟨_, rfl⟩
  have hx : Below w1.heap.size w1 V1 := by rw [← eV1]; exact (Below.refl _ _).alloc (Nat.le_refl _) _
  have HB : Hid (OI W g0 (.slice ao L.length cap) L 0 0 (.slice none 0 0) V1) := by
    have kf : V1.heap[g0]? = some (ftb 0 0 0 0) := by rw [← hg0]; exact blk_below (blk_below H0.out.2 hb1) hx
    have h1 := H0.out.1.trans (hb1.mono H0.out.1.size)
    exact ⟨h1.trans (hx.mono h1.size), kf, (rt_lw hv H0.out.1.size).below hx, ⟨[], rm_nil _ _, rfl⟩, Nat.le_refl _⟩
  clear hv hb1 hx hL H0
  go_wp2_with fail
  try rw [eV1]
  try rw [hg0]
  clear eV1
  go_loopw [7, 8, 9] (fun u c i wr => ∃ j n : Nat, j ≤ L.length ∧ i = .int .i64 j ∧ c = .int .i64 n ∧ Hid (OI W g0 (.slice ao L.length cap) L j n u wr)) (fun _ _ i _ => L.length - (intOf i).toNat)
  case atStart => exact ⟨0, 0, Nat.zero_le _, rfl, rfl, HB⟩
  case round =>
    obtain ⟨j, n, hj, rfl, rfl, HJ⟩ := hrel
    clear HB
    by_cases hlt : j < L.length
    · have q1 : (j : Int) < L.length := by omega
      have q0 : (0 : Int) ≤ j := by omega
      obtain ⟨t, ht⟩ : ∃ t, L[j]? = some t := ⟨_, List.getElem?_eq_getElem hlt⟩
      obtain ⟨b, off, rfl, x0, x1, x2, x3, x4, x5⟩ := HJ.out.lt j t ht
      have hnj := HJ.out.le
      obtain ⟨k, hk⟩ : ∃ k, ntB t = k := ⟨_, rfl⟩
      have HI := show Hid _ from HN.out t
      rw [hk] at HI
      go_wp2_with fail
      refine (HI.out _).mono ?_
      rintro r w2 ⟨rfl, hb2⟩
      have H2 := show Hid _ from HJ.out.on hb2
      have y1 := (hb2.cell (World.block_lt_of_cell? _ _ x1)).trans x1
      clear hb2 x0 x1 x2 x3 x4 x5
      cases k
      · have HX : Hid (OI W g0 (.slice (some ⟨b, off, none⟩) L.length cap) L (j + 1) (n + 1) u7 w2) := H2.out.skip ht hk (Below.refl _ _)
        go_wp2_with fail
        exact ⟨⟨j + 1, n + 1, hlt, by go_num, by go_num, HX⟩, by simp [intOf]; omega⟩
      · obtain ⟨m, hm1, hm2⟩ := H2.out.row
        obtain ⟨pu, cu, rfl, -, -⟩ := hm1.shape
        have hml : m.length ≤ 100000000 := by
          have h1 := congrArg List.length hm2
          have h2 := rmk_len L 0 0
          rw [List.length_append] at h1
          omega
        obtain ⟨bb, hbb⟩ : ∃ bb, bhB j t = bb := ⟨_, rfl⟩
        have HX : Hid (Calls Tryz.prog 14 #[.slice (some ⟨b, off, none⟩) L.length cap, .int .i64 j] w2 fun r w' => r = .returned (.bool bb) ∧ Below w2.heap.size w2 w') := by rw [← hbb]; exact HBh.out w2 _ cap j t H2.out.lt ht
        go_wp2_with fail
        refine HX.out.mono ?_
        rintro r w3 ⟨rfl, hb3⟩
        have H3 := show Hid _ from H2.out.on hb3
        have y2 := (hb3.cell (World.block_lt_of_cell? _ _ y1)).trans y1
        have hal : Below w3.heap.size w3 (w3.alloc (rmB n t.t bb)) := (Below.refl _ _).alloc (Nat.le_refl _) _
        have HR : Hid (Rm W.heap.size (w3.alloc (rmB n t.t bb)) (.slice pu m.length cu) m) := (hm1.below hb3).below hal
        have HZ : Hid (W.heap.size ≤ (w3.alloc (rmB n t.t bb)).heap.size) := Nat.le_trans H3.out.bel.size hal.size
        have HA : Hid (∀ V u', Rm W.heap.size V u' (m ++ [⟨n, t.t, bb⟩]) → (w3.alloc (rmB n t.t bb)).grownBy V (Value.slice pu m.length cu).ownBlock → Below W.heap.size (w3.alloc (rmB n t.t bb)) V → OI W g0 (.slice (some ⟨b, off, none⟩) L.length cap) L (j + 1) n u' V) := fun V u' h1 h2 h3 => by
          rw [← hbb] at h1 h2 h3
          have hal' := hal
          rw [← hbb] at hal'
          exact (H3.out.on hal').add ht hk hm2 ((hm1.below hb3).below hal') h1 h2 h3
        clear hm1 hm2 hb3 hal H2 H3 y1 HX hbb
        go_wp2_with (at_builtin; refine app_rmk (by rfl) _ _ (by rfl) W.heap.size (.slice pu m.length cu) m ⟨n, t.t, bb⟩ (by rfl) HR.out w3.heap.size 1 (by rfl) (new_at _ _) (by omega) HZ.out ?_; intro v' w5 h1 h2 h3 h4; have H5 := show Hid _ from HA.out w5 v' h1 h3 h2; clear h1 h2 h3 h4)
        exact ⟨⟨j + 1, n, hlt, by go_num, rfl, H5⟩, by simp [intOf]; omega⟩
    · obtain rfl : j = L.length := by omega
      have q1 : ¬ ((L.length : Int) < L.length) := by omega
      obtain ⟨f0, f1, f2, f3⟩ := ft_cells HJ.out.ft
      have z0 : ∀ j, wr.frozen? ⟨g0, j, none⟩ = false := fun j => blk_frozen HJ.out.ft
      clear HN HBh HS
      go_wp2_with fail
      obtain ⟨k1, k2, k3⟩ := HJ.out.fin hg0
      obtain ⟨m0, m1, m2, m3⟩ := ft_cells k1
      refine bodyPost_ret (v := .tuple #[u7, ftv 0 0 0 0]) (by simp [results, Tryz.f6, go_sem, m0, m1, m2, m3]) rfl ?_
      exact ⟨_, rfl, k2, k3⟩
end Go.Proofs.YtojjfbnpjhjidaaGreatDoor
namespace Go.Proofs.YtojjfbnpjhjidaaGreatDoor
open Go.RowKit
open Go.Lib (strCells strCells_length)
def Rb8 (B : Nat) (w : World) (v : Value) (x : ByteArray) : Prop := w.ownsRow B 5 1 v x.size (bc x.data.toList)
theorem rb_nil (B : Nat) (w : World) : Rb8 B w (.slice none 0 0) ⟨#[]⟩ := World.ownsRow_nil w B 5 1
theorem Rb8.below {B : Nat} {w w' : World} {v : Value} {x : ByteArray} (h : Rb8 B w v x) (hb : Below w.heap.size w w') : Rb8 B w' v x := by
  refine ⟨h.1, ?_⟩
  rcases h.2 with h1 | ⟨g, cap, cur, rfl, h2, h3, h4⟩
  · exact .inl h1
  · exact .inr ⟨g, cap, cur, rfl, h2, blk_below h3 hb, h4⟩
theorem Rb8.own {B : Nat} {w : World} {v : Value} {x : ByteArray} (h : Rb8 B w v x) : ∀ k, v.ownBlock = some k → B ≤ k := by
  intro k hk
  rcases h.2 with ⟨rfl, h0⟩ | ⟨b, cap, cur, rfl, hb, _⟩
  · cases hk
  · simp only [Value.ownBlock, Option.some.injEq] at hk
    omega
theorem Rb8.ne {B : Nat} {w : World} {v : Value} {x : ByteArray} (h : Rb8 B w v x) {g : Nat} {cs : Array Value} {T : TypeId} {f : Nat × Nat} (hg : w.heap[g]? = some (.cells cs T f)) (hT : T ≠ 5) : ∀ k, v.ownBlock = some k → k ≠ g := by
  intro k hk e
  rcases h.2 with ⟨rfl, h0⟩ | ⟨b, cap, cur, rfl, hb, h3, _⟩
  · cases hk
  · simp only [Value.ownBlock, Option.some.injEq] at hk
    subst hk
    subst e
    rw [hg] at h3
    cases h3
    exact hT rfl
theorem rt_nb {A B : Nat} {w : World} {v u : Value} {l : List Tv} {x : ByteArray} (h : Rt A w v l) (k : Rb8 B w u x) : ∀ j, v.ownBlock = some j → ¬ some j = u.ownBlock := by
  intro j hj e
  rcases h.2 with ⟨rfl, h0⟩ | ⟨b, cap, cur, rfl, hb, h3, _⟩
  · cases hj
  · simp only [Value.ownBlock, Option.some.injEq] at hj
    subst hj
    exact k.ne h3 (by decide) b e.symm rfl
theorem Tryz.info5 : (Tryz.prog.info? 5).map (fun i => (i.zero, i.size, i.bytes)) = some (some (.int .u8 0), 1, 1) := by kernel_rfl
theorem bc_cat (x y : ByteArray) : bc (x ++ y).data.toList = bc x.data.toList ++ bc y.data.toList := by
  rw [← bc_app, ByteArray.data_append]; simp
theorem app_str {W : World} {ops : Array Oper} {rest : List Oper} {o : Oper} {a : Act} {Q : Exit → Act → World → Prop} (hgd : o.guard = none) (s x : Operand)
    (ho : o.op = .call { callee := .builtin .append, args := #[s, x], argTypes := #[61, 9] }) (B : Nat) (v : Value) (l y : ByteArray) (hs : a.eval s = v) (hr : Rb8 B W v l)
    (hx : a.eval x = .string y) (hl : l.size + y.size ≤ 100000000000) (hB : B ≤ W.heap.size)
    (h : ∀ v' w', Rb8 B w' v' (l ++ y) → Below B W w' → W.grownBy w' v.ownBlock → wpList Tryz.prog ops Q rest (a.put o.dst v') w') : wpList Tryz.prog ops Q (o :: rest) a W := by
  obtain ⟨i0, hi, hz0, hz1, hz2⟩ := info_parts Tryz.info5
  refine wpList_append_string_at (P := Tryz.prog) hgd s x 61 9 ho B 5 i0 Tryz.underlying61 Tryz.underlying9 hi hz0 hz1 hz2 v _ _ hs hr y hx (by unfold maxLen; omega) (by omega) hB ?_
  intro v' w' h1 h2 _
  refine h v' w' ?_ ((Below.refl B W).grown h2 hB hr.own) h2
  unfold Rb8
  rw [bc_cat, show (l ++ y).size = l.size + y.size from ByteArray.size_append]
  exact h1
theorem app_b8 {W : World} {ops : Array Oper} {rest : List Oper} {o : Oper} {a : Act} {Q : Exit → Act → World → Prop} (hgd : o.guard = none) (s x : Operand)
    (ho : o.op = .call { callee := .builtin .append, args := #[s, x], argTypes := #[61, 61] }) (B : Nat) (v : Value) (l : ByteArray) (hs : a.eval s = v) (hr : Rb8 B W v l)
    (g c : Nat) (hx : a.eval x = .slice (some ⟨g, 0, none⟩) 1 c) (hg : W.heap[g]? = some (.cells #[.int .u8 32] 5 (0, 0))) (hl : l.size ≤ 10000000000) (hB : B ≤ W.heap.size)
    (h : ∀ v' w', Rb8 B w' v' (l ++ ⟨#[32]⟩) → Below B W w' → W.grownBy w' v.ownBlock → wpList Tryz.prog ops Q rest (a.put o.dst v') w') : wpList Tryz.prog ops Q (o :: rest) a W := by
  obtain ⟨i0, hi, hz0, hz1, hz2⟩ := info_parts Tryz.info5
  refine wpList_append_own_at (P := Tryz.prog) (w := W) hgd s x 61 ho B 5 i0 _ 1 1 Tryz.underlying61 hi hz0 hz1 hz2 rfl (by decide) v _ _ hs hr ⟨g, 0, none⟩ 1 c [.int .u8 32] hx rfl ?_ (by intro u hu; simp at hu; subst hu; rfl) (by unfold maxLen; omega) (by omega) hB ?_
  · intro j u hu
    refine World.news_of_block hg j u ?_
    simpa using hu
  · intro v' w' h1 h2 _ h4
    refine h v' w' ?_ ((Below.refl B W).grown h2 hB hr.own) h2
    unfold Rb8
    rw [bc_cat, show (l ++ (⟨#[32]⟩ : ByteArray)).size = l.size + 1 from ByteArray.size_append]
    exact h1
theorem push_bytes (l : List UInt8) : ∀ s : ByteArray, (l.map (fun b : UInt8 => (b.toNat : Int))).foldl (fun r n => r.push (UInt8.ofNat n.toNat)) s = ⟨(s.data.toList ++ l).toArray⟩ := by
  induction l with
  | nil => intro s; simp
  | cons b l ih =>
    intro s
    rw [List.map_cons, List.foldl_cons, ih]
    simp
theorem conv_b8 (w : World) (B : Nat) (v : Value) (x : ByteArray) (hv : Rb8 B w v x) : (convert 61 9 v).run Tryz.prog w = .ok (.string x) w := by
  rcases hv.2 with ⟨rfl, h0⟩ | ⟨g, cp, cur, rfl, h2⟩
  · rw [run_convert_bytes_string (P := Tryz.prog) w 61 9 5 _ _ _ Tryz.underlying61 Tryz.underlying5 Tryz.underlying9]
    obtain ⟨⟨a⟩⟩ := x
    have : a = [] := List.eq_nil_of_length_eq_zero h0
    subst this
    rfl
  · rw [run_convert_bytes_string (P := Tryz.prog) w 61 9 5 _ _ _ Tryz.underlying61 Tryz.underlying5 Tryz.underlying9]
    have hload := run_loadCells_list (P := Tryz.prog) w ⟨g, 0, none⟩ (bc x.data.toList) (hv.cells rfl)
    rw [bc_len] at hload
    rw [run_bytesToString (P := Tryz.prog) w ⟨g, 0, none⟩ x.size cp (x.data.toList.map (fun b : UInt8 => (b.toNat : Int))) (by rw [show x.size = x.data.toList.length from (Array.length_toList ..).symm, hload]; simp [bc, List.map_map, Function.comp_def]), push_bytes]
    rfl
end Go.Proofs.YtojjfbnpjhjidaaGreatDoor
