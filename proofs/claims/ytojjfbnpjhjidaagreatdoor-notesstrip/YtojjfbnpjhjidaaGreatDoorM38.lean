import Derived.Maps.OwnIn
import Derived.Test.YtojjfbnpjhjidaaGreatDoorM35
import Derived.Test.YtojjfbnpjhjidaaGreatDoorM36
import Derived.Test.YtojjfbnpjhjidaaGreatDoorM37
set_option linter.unusedVariables false
set_option linter.unusedSimpArgs false
namespace Go.Proofs.YtojjfbnpjhjidaaGreatDoor
open Go.RowKit
def OcP (W : World) (E x y z : Int) (R : List Rmk) (r : Ending) (w' : World) : Prop := ∃ v er, r = .returned (.tuple #[v, er]) ∧ Rm W.heap.size w' v R ∧ Er w' er E x y z ∧ Below W.heap.size W w'
def ScP (W : World) (E x y z : Int) (T : ByteArray) (r : Ending) (w' : World) : Prop := ∃ er, r = .returned (.tuple #[.string T, er]) ∧ Er w' er E x y z ∧ Below W.heap.size W w'
abbrev nsrc : ByteArray := ⟨#[97, 32, 123, 120, 125, 10, 47, 47, 32, 121, 32, 10, 98]⟩
abbrev nsrd : ByteArray := ⟨#[97, 123, 98, 125, 99, 47, 47, 32, 100, 10, 101]⟩
abbrev nout : ByteArray := ⟨#[97, 32, 99, 10, 101]⟩
abbrev nrem : List Rmk := [⟨1, ⟨#[123, 120, 125]⟩, true⟩, ⟨1, ⟨#[47, 47, 32, 121]⟩, false⟩]
set_option maxHeartbeats 1000000 in
set_option maxRecDepth 100000 in
theorem nawk_walk {W : World} (H1 : Hid (∀ V, Below W.heap.size W V → Calls Tryz.prog 7 #[.string nsrc] V (OcP V 0 0 0 0 nrem)))
    (H2 : Hid (∀ V, Below W.heap.size W V → Calls Tryz.prog 11 #[.string nsrd] V (ScP V 0 0 0 0 nout))) :
    Calls Tryz.prog 5 #[] W fun r w' => r = .returned (.bool true) ∧ Below W.heap.size W w' := by
  go_enter Tryz.func5, Tryz.ntmps5
  go_wp2_with fail
  refine (H1.out _ (Below.refl _ _)).mono ?_
  rintro r w1 ⟨v, er, rfl, hv, he, hb1⟩
  rcases he with ⟨_, rfl⟩ | ⟨h0, _⟩
  rotate_left
  · exact absurd rfl h0
  obtain ⟨ao, cap, rfl, hL, -, -, -⟩ := Lm.row hv
  have HL : Hid (Below W.heap.size W w1 ∧ Lm w1 ao nrem) := ⟨hb1, hL⟩
  clear hv hb1 hL H1
  go_wp2_with fail
  refine (H2.out _ HL.out.1).mono ?_
  rintro r w2 ⟨er, rfl, he, hb2⟩
  rcases he with ⟨_, rfl⟩ | ⟨h0, _⟩
  rotate_left
  · exact absurd rfl h0
  have HB : Hid (Below W.heap.size W w2) := HL.out.1.trans (hb2.mono HL.out.1.size)
  have hL := HL.out.2.below hb2
  obtain ⟨b, off, rfl, x0, x1, x2⟩ := hL 0 _ rfl
  obtain ⟨b', off', e, y0, y1, y2⟩ := hL 1 _ rfl
  cases e
  clear hb2 hL HL H2
  dsimp only at *
  rw [Nat.zero_mul, Nat.add_zero] at x0 x1 x2
  rw [Nat.one_mul] at y0 y1 y2
  have y4 : w2.cell? ⟨b, off + 4, none⟩ = _ := y1
  have y5 : w2.cell? ⟨b, off + 5, none⟩ = _ := y2
  go_wp2_with fail
  go_ret
  exact ⟨rfl, HB.out⟩
theorem nstrip_walk {s T : ByteArray} {E x y z : Int} {W : World} (hs : s.size ≤ maxLen) (hE : ETy W)
    (HA : Hid (Calls Tryz.prog 5 #[] W fun r w' => r = .returned (.bool true) ∧ Below W.heap.size W w'))
    (HD : Hid (s.size ≤ 2097152 → ∀ V, Below W.heap.size W V → Calls Tryz.prog 10 #[.string s] V (SdP V E x y z T)))
    (HC : Hid (s.size ≤ 2097152 → ∀ V, Below W.heap.size W V → Calls Tryz.prog 11 #[.string s] V (ScP V E x y z T))) :
    Calls Tryz.prog 4 #[.string s] W fun r w' => r = .returned (.bool true) ∧ Below W.heap.size W w' := by
  by_cases hb : 2097152 < s.size
  · have q : (s.size : Int) > 2097152 := by omega
    clear hb HD HC hE
    go_enter Tryz.func4, Tryz.ntmps4
    go_wp2_with fail
    refine HA.out.mono ?_
    rintro r w1 ⟨rfl, hb1⟩
    have H1 : Hid (Below W.heap.size W w1) := hb1
    clear hb1
    go_wp2_with fail
    go_ret
    exact ⟨rfl, H1.out⟩
  have q : ¬ ((s.size : Int) > 2097152) := by omega
  have HD' := show Hid _ from HD.out (by omega)
  have HC' := show Hid _ from HC.out (by omega)
  have HI : Hid (∀ V er, Below W.heap.size W V → Er V er E x y z → Calls Tryz.prog 8 #[er, ftv E x y z] V fun r w' => r = .returned (.bool true) ∧ Below V.heap.size V w') := fun V er h1 h2 => lis_any (hE.below h1) h2
  clear hb HD HC hE
  go_enter Tryz.func4, Tryz.ntmps4
  go_wp2_with fail
  refine HA.out.mono ?_
  rintro r w1 ⟨rfl, hb1⟩
  have H1 : Hid (Below W.heap.size W w1) := hb1
  clear hb1 HA
  go_wp2_with fail
  refine (HD'.out _ H1.out).mono ?_
  rintro r w2 ⟨rfl, hb2⟩
  obtain ⟨V2, eV2⟩ : ∃ V2, w2.alloc (ftb E x y z) = V2 := ⟨_, rfl⟩
  obtain ⟨g2, hg2⟩ : ∃ g2, w2.heap.size = g2 := ⟨_, rfl⟩
  have hx : Below w2.heap.size w2 V2 := by rw [← eV2]; exact (Below.refl _ _).alloc (Nat.le_refl _) _
  have k2 : V2.heap[g2]? = some (ftb E x y z) := by rw [← eV2, ← hg2]; exact new_at _ _
  have H2 : Hid (Below W.heap.size W V2 ∧ V2.heap[g2]? = some (ftb E x y z)) := ⟨by have h := H1.out.trans (hb2.mono H1.out.size); exact h.trans (hx.mono h.size), k2⟩
  clear hb2 hx k2 H1
  go_wp2_with fail
  try rw [eV2]
  try rw [hg2]
  clear eV2 hg2
  refine (HC'.out _ H2.out.1).mono ?_
  rintro r w3 ⟨er, rfl, he, hb3⟩
  have k3 := blk_below H2.out.2 hb3
  obtain ⟨c0, c1, c2, c3⟩ := ft_cells k3
  have H3 : Hid (Below W.heap.size W w3 ∧ Er w3 er E x y z) := ⟨H2.out.1.trans (hb3.mono H2.out.1.size), he⟩
  clear he hb3 k3 H2
  go_wp2_with fail
  refine (HI.out _ _ H3.out.1 H3.out.2).mono ?_
  rintro r w4 ⟨rfl, hb4⟩
  have H4 : Hid (Below W.heap.size W w4) := H3.out.1.trans (hb4.mono H3.out.1.size)
  clear hb4 H3
  go_wp2_with fail
  go_ret
  exact ⟨rfl, H4.out⟩
end Go.Proofs.YtojjfbnpjhjidaaGreatDoor
namespace Go.Proofs.YtojjfbnpjhjidaaGreatDoor
open Go.RowKit Go.Shelf
attribute [local go_sem] Oper.semAt_some
def TkP (W : World) (E x y z : Int) (L : List Tv) (r : Ending) (w' : World) : Prop := ∃ v er, r = .returned (.tuple #[v, er]) ∧ Er w' er E x y z ∧ (E = 0 → Rt W.heap.size w' v L) ∧ Below W.heap.size W w'
theorem tks_any {s : ByteArray} {L : List Tv} {E x y z : Int} {W : World} (HS : Hid (Calls Tryz.prog 24 #[.string s] W (AlP W E x y z L))) :
    Calls Tryz.prog 15 #[.string s] W (TkP W E x y z L) := by
  by_cases hE : E = 0
  case' pos => have q1 : (E == 0) = true := by simpa using hE
  case' neg => have q1 : (E == 0) = false := by simpa using hE
  all_goals (
    go_enter Tryz.func15, Tryz.ntmps15
    go_wp2_with fail
    refine HS.out.mono ?_
    rintro e w1 ⟨v, rfl, hv, hb1⟩
    obtain ⟨V1, eV1⟩ : ∃ V1, w1.alloc (plc x y z) = V1 := ⟨_, rfl⟩
    obtain ⟨g1, hg1⟩ : ∃ g1, w1.heap.size = g1 := ⟨_, rfl⟩
    have hx : Below w1.heap.size w1 V1 := by rw [← eV1]; exact (Below.refl _ _).alloc (Nat.le_refl _) _
    have kp : V1.heap[g1]? = some (plc x y z) := by rw [← eV1, ← hg1]; exact new_at _ _
    have p0 : V1.cell? ⟨g1, 0, none⟩ = some (.int .i64 x) := blk_cell kp rfl
    have p1 : V1.cell? ⟨g1, 1, none⟩ = some (.int .i64 y) := blk_cell kp rfl
    have p2 : V1.cell? ⟨g1, 2, none⟩ = some (.int .i64 z) := blk_cell kp rfl
    have HB : Hid (Below W.heap.size W V1 ∧ Rt W.heap.size V1 v L) := ⟨hb1.trans (hx.mono hb1.size), hv.below hx⟩
    clear hb1 hx kp hv
    go_wp2_with fail
    try rw [eV1]
    try rw [hg1]
    clear eV1 hg1)
  · go_region
    all_goals (go_wp2_with fail)
    all_goals (
      go_ret2
      exact ⟨_, _, rfl, .inr ⟨hE, V1.heap.size, rfl, blk_below (new_at _ _) (Below.refl _ _).drew⟩, fun h => absurd h hE, (HB.out.1.alloc HB.out.1.size _).drew⟩)
  · go_wp2_with fail
    go_ret2
    exact ⟨v, _, rfl, .inl ⟨hE, rfl⟩, fun _ => HB.out.2, HB.out.1⟩
theorem Rm.kept {B : Nat} {W W' : World} {row : Option Nat} (hg : W.grownBy W' row) (hr : ∀ r, row = some r → ∃ o : Obj, W.heap[r]? = some o ∧ o.isCells = false) {v : Value} {l : List Rmk} (h : Rm B W v l) : Rm B W' v l := by
  refine ⟨h.1, ?_⟩
  rcases h.2 with h1 | ⟨g, cap, cur, rfl, a0, a2, a3⟩
  · exact .inl h1
  · exact .inr ⟨g, cap, cur, rfl, a0, keeps_cell hg hr a2, a3⟩
theorem rt_kept {B : Nat} {W W' : World} {row : Option Nat} (hg : W.grownBy W' row) (hr : ∀ r, row = some r → ∃ o : Obj, W.heap[r]? = some o ∧ o.isCells = false) {v : Value} {l : List Tv} (h : Rt B W v l) : Rt B W' v l := by
  refine ⟨h.1, ?_⟩
  rcases h.2 with h1 | ⟨g, cap, cur, rfl, a0, a2, a3⟩
  · exact .inl h1
  · exact .inr ⟨g, cap, cur, rfl, a0, keeps_cell hg hr a2, a3⟩
structure CO (W : World) (a : Nat) (v : Value) (L : List Tv) (R : List Rmk) (j : Nat) (wr : World) : Prop where
  bel : Below W.heap.size W wr
  rt : Rt W.heap.size wr v L
  lb : wr.heap[a + 1]? = some (.cells #[v] 44 (0, 0))
  al : ∃ u, wr.heap[a]? = some (.cells #[u] 23 (0, 0)) ∧ Rm W.heap.size wr u (R.take j)
theorem CO.own {W : World} {a : Nat} {v : Value} {L : List Tv} {R : List Rmk} {j : Nat} {A B : World} {row : Option Nat} (h : CO W a v L R j A) (hg : A.grownBy B row) (hr : ∀ r, row = some r → W.heap.size ≤ r ∧ ∃ o : Obj, A.heap[r]? = some o ∧ o.isCells = false) : CO W a v L R j B := by
  obtain ⟨u, h1, h2⟩ := h.al
  have hr2 := fun r e => (hr r e).2
  exact ⟨h.bel.grown hg h.bel.size (fun k e => (hr k e).1), rt_kept hg hr2 h.rt, keeps_cell hg hr2 h.lb, ⟨u, keeps_cell hg hr2 h1, h2.kept hg hr2⟩⟩
theorem CO.below {W : World} {a : Nat} {v : Value} {L : List Tv} {R : List Rmk} {j : Nat} {A B : World} (h : CO W a v L R j A) (hb : Below A.heap.size A B) : CO W a v L R j B := by
  obtain ⟨u, h1, h2⟩ := h.al
  exact ⟨h.bel.trans (hb.mono h.bel.size), h.rt.below hb, blk_below h.lb hb, ⟨u, blk_below h1 hb, h2.below hb⟩⟩
theorem kf_below {B : Nat} {A V : World} (h : Below A.heap.size A V) : KeepsFrom B A V := (ko_below h).from B
theorem CO.add {W : World} {a : Nat} {v : Value} {L : List Tv} {R : List Rmk} {j : Nat} {A V X : World} {u u' : Value} {d : Rmk} (h : CO W a v L R j A) (hb : Below A.heap.size A V) (ha : W.heap.size ≤ a) (hu : A.heap[a]? = some (.cells #[u] 23 (0, 0))) (hm : Rm W.heap.size A u (R.take j)) (hd : R[j]? = some d)
    (hg : V.grownBy X u.ownBlock) (hr : Rm W.heap.size X u' (R.take j ++ [d])) : (X.cell? ⟨a, 0, none⟩ = some u ∧ X.frozen? ⟨a, 0, none⟩ = false) ∧ CO W a v L R (j + 1) (X.setCell ⟨a, 0, none⟩ u') ∧ KeepsFrom W.heap.size A (X.setCell ⟨a, 0, none⟩ u') := by
  have hV := h.below hb
  have hm2 := hm.below hb
  have hu2 := blk_below hu hb
  have hk := Kp.of_grown hg
  have e1 := hk.blk hu2 (fun e => hm2.ne hu2 (by decide) a e.symm rfl)
  have e2 := hk.blk hV.lb (fun e => hm2.ne hV.lb (by decide) (a + 1) e.symm rfl)
  have e3 := hV.rt.kp hk (rt_ne hV.rt hm2)
  have bX : Below W.heap.size W X := hV.bel.grown hg hV.bel.size hm2.own
  have hs := Kp.set X a 0 u'
  refine ⟨⟨blk_cell e1 rfl, blk_frozen e1⟩, ⟨bX.setCell (p := ⟨a, 0, none⟩) ha _, e3.kp hs (fun k e e9 => ?_), hs.blk e2 (by omega), ⟨u', blk_set e1 0 u', ?_⟩⟩, ?_⟩
  · rcases e3.2 with ⟨rfl, h0⟩ | ⟨b, cap, cur, rfl, _, h3, _⟩
    · cases e
    · simp only [Value.ownBlock, Option.some.injEq] at e
      subst e
      subst e9
      rw [e1] at h3
      cases h3
  · rw [List.take_add_one, hd]
    exact hr.kp hs (fun k e e9 => hr.ne e1 (by decide) k e e9)
  · refine (kf_below hb).trans ?_
    refine KeepsFrom.trans (Y := X) ⟨hg.size, fun k o _ hko ho => hk.blk hko (fun e => ?_)⟩ ((KeepsOthers.setCell _ _ _).from _)
    rcases hm2.2 with ⟨rfl, h0⟩ | ⟨b, cap, cur, rfl, _, h3, _⟩
    · cases e
    · simp only [Value.ownBlock, Option.some.injEq] at e
      subst e
      rw [h3] at hko
      cases hko
      cases ho
attribute [local go_sem] Oper.semAt_some
set_option maxHeartbeats 2000000 in
set_option maxRecDepth 100000 in
theorem nof_any {s : ByteArray} {L : List Tv} {R : List Rmk} {E x y z : Int} {W : World} (hl : L.length ≤ 100000000) (HR : Hid ((E = 0 → R = rmk L 0 0) ∧ (E ≠ 0 → R = []))) (HS : Hid (Calls Tryz.prog 24 #[.string s] W (AlP W E x y z L))) :
    Calls Tryz.prog 7 #[.string s] W (OcP W E x y z R) := by
  refine (callsIn_wide (n := 9)).1 ?_
  refine callsIn_of_wp_marks Tryz.func7 rfl trivial ?_ rfl
  simp only [Tryz.ntmps7, List.size_toArray, List.length_cons, List.length_nil, Nat.reduceAdd, Nat.reduceSub, Array.replicate_succ, Array.replicate_zero, List.push_toArray, List.append_toArray, List.nil_append, List.cons_append]
  gi_wp2
  refine ⟨trivial, ?_⟩
  refine (callsIn_wide.2 (tks_any HS)).mono ?_
  rintro r w1 ⟨v, er, rfl, he, hv, hb1⟩
  rcases he with ⟨h0, rfl⟩ | ⟨h0, g, rfl, hg⟩
  rotate_left
  · obtain rfl := HR.out.2 h0
    have H1 : Hid (w1.heap[g]? = some (ftb E x y z) ∧ Below W.heap.size W w1) := ⟨hg, hb1⟩
    clear hg hb1 hv
    gi_wp2
    refine ⟨.tuple #[.slice none 0 0, ftp g], by simp [results, Tryz.f7, go_sem], ?_⟩
    exact ⟨_, _, rfl, rm_nil _ _, .inr ⟨h0, g, rfl, H1.out.1⟩, H1.out.2⟩
  · have HR2 : Hid (R = rmk L 0 0) := HR.out.1 h0
    subst h0
    have hv' := hv rfl
    obtain ⟨ao, cap, rfl, hL, -, -, -⟩ := Lt.row hv'
    gi_wp2
    refine ⟨trivial, ?_⟩
    refine (callsIn_wide.2 (cmts_any _ _ _ _)).mono ?_
    rintro r w2 ⟨rfl, rfl⟩
    gi_wp2
    obtain ⟨a, ha⟩ : ∃ a, w1.heap.size = a := ⟨_, rfl⟩
    rw [ha]
    obtain ⟨W0, hW0⟩ : ∃ W0, (w1.alloc (.cells #[.slice none 0 0] 23)).alloc (.cells #[.slice ao L.length cap] 44) = W0 := ⟨_, rfl⟩
    have e1 : (w1.alloc (.cells #[.slice none 0 0] 23)).heap.size = a + 1 := by rw [World.size_alloc, ha]
    have hW : Below w1.heap.size w1 W0 := by rw [← hW0]; exact ((Below.refl _ _).alloc (Nat.le_refl _) _).alloc (by rw [e1]; omega) _
    have hsz : W0.heap.size = a + 1 + 1 := by rw [← hW0, World.size_alloc, e1]
    have hWa : W.heap.size ≤ a := by rw [← ha]; exact hb1.size
    have h0 : CO W a (.slice ao L.length cap) L R 0 W0 := by
      refine ⟨hb1.trans (hW.mono hb1.size), hv'.below hW, ?_, ⟨.slice none 0 0, ?_, rm_nil _ _⟩⟩
      · rw [← hW0, ← e1]; exact new_at _ _
      · rw [← hW0, ← ha]; exact alloc_at' (new_at _ _) _
    rw [hW0]
    clear hW0 e1 hW HR HS hv hv' hL hb1
    have hlen : (cms L 0 0).length = R.length := by rw [HR2.out, ← cms_rmk, List.length_map]
    refine wpIn_goes rfl (by omega) (gf := 25) (lb := #[.pointer (some ⟨a + 1, 0, none⟩)]) rfl trivial (enters_of Tryz.func25 (by kernel_rfl) rfl) (cmts_goes 8 (by omega) (a + 1) ao L cap hl) (fun j => rfl) (fun j V => CO W a (.slice ao L.length cap) L R j V)
      (fun j A B row h hg hr => h.own hg (fun r e => ⟨by have := (hr r e).1; omega, (hr r e).2⟩)) (fun j V h => ⟨blk_cell h.lb rfl, by obtain ⟨a9, c9, e9, h9, _⟩ := Lt.row h.rt; cases e9; exact h9⟩) h0
      (fun j a' V => ∃ q d u19 u20, R[j]? = some d ∧ V.heap[q]? = some (rmB d.n d.t d.b) ∧ a' = { tmps := #[.string s, undef, .slice none 0 0, .nilIface, .slice ao L.length cap, .nilIface, .pointer (some ⟨a, 0, none⟩), undef, .pointer (some ⟨q, 0, none⟩), .tuple #[.slice ao L.length cap, .nilIface], .string s, .tuple #[.slice ao L.length cap, .nilIface], .slice ao L.length cap, .nilIface, .nilIface, .bool false, undef, .slice ao L.length cap, .func (.func 25) #[] #[.pointer (some ⟨a + 1, 0, none⟩)], u19, u20, undef, undef, undef, undef, undef], defers := [] })
      (fun j a' u A B row h hg hr => by obtain ⟨q, d, u19, u20, h1, h2, h3⟩ := h; exact ⟨q, d, u19, u20, h1, keeps_cell hg (fun r e => (hr r e).2) h2, h3⟩) ?assign ?body ?done
    case assign =>
      intro lp j V K hj hi hK
      obtain ⟨d, hd⟩ : ∃ d, (cms L 0 0)[j]? = some d := ⟨_, List.getElem?_eq_getElem hj⟩
      have hR : R[j]? = some d.2 := by rw [HR2.out, ← cms_rmk, List.getElem?_map, hd]; rfl
      rw [itC_at hd]
      dsimp only [Tv.v, Rmk.v]
      gi_wp2
      have hb : Below V.heap.size V (V.alloc (rmB d.2.n d.2.t d.2.b)) := (Below.refl _ _).alloc (Nat.le_refl _) _
      exact hK _ _ (kf_below hb) (hi.below hb) ⟨V.heap.size, d.2, _, _, hR, new_at _ _, rfl⟩
    case body =>
      rintro lp j a' V hj hi ⟨q, d, u19, u20, hd, hq, rfl⟩
      obtain ⟨u, hu, hm⟩ := hi.al
      obtain ⟨pu, cu, rfl, -, -⟩ := hm.shape
      have hjl : (R.take j).length ≤ 100000000 := by
        have h1 : R.length ≤ L.length := by rw [HR2.out]; exact rmk_len L 0 0
        rw [List.length_take]
        omega
      obtain ⟨X, hX⟩ : ∃ X, R.take j = X := ⟨_, rfl⟩
      rw [hX] at hm hu hjl
      obtain ⟨i0, hi0, hz0, hz1, hz2⟩ := info_parts Tryz.info38
      have hbA : Below V.heap.size V (V.alloc (rmB d.n d.t d.b)) := (Below.refl _ _).alloc (Nat.le_refl _) _
      have hmc : mcs [d] = [.int .i64 d.n, .string d.t, .bool d.b] := by simp [mcs, flat, Rmk.cs]
      have HZ : Hid (Rm W.heap.size (V.alloc (rmB d.n d.t d.b)) (.slice pu X.length cu) X ∧ W.heap.size ≤ (V.alloc (rmB d.n d.t d.b)).heap.size) := ⟨hm.below hbA, Nat.le_trans hi.bel.size hbA.size⟩
      have HN : Hid (∀ u' w3, w3.ownsRow W.heap.size 38 3 u' (X.length + 1) (mcs X ++ mcs [d]) → (V.alloc (rmB d.n d.t d.b)).grownBy w3 (Value.slice pu X.length cu).ownBlock → (w3.cell? ⟨a, 0, none⟩ = some (.slice pu X.length cu) ∧ w3.frozen? ⟨a, 0, none⟩ = false) ∧ CO W a (.slice ao L.length cap) L R (j + 1) (w3.setCell ⟨a, 0, none⟩ u') ∧ KeepsFrom W.heap.size V (w3.setCell ⟨a, 0, none⟩ u') ∧ ∃ p c, u' = .slice p (X.length + 1) c) := fun u' w3 h3 hg3 => by
        have hr4 : Rm W.heap.size w3 u' (R.take j ++ [d]) := by
          unfold Rm
          rw [hX, List.length_append, mcs_app]
          exact h3
        obtain ⟨y0, y1, y2⟩ := hi.add hbA hWa hu (by rw [hX]; exact hm) hd hg3 hr4
        obtain ⟨p, c, e, -, -⟩ := hr4.shape
        exact ⟨y0, y1, y2, p, c, by rw [e, hX, List.length_append]; rfl⟩
      have c0 : V.cell? ⟨a, 0, none⟩ = some (.slice pu X.length cu) := blk_cell hu rfl
      have d0 : V.cell? ⟨q, 0, none⟩ = some (.int .i64 d.n) := blk_cell hq rfl
      have d1 : V.cell? ⟨q, 1, none⟩ = some (.string d.t) := blk_cell hq rfl
      have d2 : V.cell? ⟨q, 2, none⟩ = some (.bool d.b) := blk_cell hq rfl
      clear hbA hm hu hX hd hq hi h0 hlen
      gi_wp2_with (refine wpListIn_append_own_at (P := Tryz.prog) (V.alloc (rmB d.n d.t d.b)) rfl _ _ 23 rfl W.heap.size 38 i0 _ 3 32 Tryz.underlying23 hi0 hz0 hz1 hz2 rfl (by decide) (.slice pu X.length cu) X.length (mcs X) rfl HZ.out.1 ⟨V.heap.size, 0, none⟩ 1 1 (mcs [d]) rfl (by rw [mcs_len]; rfl) (fun j u hu => World.news_of_block (new_at V _) j u (by rw [hmc] at hu; simpa using hu)) (mcs_one [d]) (by unfold maxLen; omega) (by omega) HZ.out.2 ?_; intro v' w3 h3 hg3 _ _; obtain ⟨⟨y0, y1⟩, y2, y3, p3, k3, rfl⟩ := HN.out v' w3 h3 hg3; have HX : Hid (CO W a (.slice ao L.length cap) L R (j + 1) (w3.setCell ⟨a, 0, none⟩ (.slice p3 (X.length + 1) k3)) ∧ KeepsFrom W.heap.size V (w3.setCell ⟨a, 0, none⟩ (.slice p3 (X.length + 1) k3))) := ⟨y2, y3⟩; clear h3 hg3 y2 y3)
      exact ⟨⟨HX.out.2.size, fun k o hk => HX.out.2.same k o (by omega)⟩, HX.out.1⟩
    case done =>
      intro D V hD hi hdef
      obtain ⟨u, hu, hm⟩ := hi.al
      rw [hlen, List.take_length] at hm
      have c0 : V.cell? ⟨a, 0, none⟩ = some u := blk_cell hu rfl
      obtain ⟨pu, cu, rfl, -, -⟩ := hm.shape
      have HZ : Hid (Rm W.heap.size V (.slice pu R.length cu) R ∧ Below W.heap.size W V) := ⟨hm, hi.bel⟩
      clear hm hu hi h0
      gi_wp2
      have hg := grownBy_putObj' V D (.deferred none)
      refine ⟨by simp, .inl ⟨_, _, rfl, run_takeDeferred hdef, ?_⟩⟩
      refine ⟨.tuple #[.slice pu R.length cu, .nilIface], by simp [results, Tryz.f7, go_sem], ?_⟩
      exact ⟨_, _, rfl, HZ.out.1.kept hg (fun r e => by cases e; exact ⟨_, hdef, rfl⟩), .inl ⟨rfl, rfl⟩, HZ.out.2.grown hg HZ.out.2.size (fun r e => by cases e; omega)⟩
end Go.Proofs.YtojjfbnpjhjidaaGreatDoor
