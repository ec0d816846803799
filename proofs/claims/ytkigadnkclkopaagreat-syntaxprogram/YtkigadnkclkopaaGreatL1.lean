import Derived.Test.YtkigadnkclkopaaGreatCh
set_option linter.unusedVariables false
set_option linter.unusedSimpArgs false
namespace Go.Proofs.YtkigadnkclkopaaGreat
open Go.RowKit

theorem Le.at {w : World} {ao : Option Addr} {l : List Ev} (h : Le w ao l) {V : World} (hb : Below w.heap.size w V) {j : Nat} {d : Ev} (hj : l[j]? = some d) : ∃ b off, ao = some ⟨b, off, none⟩ ∧ b < V.heap.size ∧
    V.cell? ⟨b, off + j * 8, none⟩ = some (.int .u8 d.k) ∧ V.cell? ⟨b, off + j * 8 + 1, none⟩ = some (.int .u8 d.n) ∧ V.cell? ⟨b, off + j * 8 + 2, none⟩ = some (.int .u8 d.d.k) ∧ V.cell? ⟨b, off + j * 8 + 3, none⟩ = some (.string d.d.t) ∧ V.cell? ⟨b, off + j * 8 + 4, none⟩ = some (.int .i64 d.d.a) ∧ V.cell? ⟨b, off + j * 8 + 5, none⟩ = some (.int .i64 d.d.l) ∧ V.cell? ⟨b, off + j * 8 + 6, none⟩ = some (.int .i64 d.d.c) ∧ V.cell? ⟨b, off + j * 8 + 7, none⟩ = some (.int .i64 d.d.f) := by
  obtain ⟨b, off, h1, c0, c1, c2, c3, c4, c5, c6, c7⟩ := h.below hb j d hj
  exact ⟨b, off, h1, World.block_lt_of_cell? _ _ c0, c0, c1, c2, c3, c4, c5, c6, c7⟩
theorem Le.pre {w : World} {ao : Option Addr} {l m : List Ev} (h : Le w ao (l ++ m)) : Le w ao l := by
  intro j d hj
  refine h j d ?_
  rw [List.getElem?_append_left (List.getElem?_eq_some_iff.1 hj).1]
  exact hj
theorem le_of_blk {w : World} {g : Nat} {l : List Ev} {cs : Array Value} {f : TypeId} (hg : w.heap[g]? = some (.cells cs f (0, 0))) (hc : ∀ (k : Nat) (u : Value), (ecs l)[k]? = some u → cs[k]? = some u) : Le w (some ⟨g, 0, none⟩) l := by
  intro j d hj
  have hcc : ∀ (i : Nat) (u : Value), d.cs[i]? = some u → w.cell? ⟨g, 0 + j * 8 + i, none⟩ = some u := fun i u hu => by
    rw [Nat.zero_add]
    exact blk_cell hg (hc _ _ (flat_at Ev.cs 8 Ev.cs_len l j i d _ hj hu))
  exact ⟨g, 0, rfl, hcc 0 _ rfl, hcc 1 _ rfl, hcc 2 _ rfl, hcc 3 _ rfl, hcc 4 _ rfl, hcc 5 _ rfl, hcc 6 _ rfl, hcc 7 _ rfl⟩
theorem sets_kp (b : Nat) : ∀ (vs : List Value) (o : Nat) (w : World), Kp (fun k => k = b) w (w.setCells b o vs)
  | [], o, w => Kp.refl _ _
  | v :: vs, o, w => (Kp.set w b o v).trans (sets_kp b vs (o + 1) _)
theorem sets_blk (b : Nat) {T : TypeId} : ∀ (vs : List Value) (o : Nat) (w : World) (cur : Array Value), w.heap[b]? = some (.cells cur T (0, 0)) → ∃ cur', (w.setCells b o vs).heap[b]? = some (.cells cur' T (0, 0)) ∧ cur'.size = cur.size ∧ (∀ j, j < o ∨ o + vs.length ≤ j → cur'[j]? = cur[j]?) ∧ (o + vs.length ≤ cur.size → ∀ j u, vs[j]? = some u → cur'[o + j]? = some u)
  | [], o, w, cur, h => ⟨cur, h, rfl, fun _ _ => rfl, fun _ j u hu => by simp at hu⟩
  | v :: vs, o, w, cur, h => by
    have h1 := blk_set h o v
    obtain ⟨cur', e1, e2, e3, e4⟩ := sets_blk b vs (o + 1) _ _ h1
    rw [Array.size_setIfInBounds] at e2 e4
    refine ⟨cur', e1, e2, ?_, ?_⟩
    · intro j hj
      rw [List.length_cons] at hj
      rw [e3 j (by omega), Array.getElem?_setIfInBounds_ne (by omega)]
    · intro hs j u hu
      rw [List.length_cons] at hs
      cases j with
      | zero =>
        simp at hu
        subst hu
        rw [Nat.add_zero, e3 o (by omega), Array.getElem?_setIfInBounds_self_of_lt (by omega)]
      | succ j =>
        have := e4 (by omega) j u (by simpa using hu)
        rw [show o + (j + 1) = o + 1 + j by omega]; exact this
theorem sets_eq (w : World) (b o : Nat) (n : Nd) (x : Value) : w.setCells b o (nc n x) = (((((((w.setCell ⟨b, o, none⟩ (.int .u8 n.k)).setCell ⟨b, o + 1, none⟩ (.int .u8 n.d.k)).setCell ⟨b, o + 2, none⟩ (.string n.d.t)).setCell ⟨b, o + 3, none⟩ (.int .i64 n.d.a)).setCell ⟨b, o + 4, none⟩ (.int .i64 n.d.l)).setCell ⟨b, o + 5, none⟩ (.int .i64 n.d.c)).setCell ⟨b, o + 6, none⟩ (.int .i64 n.d.f)).setCell ⟨b, o + 7, none⟩ x := by
  simp only [nc, World.setCells, Nat.add_assoc]

end Go.Proofs.YtkigadnkclkopaaGreat

set_option linter.unusedVariables false
set_option linter.unusedSimpArgs false
namespace Go.Proofs.YtkigadnkclkopaaGreat
open Go.RowKit

/-! The document's Build: node, kid. -/
abbrev BtB (k : Int) (d : Tv) (s : Value) (at' : Int) (ok : Bool) : Obj := .cells #[.int .u8 k, .int .u8 d.k, .string d.t, .int .i64 d.a, .int .i64 d.l, .int .i64 d.c, .int .i64 d.f, s, .int .i64 at', .bool ok] 85
abbrev btv (k : Int) (d : Tv) (s : Value) (at' : Int) (ok : Bool) : Value := .agg #[.int .u8 k, .int .u8 d.k, .string d.t, .int .i64 d.a, .int .i64 d.l, .int .i64 d.c, .int .i64 d.f, s, .int .i64 at', .bool ok]
def sets10 (w : World) (b : Nat) (k : Int) (d : Tv) (s : Value) (at' : Int) (ok : Bool) : World := (((((((((w.setCell ⟨b, 0, none⟩ (.int .u8 k)).setCell ⟨b, 1, none⟩ (.int .u8 d.k)).setCell ⟨b, 2, none⟩ (.string d.t)).setCell ⟨b, 3, none⟩ (.int .i64 d.a)).setCell ⟨b, 4, none⟩ (.int .i64 d.l)).setCell ⟨b, 5, none⟩ (.int .i64 d.c)).setCell ⟨b, 6, none⟩ (.int .i64 d.f)).setCell ⟨b, 7, none⟩ s).setCell ⟨b, 8, none⟩ (.int .i64 at')).setCell ⟨b, 9, none⟩ (.bool ok)
theorem sets10_at {w : World} {b : Nat} {k0 : Int} {d0 : Tv} {s0 : Value} {a0 : Int} {ok0 : Bool} (h : w.heap[b]? = some (BtB k0 d0 s0 a0 ok0)) (k : Int) (d : Tv) (s : Value) (at' : Int) (ok : Bool) : (sets10 w b k d s at' ok).heap[b]? = some (BtB k d s at' ok) := by
  unfold sets10
  have := blk_set (blk_set (blk_set (blk_set (blk_set (blk_set (blk_set (blk_set (blk_set (blk_set h 0 (.int .u8 k)) 1 (.int .u8 d.k)) 2 (.string d.t)) 3 (.int .i64 d.a)) 4 (.int .i64 d.l)) 5 (.int .i64 d.c)) 6 (.int .i64 d.f)) 7 s) 8 (.int .i64 at')) 9 (.bool ok)
  rw [this]
  simp
theorem sets10_kp (w : World) (b : Nat) (k : Int) (d : Tv) (s : Value) (at' : Int) (ok : Bool) : Kp (fun j => j = b) w (sets10 w b k d s at' ok) := by
  unfold sets10
  exact (((((((((Kp.set _ _ _ _).trans (Kp.set _ _ _ _)).trans (Kp.set _ _ _ _)).trans (Kp.set _ _ _ _)).trans (Kp.set _ _ _ _)).trans (Kp.set _ _ _ _)).trans (Kp.set _ _ _ _)).trans (Kp.set _ _ _ _)).trans (Kp.set _ _ _ _)).trans (Kp.set _ _ _ _)
theorem bt_cells {w : World} {b : Nat} {k : Int} {d : Tv} {s : Value} {a : Int} {ok : Bool} (h : w.heap[b]? = some (BtB k d s a ok)) : (w.cell? ⟨b, 0, none⟩ = some (.int .u8 k) ∧ w.cell? ⟨b, 1, none⟩ = some (.int .u8 d.k) ∧ w.cell? ⟨b, 2, none⟩ = some (.string d.t) ∧ w.cell? ⟨b, 3, none⟩ = some (.int .i64 d.a) ∧ w.cell? ⟨b, 4, none⟩ = some (.int .i64 d.l) ∧ w.cell? ⟨b, 5, none⟩ = some (.int .i64 d.c) ∧ w.cell? ⟨b, 6, none⟩ = some (.int .i64 d.f) ∧ w.cell? ⟨b, 7, none⟩ = some s ∧ w.cell? ⟨b, 8, none⟩ = some (.int .i64 a) ∧ w.cell? ⟨b, 9, none⟩ = some (.bool ok)) ∧ b < w.heap.size ∧ ∀ i, w.frozen? ⟨b, i, none⟩ = false :=
  ⟨⟨blk_cell h rfl, blk_cell h rfl, blk_cell h rfl, blk_cell h rfl, blk_cell h rfl, blk_cell h rfl, blk_cell h rfl, blk_cell h rfl, blk_cell h rfl, blk_cell h rfl⟩, blk_lt h, fun i => blk_frozen h⟩
/-- What node and kid answer. -/
def BtP (a : Nat) (L : List Ev) (i : Nat) (W : World) (x : Ending) (w' : World) : Prop := ∃ (n : Nd) (sv : Value) (at' : Nat) (ok : Bool), x = .returned (btv n.k n.d sv at' ok) ∧ TN (fun k => W.heap.size ≤ k) w' n sv ∧ Below W.heap.size W w' ∧ (if ok then (i < at' ∧ at' ≤ L.length ∧ ((∃ e, L[i]? = some e ∧ e.k = 1) → n.k ≠ 0)) ∧ Aft a (L.drop i) n (L.drop at') else Bad a (L.drop i))
def NodC (L : List Ev) (i : Nat) : Prop := ∀ (a : Nat) (ao : Option Addr) (cap : Nat) (W : World), a ≤ 1000 → Le W ao L → Calls Tryz.prog 41 #[.slice ao L.length cap, .int .i64 (i : Nat), .int .i64 ((a : Int) + 1)] W (BtP a L i W)
def KidC (L : List Ev) (i : Nat) : Prop := ∀ (a : Nat) (ao : Option Addr) (cap : Nat) (W : World), a ≤ 1000 → Le W ao L → Calls Tryz.prog 60 #[.slice ao L.length cap, .int .i64 (i : Nat), .int .i64 (a : Nat)] W (BtP a L i W)
/-- Within a node. -/
structure NL (W : World) (k : Int) (c : List Nd) (sv : Value) (vs : List Value) (V : World) : Prop where
  bel : Below W.heap.size W V
  rb : V.heap[W.heap.size]? = some (BtB 0 tv0 (.slice none 0 0) 0 false)
  nb : V.heap[W.heap.size + 1]? = some (NdB k tv0 sv)
  rn : RN V sv c vs
  sB : ∀ b, sv.ownBlock = some b → W.heap.size + 2 ≤ b
  tl : TL (fun b => W.heap.size + 2 ≤ b ∧ sv.ownBlock ≠ some b) V c vs
theorem NL.below {W : World} {k : Int} {c : List Nd} {sv : Value} {vs : List Value} {V V' : World} (h : NL W k c sv vs V) (hb : Below V.heap.size V V') : NL W k c sv vs V' := by
  have hk : Kp (fun _ => False) V V' := Kp.of_below hb
  exact ⟨h.bel.trans (hb.mono h.bel.size), blk_below h.rb hb, blk_below h.nb hb, h.rn.kp hk (fun _ _ h => h), h.sB, TL.kp hk (fun _ _ h => h) _ _ h.tl⟩
theorem NL.push {W : World} {k : Int} {c : List Nd} {sv v' x : Value} {vs : List Value} {V V1 w8 : World} {n : Nd} (h : NL W k c sv vs V) (hb : Below V.heap.size V V1) (hn : TN (fun b => W.heap.size + 2 ≤ b ∧ sv.ownBlock ≠ some b) V n x) (hr : RN w8 v' (c ++ [n]) (vs ++ [x])) (hg : V1.grownBy w8 sv.ownBlock) (hq : Nb V1 sv v') :
    (w8.cell? ⟨W.heap.size + 1, 7, none⟩ = some sv ∧ w8.frozen? ⟨W.heap.size + 1, 7, none⟩ = false ∧ W.heap.size + 1 < w8.heap.size) ∧ Kp (fun b => some b = sv.ownBlock) V1 w8 ∧ NL W k (c ++ [n]) v' (vs ++ [x]) (w8.setCell ⟨W.heap.size + 1, 7, none⟩ v') := by
  have h1 := h.below hb
  have kg := Kp.of_grown hg
  have hS : ∀ b, some b = sv.ownBlock → W.heap.size + 2 ≤ b := fun b e => h.sB b e.symm
  have nb8 := kg.blk h1.nb (fun e => by have := hS _ e; omega)
  have rb8 := kg.blk h1.rb (fun e => by have := hS _ e; omega)
  have b8 : Below W.heap.size W w8 := Kp.low h1.bel kg (fun b e => by have := hS b e; omega) h1.bel.size
  have ks := Kp.set w8 (W.heap.size + 1) 7 v'
  have hsz : W.heap.size + 2 ≤ V1.heap.size := by have := blk_lt h1.nb; omega
  have vB : ∀ b, v'.ownBlock = some b → W.heap.size + 2 ≤ b := by
    intro b e
    rcases hq with hq | ⟨q, e1, hq⟩
    · exact h.sB b (by rw [← hq]; exact e)
    · rw [e1] at e
      simp at e
      omega
  have t1 : TL (fun b => W.heap.size + 2 ≤ b ∧ sv.ownBlock ≠ some b) V1 (c ++ [n]) (vs ++ [x]) := TL.kp (Kp.of_below (S := fun _ => False) hb) (fun _ _ h => h) _ _ (TL.app hn h.tl)
  have t4 : TL (fun b => W.heap.size + 2 ≤ b ∧ v'.ownBlock ≠ some b) w8 (c ++ [n]) (vs ++ [x]) := by
    rcases hq with hq | ⟨q, e1, hq⟩
    · rw [hq]; exact TL.kp kg (fun b e e2 => e.2 e2.symm) _ _ t1
    · refine TL.sub (fun b hb2 e => ⟨e.1.1, e.2⟩) _ _ (TL.kp (O := fun b => (W.heap.size + 2 ≤ b ∧ sv.ownBlock ≠ some b) ∧ v'.ownBlock ≠ some b) kg (fun b e e2 => e.1.2 e2.symm) _ _ (TL.sub (fun b hb2 e => ⟨e, ?_⟩) _ _ t1))
      rw [e1]; intro e3; simp at e3; omega
  refine ⟨⟨blk_cell nb8 rfl, blk_frozen nb8, blk_lt nb8⟩, kg, ⟨Kp.low b8 ks (fun b e => by omega) b8.size, blk_other rb8 (by omega) _, ?_, hr.kp ks (fun b e e2 => by have := vB b e; omega), vB, TL.kp ks (fun b e e2 => by have := e.1; omega) _ _ t4⟩⟩
  have := blk_set nb8 7 v'
  rw [this]
  simp
theorem NL.out {W : World} {k : Int} {c : List Nd} {sv : Value} {vs : List Value} {V : World} (h : NL W k c sv vs V) (k' : Int) (d : Tv) (s : Value) (at' : Int) (ok : Bool) :
    Below W.heap.size W (sets10 V W.heap.size k' d s at' ok) ∧ (sets10 V W.heap.size k' d s at' ok).heap[W.heap.size]? = some (BtB k' d s at' ok) ∧ TN (fun b => W.heap.size ≤ b) (sets10 V W.heap.size k' d s at' ok) (.mk k tv0 c) sv := by
  have hk := sets10_kp V W.heap.size k' d s at' ok
  refine ⟨Kp.low h.bel hk (fun j e => by omega) h.bel.size, sets10_at h.rb _ _ _ _ _, ?_⟩
  rw [TN]
  exact ⟨vs, h.rn.kp hk (fun b e e2 => by have := h.sB b e; omega), fun b e => by have := h.sB b e; omega, TL.sub (fun b _ e => by have := e.1; omega) _ _ (TL.kp hk (fun b e e2 => by have := e.1; omega) _ _ h.tl)⟩
/-- What the loop knows. -/
structure NI (W : World) (a : Nat) (L : List Ev) (i : Nat) (k : Int) (j : Nat) (V : World) : Prop where
  ex : ∃ c sv vs, NL W k c sv vs V ∧ c.length + i < j ∧ Lnk a (L.drop i) k c (L.drop j)
  lt : i < j
  le : j ≤ L.length
set_option maxRecDepth 100000 in
set_option maxHeartbeats 1000000 in
theorem node_step (L : List Ev) (hlen : L.length ≤ 1000000000) (i : Nat) (e : Ev) (hi : L[i]? = some e) (h1 : e.k = 1) (IH : ∀ j e, i < j → L[j]? = some e → e.k ≠ 3 → KidC L j) : NodC L i := by
  intro a ao cap W ha hle
  have hil := (List.getElem?_eq_some_iff.1 hi).1
  have hdr : L.drop i = e :: L.drop (i + 1) := by rw [List.drop_eq_getElem_cons hil, (List.getElem?_eq_some_iff.1 hi).2]
  have HLe : Hid (Le W ao L) := hle
  obtain ⟨b, off, rfl, hbl, c0, c1, c2, c3, c4, c5, c6, c7⟩ := Le.at hle (Below.refl _ _) hi
  have HIH := show Hid _ from IH
  obtain ⟨⟨ek, en, ed⟩, he⟩ : ∃ x, e = x := ⟨_, rfl⟩
  subst he
  dsimp only at *
  subst h1
  have hiI : (i : Int) < L.length := by omega
  have hi0 : (0 : Int) ≤ i := by omega
  have hLI : (L.length : Int) ≤ 1000000000 := by omega
  have haI : (a : Int) ≤ 1000 := by omega
  have H0 : Hid (NL W en [] (.slice none 0 0) [] ((W.alloc (BtB 0 tv0 (.slice none 0 0) 0 false)).alloc (NdB en tv0 (.slice none 0 0)))) := by
    have b1 := below_new W (BtB 0 tv0 (.slice none 0 0) 0 false)
    have b2 := below_new (W.alloc (BtB 0 tv0 (.slice none 0 0) 0 false)) (NdB en tv0 (.slice none 0 0))
    exact ⟨b1.trans (b2.mono b1.size), alloc_at' (new_at _ _) _, by rw [← size_al W (BtB 0 tv0 (.slice none 0 0) 0 false)]; exact new_at _ _, rn_nil _, (fun b e => by cases e), by rw [TL]⟩
  obtain ⟨W2, eW2⟩ : ∃ W2, (W.alloc (BtB 0 tv0 (.slice none 0 0) 0 false)).alloc (NdB en tv0 (.slice none 0 0)) = W2 := ⟨_, rfl⟩
  rw [eW2] at H0
  have HBAD : Hid (∀ c sv vs V V' wz, NL W en c sv vs V → Below V.heap.size V V' → sets10 V' W.heap.size 0 tv0 (.slice none 0 0) 0 false = wz → Bad a (L.drop i) → BtP a L i W (.returned (btv 0 tv0 (.slice none 0 0) 0 false)) wz ∧ wz.heap[W.heap.size]? = some (BtB 0 tv0 (.slice none 0 0) 0 false)) := fun c sv vs V V' wz hL hb e hbad => by
    subst e
    obtain ⟨a1, a2, a3⟩ := (hL.below hb).out 0 tv0 (.slice none 0 0) 0 false
    exact ⟨⟨.mk 0 tv0 [], _, 0, false, rfl, tn_nil _ _ _ _, a1, by simp only [Bool.false_eq_true, if_false]; exact hbad⟩, a2⟩
  have HD : Hid (L.drop i = ⟨1, en, ed⟩ :: L.drop (i + 1)) := hdr
  obtain ⟨⟨r0, r1, r2, r3, r4, r5, r6, r7, r8, r9⟩, rl, rf⟩ := bt_cells H0.out.rb
  obtain ⟨⟨n0, n1, n2, n3, n4, n5, n6, n7⟩, nl⟩ := nd_cells H0.out.nb
  clear hdr hle IH hi
  by_cases hbad : en = 0 ∨ 1000 ≤ a
  · have HB : Hid (Bad a (L.drop i)) := by unfold Hid; rw [HD.out]; exact open_bad rfl hbad
    by_cases hz : en = 0
    · subst hz
      go_enter Tryz.func41, Tryz.ntmps41
      go_upto_region 2 with fail
      dsimp only [NdB, BtB, tv0] at eW2
      try rw [eW2]
      clear eW2
      go_wp2_with fail
      obtain ⟨wz, ez⟩ : ∃ wz, sets10 W2 W.heap.size 0 tv0 (.slice none 0 0) 0 false = wz := ⟨_, rfl⟩
      obtain ⟨hz1, hz2⟩ := HBAD.out _ _ _ _ _ wz H0.out (Below.refl _ _) ez HB.out
      dsimp only [sets10, tv0] at ez
      rw [ez]
      obtain ⟨⟨x0, x1, x2, x3, x4, x5, x6, x7, x8, x9⟩, xl, _⟩ := bt_cells hz2
      refine bodyPost_ret (v := btv 0 tv0 (.slice none 0 0) 0 false) (by simp [results, Tryz.f41, go_sem, x0, x1, x2, x3, x4, x5, x6, x7, x8, x9]) rfl ?_
      exact hz1
    · have hzb : (en == 0) = false := by simpa using hz
      have hzI : (a : Int) + 1 > 1000 := by omega
      go_enter Tryz.func41, Tryz.ntmps41
      go_upto_region 2 with fail
      dsimp only [NdB, BtB, tv0] at eW2
      try rw [eW2]
      clear eW2
      go_wp2_with fail
      obtain ⟨wz, ez⟩ : ∃ wz, sets10 W2 W.heap.size 0 tv0 (.slice none 0 0) 0 false = wz := ⟨_, rfl⟩
      obtain ⟨hz1, hz2⟩ := HBAD.out _ _ _ _ _ wz H0.out (Below.refl _ _) ez HB.out
      dsimp only [sets10, tv0] at ez
      rw [ez]
      obtain ⟨⟨x0, x1, x2, x3, x4, x5, x6, x7, x8, x9⟩, xl, _⟩ := bt_cells hz2
      refine bodyPost_ret (v := btv 0 tv0 (.slice none 0 0) 0 false) (by simp [results, Tryz.f41, go_sem, x0, x1, x2, x3, x4, x5, x6, x7, x8, x9]) rfl ?_
      exact hz1
  · have hz : ¬ en = 0 := fun e => hbad (.inl e)
    have hzb : (en == 0) = false := by simpa using hz
    have hzI : ¬ ((a : Int) + 1 > 1000) := by omega
    have HK : Hid (en ≠ 0 ∧ a < 1000) := ⟨hz, by omega⟩
    have HI0 : Hid (NI W a L i en (i + 1) W2) := ⟨⟨[], _, [], H0.out, by simp, by rw [HD.out]; exact open_lnk rfl hbad⟩, by omega, by omega⟩
    go_enter Tryz.func41, Tryz.ntmps41
    go_upto_region 2 with fail
    dsimp only [NdB, BtB, tv0] at eW2
    try rw [eW2]
    clear eW2
    go_wp2_with fail
    clear n0 n1 n2 n3 n4 n5 n6 n7 nl r0 r1 r2 r3 r4 r5 r6 r7 r8 r9 rl rf c0 c1 c2 c3 c4 c5 c6 c7
    go_loopw [1] (fun iv wr => ∃ j : Nat, iv = .int .i64 j ∧ Hid (NI W a L i en j wr)) (fun iv _ => L.length - (intOf iv).toNat)
    case atStart => exact ⟨i + 1, by go_num, HI0⟩
    case round =>
      obtain ⟨j, rfl, HJ⟩ := hrel
      obtain ⟨c, sv, vs, hL, hcl, hlnk⟩ := HJ.out.ex
      have hij := HJ.out.lt
      have hjL := HJ.out.le
      have HL := show Hid _ from hL
      have HN : Hid (Lnk a (L.drop i) en c (L.drop j)) := hlnk
      obtain ⟨ps, cs, hsv, _⟩ := hL.rn.shape
      obtain ⟨ls, hls⟩ : ∃ ls, c.length = ls := ⟨_, rfl⟩
      rw [hls] at hsv
      subst hsv
      obtain ⟨⟨r0, r1, r2, r3, r4, r5, r6, r7, r8, r9⟩, rl, rf⟩ := bt_cells hL.rb
      obtain ⟨⟨n0, n1, n2, n3, n4, n5, n6, n7⟩, nl⟩ := nd_cells hL.nb
      dsimp only [tv0] at n1 n2 n3 n4 n5 n6
      have z2 : (0 : Int) ≤ j := by omega
      by_cases hlt : j < L.length
      · have z1 : (j : Int) < L.length := by omega
        have z3 : ¬ ((j : Int) ≥ L.length) := by omega
        obtain ⟨e3, he3⟩ : ∃ e3, L[j]? = some e3 := ⟨_, List.getElem?_eq_getElem hlt⟩
        have hdj : L.drop j = e3 :: L.drop (j + 1) := by rw [List.drop_eq_getElem_cons hlt, (List.getElem?_eq_some_iff.1 he3).2]
        obtain ⟨_, _, eb, hbl3, k0, k1, _⟩ := Le.at HLe.out hL.bel he3
        simp only [Option.some.injEq, Addr.mk.injEq, and_true] at eb
        obtain ⟨rfl, rfl⟩ := eb
        by_cases h33 : e3.k = 3
        · have h33b : (e3.k != 3) = false := by simpa using h33
          by_cases hnn : e3.n = en
          · have hnnb : (e3.n != en) = false := by simpa using hnn
            have HS : Hid (∀ V wz, Below wr.heap.size wr V → sets10 V W.heap.size en tv0 (.slice ps ls cs) ((j : Int) + 1) true = wz → BtP a L i W (.returned (btv en tv0 (.slice ps ls cs) ((j : Int) + 1) true)) wz ∧ wz.heap[W.heap.size]? = some (BtB en tv0 (.slice ps ls cs) ((j : Int) + 1) true)) := fun V wz hb e => by
              subst e
              obtain ⟨a1, a2, a3⟩ := (HL.out.below hb).out en tv0 (.slice ps ls cs) ((j : Int) + 1) true
              refine ⟨⟨.mk en tv0 c, _, j + 1, true, rfl, a3, a1, ?_⟩, a2⟩
              simp only [if_true]
              have := HN.out
              rw [hdj] at this
              exact ⟨⟨by omega, by omega, fun _ => HK.out.1⟩, this.shut h33 hnn HK.out.1⟩
            clear hL hlnk hdj he3
            go_wp2_with fail
            go_quiet (fail)
            go_wp2_with fail
            obtain ⟨wz, ez⟩ : ∃ wz, sets10 (wr.drewN nq) W.heap.size en tv0 (.slice ps ls cs) ((j : Int) + 1) true = wz := ⟨_, rfl⟩
            obtain ⟨hz1, hz2⟩ := HS.out _ wz (below_dn (Below.refl _ _) nq) ez
            dsimp only [sets10, tv0] at ez
            rw [ez]
            obtain ⟨⟨x0, x1, x2, x3, x4, x5, x6, x7, x8, x9⟩, xl, _⟩ := bt_cells hz2
            refine bodyPost_ret (v := btv en tv0 (.slice ps ls cs) ((j : Int) + 1) true) (by simp [results, Tryz.f41, go_sem, x0, x1, x2, x3, x4, x5, x6, x7, x8, x9]) rfl ?_
            exact hz1
          · have hnnb : (e3.n != en) = true := by simpa using hnn
            have HB : Hid (Bad a (L.drop i)) := by have := HN.out; rw [hdj] at this; exact this.other h33 hnn
            clear hL hlnk hdj he3
            go_wp2_with fail
            go_quiet (fail)
            go_wp2_with fail
            obtain ⟨wz, ez⟩ : ∃ wz, sets10 (wr.drewN nq) W.heap.size 0 tv0 (.slice none 0 0) 0 false = wz := ⟨_, rfl⟩
            obtain ⟨hz1, hz2⟩ := HBAD.out _ _ _ _ _ wz HL.out (below_dn (Below.refl _ _) nq) ez HB.out
            dsimp only [sets10, tv0] at ez
            rw [ez]
            obtain ⟨⟨x0, x1, x2, x3, x4, x5, x6, x7, x8, x9⟩, xl, _⟩ := bt_cells hz2
            refine bodyPost_ret (v := btv 0 tv0 (.slice none 0 0) 0 false) (by simp [results, Tryz.f41, go_sem, x0, x1, x2, x3, x4, x5, x6, x7, x8, x9]) rfl ?_
            exact hz1
        · have h33b : (e3.k != 3) = true := by simpa using h33
          have HC : Hid (Calls Tryz.prog 60 #[.slice (some ⟨b, off, none⟩) L.length cap, .int .i64 (j : Nat), .int .i64 ((a : Int) + 1)] wr (BtP (a + 1) L j wr)) := HIH.out j e3 hij he3 h33 (a + 1) _ cap wr (by have := HK.out.2; omega) (HLe.out.below hL.bel)
          have hcc : c.length ≤ 1000000000 := by omega
          have HCC := show Hid _ from hcc
          clear hL hlnk hdj he3
          go_wp2_with fail
          refine HC.out.mono ?_
          rintro x w5 ⟨m5, sv5, at5, ok5, rfl, tn5, hb5, hok5⟩
          obtain ⟨p6, m6, c6, hsv6⟩ : ∃ p6 m6 c6, sv5 = .slice p6 m6 c6 := by
            obtain ⟨nk, ndd, ncc⟩ := m5
            rw [TN] at tn5
            obtain ⟨vs6, hrn6, _⟩ := tn5
            obtain ⟨pp, cp, e, _⟩ := hrn6.shape
            exact ⟨pp, _, cp, e⟩
          subst hsv6
          have H5 : Hid (NL W en c (.slice ps ls cs) vs w5 ∧ TN (fun b => W.heap.size + 2 ≤ b ∧ (Value.slice ps ls cs).ownBlock ≠ some b) w5 m5 (.slice p6 m6 c6)) := ⟨HL.out.below hb5, TN.sub (fun b _ e => ⟨by have := blk_lt HL.out.nb; omega, fun e2 => by have := HL.out.rn.lt _ e2; omega⟩) _ _ tn5⟩
          have Hok := show Hid _ from hok5
          obtain ⟨W6, eW6⟩ : ∃ W6, w5.alloc (BtB m5.k m5.d (.slice p6 m6 c6) (at5 : Nat) ok5) = W6 := ⟨_, rfl⟩
          have H6 : Hid (Below w5.heap.size w5 W6 ∧ W6.heap[w5.heap.size]? = some (BtB m5.k m5.d (.slice p6 m6 c6) (at5 : Nat) ok5)) := by rw [← eW6]; exact ⟨below_new _ _, new_at _ _⟩
          clear tn5 hb5 hok5 n0 n1 n2 n3 n4 n5 n6 n7 nl r0 r1 r2 r3 r4 r5 r6 r7 r8 r9 rl rf
          go_upto_region 7 with fail
          try rw [eW6]
          clear eW6
          obtain ⟨⟨i0, i1, i2, i3, i4, i5, i6, i7, i8, i9⟩, il, _⟩ := bt_cells H6.out.2
          have H7 : Hid (NL W en c (.slice ps ls cs) vs W6) := H5.out.1.below H6.out.1
          obtain ⟨⟨r0, r1, r2, r3, r4, r5, r6, r7, r8, r9⟩, rl, rf⟩ := bt_cells H7.out.rb
          cases ok5 with
          | false =>
            have HB : Hid (Bad a (L.drop i)) := HN.out.bad Hok.out
            go_wp2_with fail
            obtain ⟨wz, ez⟩ : ∃ wz, sets10 W6 W.heap.size 0 tv0 (.slice none 0 0) 0 false = wz := ⟨_, rfl⟩
            obtain ⟨hz1, hz2⟩ := HBAD.out _ _ _ _ _ wz H7.out (Below.refl _ _) ez HB.out
            dsimp only [sets10, tv0] at ez
            rw [ez]
            obtain ⟨⟨x0, x1, x2, x3, x4, x5, x6, x7, x8, x9⟩, xl, _⟩ := bt_cells hz2
            refine bodyPost_ret (v := btv 0 tv0 (.slice none 0 0) 0 false) (by simp [results, Tryz.f41, go_sem, x0, x1, x2, x3, x4, x5, x6, x7, x8, x9]) rfl ?_
            exact hz1
          | true =>
            have hok : (j < at5 ∧ at5 ≤ L.length ∧ ((∃ e, L[j]? = some e ∧ e.k = 1) → m5.k ≠ 0)) ∧ Aft (a + 1) (L.drop j) m5 (L.drop at5) := Hok.out
            obtain ⟨⟨ho1, ho2, _⟩, hoa⟩ := hok
            have HN2 : Hid (Lnk a (L.drop i) en (c ++ [m5]) (L.drop at5)) := HN.out.kid hoa
            have HTN : Hid (TN (fun b => W.heap.size + 2 ≤ b ∧ (Value.slice ps ls cs).ownBlock ≠ some b) W6 m5 (.slice p6 m6 c6)) := TN.kp (Kp.of_below (S := fun _ => False) H6.out.1) (fun _ _ h => h) _ _ H5.out.2
            have n7 : W6.cell? ⟨W.heap.size + 1, 7, none⟩ = some (.slice ps ls cs) := blk_cell H7.out.nb rfl
            have nl : W.heap.size + 1 < W6.heap.size := blk_lt H7.out.nb
            have hgx : ∀ w8 V1, Below W6.heap.size W6 V1 → Kp (fun b => some b = (Value.slice ps ls cs).ownBlock) V1 w8 → w8.cell? ⟨w5.heap.size, 8, none⟩ = some (.int .i64 (at5 : Nat)) ∧ w5.heap.size < w8.heap.size := fun w8 V1 hb hk => by
              have h1 := blk_below H6.out.2 hb
              have h2 := hk.blk h1 (fun e => by have := H5.out.1.rn.lt _ e.symm; omega)
              exact ⟨(bt_cells h2).1.2.2.2.2.2.2.2.2.1, blk_lt h2⟩
            have HGX := show Hid _ from hgx
            have hne : W.heap.size + 1 ≠ w5.heap.size := by have := blk_lt H5.out.1.nb; omega
            have hne2 : w5.heap.size ≠ W.heap.size + 1 := by omega
            clear hoa hgx hls r0 r1 r2 r3 r4 r5 r6 r7 r8 r9 rl rf
            go_wp2_with (at_builtin; refine app_nd (by rfl) _ _ (by rfl) (.slice ps ls cs) c vs m5 p6 m6 c6 (by rfl) (H7.out.below (below_new _ _)).rn W6.heap.size 1 (by rfl) (new_at _ _) HCC.out ?_; intro v8 w8 h1 h2 h3; obtain ⟨p8, c8, hv8, _⟩ := h1.shape; obtain ⟨l8, hl8⟩ : ∃ l8, (c ++ [m5]).length = l8 := ⟨_, rfl⟩; rw [hl8] at hv8; subst hv8; obtain ⟨⟨y1, y2, y3⟩, ykp, y6⟩ := H7.out.push (below_new _ _) HTN.out h1 h2 h3; obtain ⟨y7, y8⟩ := HGX.out w8 _ (below_new _ _) ykp; have H8 : Hid (NL W en (c ++ [m5]) (.slice p8 l8 c8) (vs ++ [.slice p6 m6 c6]) (w8.setCell ⟨W.heap.size + 1, 7, none⟩ (.slice p8 l8 c8))) := y6; clear y6 ykp h1 h2 h3 hl8)
            exact ⟨⟨at5, rfl, ⟨⟨c ++ [m5], _, _, H8.out, by simp; omega, HN2.out⟩, by omega, ho2⟩⟩, by simp [intOf]; omega⟩
      · obtain rfl : j = L.length := by omega
        have z1 : ¬ ((L.length : Int) < L.length) := by omega
        have z3 : ((L.length : Int) ≥ L.length) := by omega
        have HB : Hid (Bad a (L.drop i)) := by have := HN.out; rw [List.drop_length] at this; exact this.nil
        clear hL hlnk
        go_wp2_with fail
        go_quiet (fail)
        go_wp2_with fail
        obtain ⟨wz, ez⟩ : ∃ wz, sets10 (wr.drewN nq) W.heap.size 0 tv0 (.slice none 0 0) 0 false = wz := ⟨_, rfl⟩
        obtain ⟨hz1, hz2⟩ := HBAD.out _ _ _ _ _ wz HL.out (below_dn (Below.refl _ _) nq) ez HB.out
        dsimp only [sets10, tv0] at ez
        rw [ez]
        obtain ⟨⟨x0, x1, x2, x3, x4, x5, x6, x7, x8, x9⟩, xl, _⟩ := bt_cells hz2
        refine bodyPost_ret (v := btv 0 tv0 (.slice none 0 0) 0 false) (by simp [results, Tryz.f41, go_sem, x0, x1, x2, x3, x4, x5, x6, x7, x8, x9]) rfl ?_
        exact hz1

set_option maxRecDepth 100000 in
set_option maxHeartbeats 1000000 in
/-- Given the node that begins there, if one does. -/
theorem kid_step (L : List Ev) (hlen : L.length ≤ 1000000000) (i : Nat) (e : Ev) (hi : L[i]? = some e) (h3 : e.k ≠ 3) (HND : e.k = 1 → NodC L i) : KidC L i := by
  intro a ao cap W ha hle
  have hil := (List.getElem?_eq_some_iff.1 hi).1
  have hdr : L.drop i = e :: L.drop (i + 1) := by rw [List.drop_eq_getElem_cons hil, (List.getElem?_eq_some_iff.1 hi).2]
  have HLe : Hid (Le W ao L) := hle
  obtain ⟨b, off, rfl, hbl, c0, c1, c2, c3, c4, c5, c6, c7⟩ := Le.at hle (Below.refl _ _) hi
  obtain ⟨⟨ek, en, ed⟩, he⟩ : ∃ x, e = x := ⟨_, rfl⟩
  subst he
  dsimp only at *
  have hiI : (i : Int) < L.length := by omega
  have hiI2 : ¬ ((i : Int) ≥ L.length) := by omega
  have hi0 : (0 : Int) ≤ i := by omega
  have hLI : (L.length : Int) ≤ 1000000000 := by omega
  have haI : (a : Int) ≤ 1000 := by omega
  have HKf : Hid (∀ V, Calls Tryz.prog 86 #[.agg #[.int .u8 ed.k, .string ed.t, .int .i64 ed.a, .int .i64 ed.l, .int .i64 ed.c, .int .i64 ed.f]] V fun r w' => r = .returned (.bool (cm ed)) ∧ Below V.heap.size V w') := fun V => rcomment_any ed V
  obtain ⟨W2, eW2⟩ : ∃ W2, (W.alloc (BtB 0 tv0 (.slice none 0 0) 0 false)).alloc (EvB ek en ed) = W2 := ⟨_, rfl⟩
  have H2 : Hid (Below W.heap.size W W2 ∧ W2.heap[W.heap.size]? = some (BtB 0 tv0 (.slice none 0 0) 0 false) ∧ W2.heap[W.heap.size + 1]? = some (EvB ek en ed)) := by
    have b1 := below_new W (BtB 0 tv0 (.slice none 0 0) 0 false)
    have b2 := below_new (W.alloc (BtB 0 tv0 (.slice none 0 0) 0 false)) (EvB ek en ed)
    rw [← eW2]
    exact ⟨b1.trans (b2.mono b1.size), alloc_at' (new_at _ _) _, by rw [← size_al W (BtB 0 tv0 (.slice none 0 0) 0 false)]; exact new_at _ _⟩
  have HO : Hid (∀ V wz k d s at' ok, Below W2.heap.size W2 V → sets10 V W.heap.size k d s at' ok = wz → Below W.heap.size W wz ∧ wz.heap[W.heap.size]? = some (BtB k d s at' ok)) := fun V wz k d s at' ok hb e => by
    subst e
    have h1 := H2.out.1.trans (hb.mono H2.out.1.size)
    exact ⟨Kp.low h1 (sets10_kp _ _ _ _ _ _ _) (fun j e => by omega) h1.size, sets10_at (blk_below H2.out.2.1 hb) _ _ _ _ _⟩
  have HD : Hid (L.drop i = ⟨ek, en, ed⟩ :: L.drop (i + 1)) := hdr
  obtain ⟨⟨f0, f1, f2, f3, f4, f5, f6, f7⟩, fl⟩ := ev_cells H2.out.2.2
  have HIi : Hid (L[i]? = some ⟨ek, en, ed⟩) := hi
  clear hdr hi hle
  by_cases h1 : ek = 1
  · subst h1
    have HN : Hid (∀ V, Below W.heap.size W V → Calls Tryz.prog 41 #[.slice (some ⟨b, off, none⟩) L.length cap, .int .i64 (i : Nat), .int .i64 ((a : Int) + 1)] V (BtP a L i V)) := fun V hb => HND rfl a _ cap V ha (HLe.out.below hb)
    clear HND h3
    go_enter Tryz.func60, Tryz.ntmps60
    go_upto_region 4 with fail
    dsimp only [EvB, BtB, tv0] at eW2
    try rw [eW2]
    clear eW2
    go_wp2_with fail
    refine (HKf.out _).mono ?_
    rintro x w3 ⟨rfl, hb3⟩
    have H3 : Hid (Below W2.heap.size W2 w3) := hb3
    obtain ⟨⟨g0, g1, g2, g3, g4, g5, g6, g7⟩, gl⟩ := ev_cells (blk_below H2.out.2.2 hb3)
    clear hb3
    go_wp2_with fail
    refine (HN.out _ (H2.out.1.trans (H3.out.mono H2.out.1.size))).mono ?_
    rintro x w4 ⟨n4, sv4, at4, ok4, rfl, tn4, hb4, hok4⟩
    obtain ⟨p6, m6, c6', hsv6⟩ : ∃ p6 m6 c6, sv4 = .slice p6 m6 c6 := by
      obtain ⟨nk, ndd, ncc⟩ := n4
      rw [TN] at tn4
      obtain ⟨vs6, hrn6, _⟩ := tn4
      obtain ⟨pp, cp, e, _⟩ := hrn6.shape
      exact ⟨pp, _, cp, e⟩
    subst hsv6
    have H4 : Hid (Below W2.heap.size W2 w4) := H3.out.trans (hb4.mono H3.out.size)
    obtain ⟨⟨r0, r1, r2, r3, r4, r5, r6, r7, r8, r9⟩, rl, rf⟩ := bt_cells (blk_below H2.out.2.1 H4.out)
    have HT : Hid (TN (fun k => w3.heap.size ≤ k) w4 n4 (.slice p6 m6 c6') ∧ (if ok4 then (i < at4 ∧ at4 ≤ L.length ∧ ((∃ e, L[i]? = some e ∧ e.k = 1) → n4.k ≠ 0)) ∧ Aft a (L.drop i) n4 (L.drop at4) else Bad a (L.drop i))) := ⟨tn4, hok4⟩
    have h3s : W.heap.size < w3.heap.size := blk_lt (blk_below H2.out.2.1 H3.out)
    clear tn4 hb4 hok4
    go_wp2_with fail
    obtain ⟨wz, ez⟩ : ∃ wz, sets10 w4 W.heap.size n4.k n4.d (.slice p6 m6 c6') (at4 : Nat) ok4 = wz := ⟨_, rfl⟩
    obtain ⟨hz1, hz2⟩ := HO.out _ wz _ _ _ _ _ H4.out ez
    have hz3 : TN (fun k => W.heap.size ≤ k) wz n4 (.slice p6 m6 c6') := by
      rw [← ez]
      exact TN.sub (fun b _ h => by omega) _ _ (TN.kp (sets10_kp _ _ _ _ _ _ _) (fun b h1 h2 => by omega) _ _ HT.out.1)
    dsimp only [sets10] at ez
    rw [ez]
    obtain ⟨⟨x0, x1, x2, x3, x4, x5, x6, x7, x8, x9⟩, xl, _⟩ := bt_cells hz2
    refine bodyPost_ret (v := btv n4.k n4.d (.slice p6 m6 c6') (at4 : Nat) ok4) (by simp [results, Tryz.f60, go_sem, x0, x1, x2, x3, x4, x5, x6, x7, x8, x9]) rfl ?_
    exact ⟨n4, _, at4, ok4, rfl, hz3, hz1, HT.out.2⟩
  · have h1b : (ek == 1) = false := by simpa using h1
    have h3b : (ek == 3) = false := by simpa using h3
    have HR : Hid (∀ V wz ok, Below W2.heap.size W2 V → sets10 V W.heap.size 0 ed (.slice none 0 0) ((i : Int) + 1) ok = wz → ok = (ek == kof ed) → BtP a L i W (.returned (btv 0 ed (.slice none 0 0) ((i : Int) + 1) ok)) wz ∧ wz.heap[W.heap.size]? = some (BtB 0 ed (.slice none 0 0) ((i : Int) + 1) ok)) := fun V wz ok hb ez hok => by
      obtain ⟨hz1, hz2⟩ := HO.out _ wz _ _ _ _ _ hb ez
      refine ⟨⟨.mk 0 ed [], _, i + 1, ok, rfl, tn_nil _ _ _ _, hz1, ?_⟩, hz2⟩
      rw [HD.out, hok]
      by_cases hq : ek = kof ed
      · rw [if_pos (by simpa using hq)]
        exact ⟨⟨by omega, by omega, fun ⟨e', h, h'⟩ => by rw [HIi.out] at h; cases h; exact absurd h' h1⟩, leaf_good (e := ⟨ek, en, ed⟩) hq⟩
      · rw [if_neg (by simpa using hq)]
        exact leaf_bad (e := ⟨ek, en, ed⟩) h1 hq (fun h => absurd h h3)
    have HE : Hid (∀ V wz, Below W2.heap.size W2 V → sets10 V W.heap.size 0 tv0 (.slice none 0 0) 0 false = wz → ek ≠ 2 → ek ≠ 4 → BtP a L i W (.returned (btv 0 tv0 (.slice none 0 0) 0 false)) wz ∧ wz.heap[W.heap.size]? = some (BtB 0 tv0 (.slice none 0 0) 0 false)) := fun V wz hb ez e2 e4 => by
      obtain ⟨hz1, hz2⟩ := HO.out _ wz _ _ _ _ _ hb ez
      refine ⟨⟨.mk 0 tv0 [], _, 0, false, rfl, tn_nil _ _ _ _, hz1, ?_⟩, hz2⟩
      simp only [Bool.false_eq_true, if_false]
      rw [HD.out]
      refine leaf_bad (e := ⟨ek, en, ed⟩) h1 (fun e => ?_) (fun h => absurd h h3)
      have e' : ek = kof ed := e
      unfold kof at e'
      split at e'
      · exact e4 e'
      · exact e2 e'
    obtain ⟨cb, hcb⟩ : ∃ cb, cm ed = cb := ⟨_, rfl⟩
    rw [hcb] at HKf
    have HKO : Hid (kof ed = if cb then 4 else 2) := by unfold Hid kof; rw [hcb]
    clear HND h3 hcb
    go_enter Tryz.func60, Tryz.ntmps60
    go_upto_region 4 with fail
    dsimp only [EvB, BtB, tv0] at eW2
    try rw [eW2]
    clear eW2
    go_wp2_with fail
    refine (HKf.out _).mono ?_
    rintro x w3 ⟨rfl, hb3⟩
    have H3 : Hid (Below W2.heap.size W2 w3) := hb3
    obtain ⟨⟨g0, g1, g2, g3, g4, g5, g6, g7⟩, gl⟩ := ev_cells (blk_below H2.out.2.2 hb3)
    obtain ⟨⟨r0, r1, r2, r3, r4, r5, r6, r7, r8, r9⟩, rl, rf⟩ := bt_cells (blk_below H2.out.2.1 hb3)
    clear hb3 f0 f1 f2 f3 f4 f5 f6 f7 fl c0 c1 c2 c3 c4 c5 c6 c7
    by_cases h2 : ek = 2
    · subst h2
      go_wp2_with fail
      obtain ⟨wz, ez⟩ : ∃ wz, sets10 w3 W.heap.size 0 ed (.slice none 0 0) ((i : Int) + 1) (!cb) = wz := ⟨_, rfl⟩
      obtain ⟨hz1, hz2⟩ := HR.out _ wz _ H3.out ez (by rw [HKO.out]; cases cb <;> rfl)
      dsimp only [sets10] at ez
      rw [ez]
      obtain ⟨⟨x0, x1, x2, x3, x4, x5, x6, x7, x8, x9⟩, xl, _⟩ := bt_cells hz2
      refine bodyPost_ret (v := btv 0 ed (.slice none 0 0) ((i : Int) + 1) (!cb)) (by simp [results, Tryz.f60, go_sem, x0, x1, x2, x3, x4, x5, x6, x7, x8, x9]) rfl ?_
      exact hz1
    · have h2b : (ek == 2) = false := by simpa using h2
      by_cases h4 : ek = 4
      · subst h4
        go_wp2_with fail
        obtain ⟨wz, ez⟩ : ∃ wz, sets10 w3 W.heap.size 0 ed (.slice none 0 0) ((i : Int) + 1) cb = wz := ⟨_, rfl⟩
        obtain ⟨hz1, hz2⟩ := HR.out _ wz _ H3.out ez (by rw [HKO.out]; cases cb <;> rfl)
        dsimp only [sets10] at ez
        rw [ez]
        obtain ⟨⟨x0, x1, x2, x3, x4, x5, x6, x7, x8, x9⟩, xl, _⟩ := bt_cells hz2
        refine bodyPost_ret (v := btv 0 ed (.slice none 0 0) ((i : Int) + 1) cb) (by simp [results, Tryz.f60, go_sem, x0, x1, x2, x3, x4, x5, x6, x7, x8, x9]) rfl ?_
        exact hz1
      · have h4b : (ek == 4) = false := by simpa using h4
        go_wp2_with fail
        obtain ⟨wz, ez⟩ : ∃ wz, sets10 w3 W.heap.size 0 tv0 (.slice none 0 0) 0 false = wz := ⟨_, rfl⟩
        obtain ⟨hz1, hz2⟩ := HE.out _ wz H3.out ez h2 h4
        dsimp only [sets10, tv0] at ez
        rw [ez]
        obtain ⟨⟨x0, x1, x2, x3, x4, x5, x6, x7, x8, x9⟩, xl, _⟩ := bt_cells hz2
        refine bodyPost_ret (v := btv 0 tv0 (.slice none 0 0) 0 false) (by simp [results, Tryz.f60, go_sem, x0, x1, x2, x3, x4, x5, x6, x7, x8, x9]) rfl ?_
        exact hz1

theorem both_any (L : List Ev) (hlen : L.length ≤ 1000000000) (s : Nat) : ∀ i e, L.length - i = s → L[i]? = some e → (e.k = 1 → NodC L i) ∧ (e.k ≠ 3 → KidC L i) := by
  induction s using Nat.strongRecOn with
  | ind s ih =>
    intro i e hs hi
    have hil := (List.getElem?_eq_some_iff.1 hi).1
    have hN : e.k = 1 → NodC L i := fun h1 => node_step L hlen i e hi h1 (fun j e' hj hej h3 => (ih (L.length - j) (by have := (List.getElem?_eq_some_iff.1 hej).1; omega) j e' rfl hej).2 h3)
    exact ⟨hN, fun h3 => kid_step L hlen i e hi h3 hN⟩

end Go.Proofs.YtkigadnkclkopaaGreat

set_option linter.unusedVariables false
set_option linter.unusedSimpArgs false
namespace Go.Proofs.YtkigadnkclkopaaGreat
open Go.RowKit

set_option maxRecDepth 100000 in
set_option maxHeartbeats 1000000 in
/-- The document's Build. -/
theorem rbuild_any (l : List Ev) (W : World) (ao : Option Addr) (cap : Nat) (h : Le W ao l) (hlen : l.length ≤ 1000000000) : Calls Tryz.prog 24 #[.slice ao l.length cap] W (BdP l W) := by
  have HO : Hid (∀ V wz k d s, Below W.heap.size W V → V.heap[W.heap.size]? = some (NdB 0 tv0 (.slice none 0 0)) → sets8 V W.heap.size k d s = wz → Below W.heap.size W wz ∧ wz.heap[W.heap.size]? = some (NdB k d s)) := fun V wz k d s hb hr e => by
    subst e
    exact ⟨Kp.low hb (sets8_kp _ _ _ _ _) (fun j e => by omega) hb.size, sets8_at hr _ _ _⟩
  have HBAD : Hid (bld l [] = none → ∀ V wz, Below W.heap.size W V → V.heap[W.heap.size]? = some (NdB 0 tv0 (.slice none 0 0)) → sets8 V W.heap.size 0 tv0 (.slice none 0 0) = wz → BdP l W (.returned (.tuple #[ndv 0 tv0 (.slice none 0 0), .int .i64 130])) wz ∧ wz.heap[W.heap.size]? = some (NdB 0 tv0 (.slice none 0 0))) := fun hb V wz hbl hr ez => by
    obtain ⟨hz1, hz2⟩ := HO.out V wz _ _ _ hbl hr ez
    have e : bo l = (.mk 0 tv0 [], 130) := by unfold bo; rw [hb]
    refine ⟨⟨.slice none 0 0, ?_, ?_, hz1⟩, hz2⟩
    · rw [e]; rfl
    · rw [e]; exact tn_nil _ _ _ _
  obtain ⟨W1, eW1⟩ : ∃ W1, W.alloc (NdB 0 tv0 (.slice none 0 0)) = W1 := ⟨_, rfl⟩
  have H1 : Hid (Below W.heap.size W W1 ∧ W1.heap[W.heap.size]? = some (NdB 0 tv0 (.slice none 0 0))) := by rw [← eW1]; exact ⟨below_new _ _, new_at _ _⟩
  obtain ⟨⟨y0, y1, y2, y3, y4, y5, y6, y7⟩, yl⟩ := nd_cells H1.out.2
  obtain ⟨f0, f1, f2, f3, f4, f5, f6, f7⟩ := nd_frozen H1.out.2
  cases l with
  | nil =>
    have HE : Hid (bld [] [] = none) := rfl
    clear h
    go_enter Tryz.func24, Tryz.ntmps24
    go_upto_region 2 with fail
    dsimp only [NdB, tv0] at eW1
    try rw [eW1]
    clear eW1
    go_wp2_with fail
    obtain ⟨wz, ez⟩ : ∃ wz, sets8 W1 W.heap.size 0 tv0 (.slice none 0 0) = wz := ⟨_, rfl⟩
    obtain ⟨hz1, hz2⟩ := HBAD.out HE.out _ wz H1.out.1 H1.out.2 ez
    dsimp only [sets8, tv0] at ez
    rw [ez]
    obtain ⟨⟨x0, x1, x2, x3, x4, x5, x6, x7⟩, xl⟩ := nd_cells hz2
    refine bodyPost_ret (v := .tuple #[ndv 0 tv0 (.slice none 0 0), .int .i64 130]) (by simp [results, Tryz.f24, go_sem, x0, x1, x2, x3, x4, x5, x6, x7]) rfl ?_
    exact hz1
  | cons e r =>
    obtain ⟨b, off, rfl, hbl, c0, c1, c2, c3, c4, c5, c6, c7⟩ := Le.at h (below_new W (NdB 0 tv0 (.slice none 0 0))) (j := 0) (d := e) rfl
    rw [Nat.zero_mul, Nat.add_zero] at c0
    rw [eW1] at c0 hbl
    have hl5 : ¬ ((r.length : Int) + 1 = 0) := by omega
    have hl6 : ((r.length : Int) + 1 == 0) = false := by simpa using hl5
    have hl7 : (0 : Int) < (r.length : Int) + 1 := by omega
    by_cases hk1 : e.k = 1
    · have hk1b : (e.k != 1) = false := by simpa using hk1
      have HC : Hid (Calls Tryz.prog 41 #[.slice (some ⟨b, off, none⟩) (r.length + 1) cap, .int .i64 0, .int .i64 1] W1 (BtP 0 (e :: r) 0 W1)) := (both_any (e :: r) hlen _ 0 e rfl rfl).1 hk1 0 _ cap W1 (by omega) (h.below H1.out.1)
      have HK1 : Hid (e.k = 1) := hk1
      clear h hk1 c1 c2 c3 c4 c5 c6 c7
      go_enter Tryz.func24, Tryz.ntmps24
      go_upto_region 1 with fail
      dsimp only [NdB, tv0] at eW1
      try rw [eW1]
      clear eW1
      go_wp2_with fail
      refine HC.out.mono ?_
      rintro x w3 ⟨n3, sv3, at3, ok3, rfl, tn3, hb3, hok3⟩
      obtain ⟨p6, m6, c6', hsv6⟩ : ∃ p6 m6 c6, sv3 = .slice p6 m6 c6 := by
        obtain ⟨nk, ndd, ncc⟩ := n3
        rw [TN] at tn3
        obtain ⟨vs6, hrn6, _⟩ := tn3
        obtain ⟨pp, cp, e, _⟩ := hrn6.shape
        exact ⟨pp, _, cp, e⟩
      subst hsv6
      obtain ⟨W4, eW4⟩ : ∃ W4, w3.alloc (BtB n3.k n3.d (.slice p6 m6 c6') (at3 : Nat) ok3) = W4 := ⟨_, rfl⟩
      have hW1 : W.heap.size < W1.heap.size := blk_lt H1.out.2
      have H4 : Hid (Below W.heap.size W W4 ∧ W4.heap[W.heap.size]? = some (NdB 0 tv0 (.slice none 0 0)) ∧ W4.heap[w3.heap.size]? = some (BtB n3.k n3.d (.slice p6 m6 c6') (at3 : Nat) ok3) ∧ TN (fun k => W1.heap.size ≤ k) W4 n3 (.slice p6 m6 c6')) := by
        rw [← eW4]
        have hn := below_new w3 (BtB n3.k n3.d (.slice p6 m6 c6') (at3 : Nat) ok3)
        have h1 := hb3.trans (hn.mono hb3.size)
        exact ⟨H1.out.1.trans (h1.mono H1.out.1.size), blk_below H1.out.2 h1, new_at _ _, TN.kp (Kp.of_below (S := fun _ => False) hn) (fun _ _ h => h) _ _ tn3⟩
      have Hok : Hid (bld (e :: r) [] = if ok3 then aft ((e :: r).drop at3) n3 [] else none) := by
        cases ok3
        · exact hok3 [] rfl
        · exact hok3.2 [] rfl
      have Hat : Hid (ok3 = true → at3 ≤ r.length + 1 ∧ n3.k ≠ 0) := by
        rintro rfl
        exact ⟨hok3.1.2.1, hok3.1.2.2 ⟨e, rfl, HK1.out⟩⟩
      clear tn3 hb3 hok3 y0 y1 y2 y3 y4 y5 y6 y7 yl f0 f1 f2 f3 f4 f5 f6 f7 HC
      go_upto_region 4 with fail
      try rw [eW4]
      clear eW4
      obtain ⟨⟨i0, i1, i2, i3, i4, i5, i6, i7, i8, i9⟩, il, _⟩ := bt_cells H4.out.2.2.1
      obtain ⟨⟨y0, y1, y2, y3, y4, y5, y6, y7⟩, yl⟩ := nd_cells H4.out.2.1
      obtain ⟨f0, f1, f2, f3, f4, f5, f6, f7⟩ := nd_frozen H4.out.2.1
      cases ok3 with
      | false =>
        have HE : Hid (bld (e :: r) [] = none) := by have := Hok.out; unfold Hid; simpa using this
        go_wp2_with fail
        obtain ⟨wz, ez⟩ : ∃ wz, sets8 W4 W.heap.size 0 tv0 (.slice none 0 0) = wz := ⟨_, rfl⟩
        obtain ⟨hz1, hz2⟩ := HBAD.out HE.out _ wz H4.out.1 H4.out.2.1 ez
        dsimp only [sets8, tv0] at ez
        rw [ez]
        obtain ⟨⟨x0, x1, x2, x3, x4, x5, x6, x7⟩, xl⟩ := nd_cells hz2
        refine bodyPost_ret (v := .tuple #[ndv 0 tv0 (.slice none 0 0), .int .i64 130]) (by simp [results, Tryz.f24, go_sem, x0, x1, x2, x3, x4, x5, x6, x7]) rfl ?_
        exact hz1
      | true =>
        obtain ⟨ha1, ha2⟩ := Hat.out rfl
        by_cases hat : at3 = r.length + 1
        · have hatI : (at3 : Int) = (r.length : Int) + 1 := by omega
          have hatb : ((at3 : Int) != (r.length : Int) + 1) = false := by simpa using hatI
          have HE : Hid (bld (e :: r) [] = some n3) := by
            have := Hok.out
            unfold Hid
            rw [this]
            simp only [if_true, aft]
            rw [if_neg ha2, if_pos (by rw [hat]; exact List.drop_length (l := e :: r))]
          have HGOOD : Hid (∀ wz, sets8 W4 W.heap.size n3.k n3.d (.slice p6 m6 c6') = wz → BdP (e :: r) W (.returned (.tuple #[ndv n3.k n3.d (.slice p6 m6 c6'), .int .i64 0])) wz ∧ wz.heap[W.heap.size]? = some (NdB n3.k n3.d (.slice p6 m6 c6'))) := fun wz ez => by
            obtain ⟨hz1, hz2⟩ := HO.out W4 wz _ _ _ H4.out.1 H4.out.2.1 ez
            have e' : bo (e :: r) = (n3, 0) := by unfold bo; rw [HE.out]
            refine ⟨⟨.slice p6 m6 c6', ?_, ?_, hz1⟩, hz2⟩
            · rw [e']
            · rw [e', ← ez]
              exact TN.sub (fun b _ h => by omega) _ _ (TN.kp (sets8_kp _ _ _ _ _) (fun b h1 h2 => by omega) _ _ H4.out.2.2.2)
          clear hat ha2
          go_wp2_with fail
          obtain ⟨wz, ez⟩ : ∃ wz, sets8 W4 W.heap.size n3.k n3.d (.slice p6 m6 c6') = wz := ⟨_, rfl⟩
          obtain ⟨hz1, hz2⟩ := HGOOD.out wz ez
          dsimp only [sets8] at ez
          rw [ez]
          obtain ⟨⟨x0, x1, x2, x3, x4, x5, x6, x7⟩, xl⟩ := nd_cells hz2
          refine bodyPost_ret (v := .tuple #[ndv n3.k n3.d (.slice p6 m6 c6'), .int .i64 0]) (by simp [results, Tryz.f24, go_sem, x0, x1, x2, x3, x4, x5, x6, x7]) rfl ?_
          exact hz1
        · have hatI : ¬ (at3 : Int) = (r.length : Int) + 1 := by omega
          have hatb : ((at3 : Int) != (r.length : Int) + 1) = true := by simpa using hatI
          have HE : Hid (bld (e :: r) [] = none) := by
            have := Hok.out
            unfold Hid
            rw [this]
            simp only [if_true, aft]
            rw [if_neg ha2, if_neg (fun h => by
              have := congrArg List.length h
              rw [List.length_drop] at this
              simp at this
              omega)]
          clear ha2
          go_wp2_with fail
          obtain ⟨wz, ez⟩ : ∃ wz, sets8 W4 W.heap.size 0 tv0 (.slice none 0 0) = wz := ⟨_, rfl⟩
          obtain ⟨hz1, hz2⟩ := HBAD.out HE.out _ wz H4.out.1 H4.out.2.1 ez
          dsimp only [sets8, tv0] at ez
          rw [ez]
          obtain ⟨⟨x0, x1, x2, x3, x4, x5, x6, x7⟩, xl⟩ := nd_cells hz2
          refine bodyPost_ret (v := .tuple #[ndv 0 tv0 (.slice none 0 0), .int .i64 130]) (by simp [results, Tryz.f24, go_sem, x0, x1, x2, x3, x4, x5, x6, x7]) rfl ?_
          exact hz1
    · have hk1b : (e.k != 1) = true := by simpa using hk1
      have HE : Hid (bld (e :: r) [] = none) := by
        unfold Hid
        simp only [bld]
        rw [if_neg hk1]
        split
        · rfl
        · split <;> rfl
      clear h hk1 c1 c2 c3 c4 c5 c6 c7
      go_enter Tryz.func24, Tryz.ntmps24
      go_upto_region 1 with fail
      dsimp only [NdB, tv0] at eW1
      try rw [eW1]
      clear eW1
      go_wp2_with fail
      obtain ⟨wz, ez⟩ : ∃ wz, sets8 W1 W.heap.size 0 tv0 (.slice none 0 0) = wz := ⟨_, rfl⟩
      obtain ⟨hz1, hz2⟩ := HBAD.out HE.out _ wz H1.out.1 H1.out.2 ez
      dsimp only [sets8, tv0] at ez
      rw [ez]
      obtain ⟨⟨x0, x1, x2, x3, x4, x5, x6, x7⟩, xl⟩ := nd_cells hz2
      refine bodyPost_ret (v := .tuple #[ndv 0 tv0 (.slice none 0 0), .int .i64 130]) (by simp [results, Tryz.f24, go_sem, x0, x1, x2, x3, x4, x5, x6, x7]) rfl ?_
      exact hz1

end Go.Proofs.YtkigadnkclkopaaGreat
