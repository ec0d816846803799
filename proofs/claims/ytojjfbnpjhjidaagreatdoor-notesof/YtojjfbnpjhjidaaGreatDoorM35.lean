import Derived.Test.YtojjfbnpjhjidaaGreatDoorM11
import Derived.Test.YtojjfbnpjhjidaaGreatDoorM34
set_option linter.unusedVariables false
set_option linter.unusedSimpArgs false
namespace Go.Proofs.YtojjfbnpjhjidaaGreatDoor
open Go.RowKit
def Chn (s : ByteArray) : Nat → List Tv → Prop
  | _, [] => True
  | u, t :: r => ∃ a : Nat, t.a = a ∧ u ≤ a ∧ a + t.t.size ≤ s.size ∧ Chn s (a + t.t.size) r
theorem Chn.low {s : ByteArray} : ∀ {l : List Tv} {u v : Nat}, Chn s u l → v ≤ u → Chn s v l
  | [], _, _, _, _ => trivial
  | _ :: _, _, _, ⟨a, h1, h2, h3, h4⟩, h => ⟨a, h1, by omega, h3, h4⟩
def stb (s : ByteArray) : List Tv → Nat → ByteArray
  | [], u => s.extract u s.size
  | t :: r, u => if ntB t = true then s.extract u t.a.toNat ++ ((if t.k = 8 then ⟨#[32]⟩ else ⟨#[]⟩) ++ stb s r (t.a.toNat + t.t.size)) else stb s r u
theorem stb_cons (s : ByteArray) (t : Tv) (r : List Tv) (u : Nat) : stb s (t :: r) u = if ntB t = true then s.extract u t.a.toNat ++ ((if t.k = 8 then ⟨#[32]⟩ else ⟨#[]⟩) ++ stb s r (t.a.toNat + t.t.size)) else stb s r u := rfl
def SdP (W : World) (E x y z : Int) (T : ByteArray) (e : Ending) (w' : World) : Prop := e = .returned (.tuple #[.string T, ftv E x y z]) ∧ Below W.heap.size W w'
theorem rst_err {s : ByteArray} {L : List Tv} {E x y z : Int} {W : World} (HS : Hid (∀ V, Calls Tryz.prog 12 #[.string s] V (AlP V E x y z L))) (hE : E ≠ 0) :
    Calls Tryz.prog 10 #[.string s] W (SdP W E x y z ⟨#[]⟩) := by
  have q1 : (E == 0) = false := by simpa using hE
  have hb0 : Below W.heap.size W (W.alloc (ftb 0 0 0 0)) := (Below.refl _ _).alloc (Nat.le_refl _) _
  have k0 : (W.alloc (ftb 0 0 0 0)).heap[W.heap.size]? = some (ftb 0 0 0 0) := new_at _ _
  have H0 := show Hid _ from And.intro hb0 k0
  clear hb0 k0
  go_enter Tryz.func10, Tryz.ntmps10
  go_wp2_with fail
  refine (HS.out _).mono ?_
  rintro e w1 ⟨v, rfl, hv, hb1⟩
  obtain ⟨V1, eV1⟩ : ∃ V1, w1.alloc (plc x y z) = V1 := ⟨_, rfl⟩
  obtain ⟨g1, hg1⟩ : ∃ g1, w1.heap.size = g1 := ⟨_, rfl⟩
  obtain ⟨g0, hg0⟩ : ∃ g0, W.heap.size = g0 := ⟨_, rfl⟩
  have hx : Below w1.heap.size w1 V1 := by rw [← eV1]; exact (Below.refl _ _).alloc (Nat.le_refl _) _
  have kf : V1.heap[g0]? = some (ftb 0 0 0 0) := by rw [← hg0]; exact blk_below (blk_below H0.out.2 hb1) hx
  have kp : V1.heap[g1]? = some (plc x y z) := by rw [← eV1, ← hg1]; exact new_at _ _
  have p0 : V1.cell? ⟨g1, 0, none⟩ = some (.int .i64 x) := blk_cell kp rfl
  have p1 : V1.cell? ⟨g1, 1, none⟩ = some (.int .i64 y) := blk_cell kp rfl
  have p2 : V1.cell? ⟨g1, 2, none⟩ = some (.int .i64 z) := blk_cell kp rfl
  obtain ⟨f0, f1, f2, f3⟩ := ft_cells kf
  have z0 : ∀ j, V1.frozen? ⟨g0, j, none⟩ = false := fun j => blk_frozen kf
  have HB : Hid (Below W.heap.size W V1 ∧ V1.heap[g0]? = some (ftb 0 0 0 0)) := ⟨by have h1 := H0.out.1.trans (hb1.mono H0.out.1.size); exact h1.trans (hx.mono h1.size), kf⟩
  clear hv hb1 hx kf kp
  go_wp2_with fail
  try rw [eV1]
  try rw [hg1]
  try rw [hg0]
  clear eV1 hg1
  go_region
  all_goals (go_wp2_with fail)
  all_goals (
    have kX := blk_below (ft_fill HB.out.2 E x y z) (Below.refl _ _).drew
    obtain ⟨m0, m1, m2, m3⟩ := ft_cells kX
    refine bodyPost_ret (v := .tuple #[.string ⟨#[]⟩, ftv E x y z]) (by simp [results, Tryz.f10, go_sem, m0, m1, m2, m3]) rfl ?_
    exact ⟨rfl, (ft_below HB.out.1 (by omega) _ _ _ _).drew⟩)
theorem dn_bel {b : Nat} {w v : World} (h : Below b w v) : ∀ m, Below b w (v.drewN m)
  | 0 => h
  | m + 1 => (dn_bel h m).drew
structure SI (W : World) (g : Nat) (v : Value) (s : ByteArray) (L : List Tv) (j u : Nat) (b : Value) (wr : World) : Prop where
  bel : Below W.heap.size W wr
  ft : wr.heap[g]? = some (ftb 0 0 0 0)
  rt : Rt W.heap.size wr v L
  row : ∃ x, Rb8 W.heap.size wr b x ∧ x ++ stb s (L.drop j) u = stb s L 0 ∧ x.size ≤ u + j
  ch : Chn s u (L.drop j)
  us : u ≤ s.size
theorem SI.lt {W : World} {g : Nat} {p : Option Addr} {k c : Nat} {s : ByteArray} {L : List Tv} {j u : Nat} {b : Value} {wr : World} (h : SI W g (.slice p k c) s L j u b wr) : Lt wr p L := by
  obtain ⟨a, c, e, h1, _⟩ := Lt.row h.rt
  cases e
  exact h1
theorem SI.on {W : World} {g : Nat} {v : Value} {s : ByteArray} {L : List Tv} {j u : Nat} {b : Value} {wr V : World} (h : SI W g v s L j u b wr) (hb : Below wr.heap.size wr V) : SI W g v s L j u b V := by
  obtain ⟨m, h1, h2⟩ := h.row
  exact ⟨h.bel.trans (hb.mono h.bel.size), blk_below h.ft hb, h.rt.below hb, ⟨m, h1.below hb, h2⟩, h.ch, h.us⟩
theorem drop_at {l : List Tv} {j : Nat} {t : Tv} (h : l[j]? = some t) : l.drop j = t :: l.drop (j + 1) := by
  have hlt := (List.getElem?_eq_some_iff.1 h).1
  rw [List.drop_eq_getElem_cons hlt]
  rw [List.getElem?_eq_getElem hlt] at h
  rw [Option.some.inj h]
theorem SI.skip {W : World} {g : Nat} {v : Value} {s : ByteArray} {L : List Tv} {j u : Nat} {b : Value} {wr : World} (h : SI W g v s L j u b wr) {t : Tv} (ht : L[j]? = some t) (hn : ntB t = false) : SI W g v s L (j + 1) u b wr := by
  obtain ⟨m, h1, h2, h3⟩ := h.row
  have hc := h.ch
  rw [drop_at ht] at h2 hc
  rw [stb_cons, hn] at h2
  obtain ⟨a, c1, c2, c3, c4⟩ := hc
  exact ⟨h.bel, h.ft, h.rt, ⟨m, h1, h2, by omega⟩, c4.low (by omega), h.us⟩
theorem nil_cat (R : ByteArray) : (⟨#[]⟩ : ByteArray) ++ R = R := ByteArray.empty_append
theorem SI.cut {W : World} {g : Nat} {v : Value} {s : ByteArray} {L : List Tv} {j u : Nat} {b : Value} {wr : World} (h : SI W g v s L j u b wr) {t : Tv} (ht : L[j]? = some t) (hn : ntB t = true) : ∃ (a : Nat) (x : ByteArray), t.a = a ∧ u ≤ a ∧ a + t.t.size ≤ s.size ∧ x.size ≤ u + j ∧ Rb8 W.heap.size wr b x ∧ (x ++ s.extract u a) ++ ((if t.k = 8 then ⟨#[32]⟩ else ⟨#[]⟩) ++ stb s (L.drop (j + 1)) (a + t.t.size)) = stb s L 0 ∧ Chn s (a + t.t.size) (L.drop (j + 1)) := by
  obtain ⟨m, h1, h2, h3⟩ := h.row
  have hc := h.ch
  rw [drop_at ht] at h2 hc
  rw [stb_cons, if_pos hn] at h2
  obtain ⟨a, c1, c2, c3, c4⟩ := hc
  rw [c1] at h2
  exact ⟨a, m, c1, c2, c3, h3, h1, by rw [ByteArray.append_assoc]; exact h2, c4⟩
structure SJ (W : World) (g : Nat) (v : Value) (s : ByteArray) (L : List Tv) (j : Nat) (k : Int) (e : Nat) (b : Value) (wr : World) : Prop where
  bel : Below W.heap.size W wr
  ft : wr.heap[g]? = some (ftb 0 0 0 0)
  rt : Rt W.heap.size wr v L
  row : ∃ x, Rb8 W.heap.size wr b x ∧ x ++ ((if k = 8 then ⟨#[32]⟩ else ⟨#[]⟩) ++ stb s (L.drop (j + 1)) e) = stb s L 0 ∧ x.size ≤ e + j
  ch : Chn s e (L.drop (j + 1))
  us : e ≤ s.size
theorem SJ.lt {W : World} {g : Nat} {p : Option Addr} {k c : Nat} {s : ByteArray} {L : List Tv} {j : Nat} {q : Int} {e : Nat} {b : Value} {wr : World} (h : SJ W g (.slice p k c) s L j q e b wr) : Lt wr p L := by
  obtain ⟨a, c, e, h1, _⟩ := Lt.row h.rt
  cases e
  exact h1
theorem SI.str {W : World} {g : Nat} {v : Value} {s : ByteArray} {L : List Tv} {j u : Nat} {b b' : Value} {wr V : World} (h : SI W g v s L j u b wr) {k : Int} {a e : Nat} {X : ByteArray} (hae : a ≤ e) (he : e ≤ s.size) (hua : u ≤ a) (hX : X.size ≤ u + j) (hr : Rb8 W.heap.size wr b X) (hq : (X ++ s.extract u a) ++ ((if k = 8 then ⟨#[32]⟩ else ⟨#[]⟩) ++ stb s (L.drop (j + 1)) e) = stb s L 0) (hc : Chn s e (L.drop (j + 1)))
    (h1 : Rb8 W.heap.size V b' (X ++ s.extract u a)) (h2 : Below W.heap.size wr V) (h3 : wr.grownBy V b.ownBlock) : SJ W g v s L j k e b' V := by
  have hk := Kp.of_grown h3
  refine ⟨h.bel.trans h2, hk.blk h.ft (fun e => hr.ne h.ft (by decide) g e.symm rfl), h.rt.kp hk (rt_nb h.rt hr), ⟨_, h1, hq, ?_⟩, hc, he⟩
  rw [ByteArray.size_append, ByteArray.size_extract]
  omega
theorem SJ.byte {W : World} {g : Nat} {v : Value} {s : ByteArray} {L : List Tv} {j e : Nat} {b b' : Value} {wr V : World} (h : SJ W g v s L j 8 e b wr) {X : ByteArray} (hX : X.size ≤ e + j) (hr : Rb8 W.heap.size wr b X) (hq : X ++ ((if (8 : Int) = 8 then ⟨#[32]⟩ else ⟨#[]⟩) ++ stb s (L.drop (j + 1)) e) = stb s L 0)
    {w0 : World} (hb : Below wr.heap.size wr w0) (h1 : Rb8 W.heap.size V b' (X ++ ⟨#[32]⟩)) (h2 : Below W.heap.size w0 V) (h3 : w0.grownBy V b.ownBlock) : SI W g v s L (j + 1) e b' V := by
  have hk := Kp.of_grown h3
  have hr' := hr.below hb
  have hf := blk_below h.ft hb
  have ht := h.rt.below hb
  refine ⟨(h.bel.trans (hb.mono h.bel.size)).trans h2, hk.blk hf (fun e => hr'.ne hf (by decide) g e.symm rfl), ht.kp hk (rt_nb ht hr'), ⟨_, h1, ?_, ?_⟩, h.ch, h.us⟩
  · rw [if_pos rfl] at hq
    rw [ByteArray.append_assoc]
    exact hq
  · rw [ByteArray.size_append]
    show X.size + 1 ≤ _
    omega
theorem SJ.none {W : World} {g : Nat} {v : Value} {s : ByteArray} {L : List Tv} {j e : Nat} {k : Int} {b : Value} {wr V : World} (h : SJ W g v s L j k e b wr) (hk : ¬ k = 8) (hb : Below wr.heap.size wr V) : SI W g v s L (j + 1) e b V := by
  obtain ⟨x, h1, h2, h3⟩ := h.row
  rw [if_neg hk, nil_cat] at h2
  exact ⟨h.bel.trans (hb.mono h.bel.size), blk_below h.ft hb, h.rt.below hb, ⟨x, h1.below hb, h2, by omega⟩, h.ch, h.us⟩
theorem SI.fin {W : World} {g : Nat} {v : Value} {s : ByteArray} {L : List Tv} {u : Nat} {b : Value} {wr : World} (h : SI W g v s L L.length u b wr) : ∃ x, Rb8 W.heap.size wr b x ∧ x ++ s.extract u s.size = stb s L 0 ∧ x.size ≤ u + L.length := by
  obtain ⟨x, h1, h2, h3⟩ := h.row
  rw [List.drop_length] at h2
  exact ⟨x, h1, h2, h3⟩
set_option maxHeartbeats 2000000 in
set_option maxRecDepth 100000 in
theorem rst_good {s : ByteArray} {L : List Tv} {x y z : Int} {W : World} (HS : Hid (∀ V, Calls Tryz.prog 12 #[.string s] V (AlP V 0 x y z L))) (hl : L.length ≤ 100000000) (hs : s.size ≤ 4294967296) (hc : Chn s 0 L) :
    Calls Tryz.prog 10 #[.string s] W (SdP W 0 0 0 0 (stb s L 0)) := by
  have hb0 : Below W.heap.size W (W.alloc (ftb 0 0 0 0)) := (Below.refl _ _).alloc (Nat.le_refl _) _
  have k0 : (W.alloc (ftb 0 0 0 0)).heap[W.heap.size]? = some (ftb 0 0 0 0) := new_at _ _
  have H0 := show Hid _ from And.intro hb0 k0
  have HN : Hid (∀ t V, Calls Tryz.prog 13 #[.agg #[.int .u8 t.k, .string t.t, .int .i64 t.a, .int .i64 t.l, .int .i64 t.c, .int .i64 t.f]] V fun r w' => r = .returned (.bool (ntB t)) ∧ Below V.heap.size V w') := risn_any
  clear hb0 k0
  go_enter Tryz.func10, Tryz.ntmps10
  go_wp2_with fail
  refine (HS.out _).mono ?_
  rintro e w1 ⟨v, rfl, hv, hb1⟩
  obtain ⟨ao, cap, rfl, hL, -, -, -⟩ := Lt.row hv
  obtain ⟨V1, eV1⟩ : ∃ V1, w1.alloc (plc x y z) = V1 := ⟨_, rfl⟩
  obtain ⟨g0, hg0⟩ : ∃ g0, W.heap.size = g0 := ⟨_, rfl⟩
  have hx : Below w1.heap.size w1 V1 := by rw [← eV1]; exact (Below.refl _ _).alloc (Nat.le_refl _) _
  have HB : Hid (SI W g0 (.slice ao L.length cap) s L 0 0 (.slice none 0 0) V1) := by
    have kf : V1.heap[g0]? = some (ftb 0 0 0 0) := by rw [← hg0]; exact blk_below (blk_below H0.out.2 hb1) hx
    have h1 := H0.out.1.trans (hb1.mono H0.out.1.size)
    exact ⟨h1.trans (hx.mono h1.size), kf, (rt_lw hv H0.out.1.size).below hx, ⟨⟨#[]⟩, rb_nil _ _, nil_cat _, Nat.le_refl _⟩, hc, Nat.zero_le _⟩
  clear hv hb1 hx hL H0 hc
  go_wp2_with fail
  try rw [eV1]
  try rw [hg0]
  clear eV1
  go_loopw [7, 8, 9] (fun b c i wr => ∃ j u : Nat, j ≤ L.length ∧ i = .int .i64 j ∧ c = .int .i64 u ∧ Hid (SI W g0 (.slice ao L.length cap) s L j u b wr)) (fun _ _ i _ => L.length - (intOf i).toNat)
  case atStart => exact ⟨0, 0, Nat.zero_le _, rfl, rfl, HB⟩
  case round =>
    obtain ⟨j, u, hj, rfl, rfl, HJ⟩ := hrel
    clear HB
    by_cases hlt : j < L.length
    · have q1 : (j : Int) < L.length := by omega
      have q0 : (0 : Int) ≤ j := by omega
      obtain ⟨t, ht⟩ : ∃ t, L[j]? = some t := ⟨_, List.getElem?_eq_getElem hlt⟩
      obtain ⟨b, off, rfl, x0, x1, x2, x3, x4, x5⟩ := HJ.out.lt j t ht
      obtain ⟨k, hk⟩ : ∃ k, ntB t = k := ⟨_, rfl⟩
      have HI := show Hid _ from HN.out t
      rw [hk] at HI
      go_wp2_with fail
      refine (HI.out _).mono ?_
      rintro r w2 ⟨rfl, hb2⟩
      have H2 := show Hid _ from HJ.out.on hb2
      have y0 := (hb2.cell (World.block_lt_of_cell? _ _ x0)).trans x0
      have y1 := (hb2.cell (World.block_lt_of_cell? _ _ x1)).trans x1
      have y2 := (hb2.cell (World.block_lt_of_cell? _ _ x2)).trans x2
      clear hb2 x0 x1 x2 x3 x4 x5
      cases k
      · have HX : Hid (SI W g0 (.slice (some ⟨b, off, none⟩) L.length cap) s L (j + 1) u u7 w2) := H2.out.skip ht hk
        go_wp2_with fail
        exact ⟨⟨j + 1, u, hlt, by go_num, rfl, HX⟩, by simp [intOf]; omega⟩
      · obtain ⟨a, X, c1, c2, c3, c4, c5, c6, c7⟩ := H2.out.cut ht hk
        have hus := H2.out.us
        rw [c1] at y2
        have HR : Hid (Rb8 W.heap.size w2 u7 X) := c5
        have HZ : Hid (W.heap.size ≤ w2.heap.size) := H2.out.bel.size
        have ze : (s.extract u a).size = a - u := by rw [ByteArray.size_extract]; omega
        have HS5 : Hid (∀ V b', Rb8 W.heap.size V b' (X ++ s.extract u a) → Below W.heap.size w2 V → w2.grownBy V u7.ownBlock → SJ W g0 (.slice (some ⟨b, off, none⟩) L.length cap) s L j t.k (a + t.t.size) b' V) := fun V b' h1 h2 h3 => H2.out.str (by omega) c3 c2 c4 c5 c6 c7 h1 h2 h3
        obtain ⟨e, he⟩ : ∃ e, a + t.t.size = e := ⟨_, rfl⟩
        have he' : (a : Int) + t.t.size = e := by omega
        rw [he] at HS5 c3
        clear c5 c6 c7 hk
        have HC : Hid (t.a = a) := c1
        by_cases h8 : t.k = 8
        · rw [h8] at y0 HS5
          go_wp2_with (first
            | (at_builtin; refine app_str (by rfl) _ _ (by rfl) W.heap.size u7 X (s.extract u a) (by rfl) HR.out (by rfl) (by omega) HZ.out ?_; intro v' w5 h1 h2 h3; have H5 := show Hid _ from HS5.out w5 v' h1 h2 h3; obtain ⟨b9, off9, e9, z0, z1, z2, -⟩ := H5.out.lt j t ht; cases e9; rw [h8] at z0; clear h1 h2 h3 HS5 HR H2 HJ y0 y1 y2; obtain ⟨X2, r1, r2, r3⟩ := H5.out.row; have hal : Below w5.heap.size w5 (w5.alloc (.cells #[.int .u8 32] 5)) := (Below.refl _ _).alloc (Nat.le_refl _) _; have HR : Hid (Rb8 W.heap.size (w5.alloc (.cells #[.int .u8 32] 5)) v' X2) := r1.below hal; have HZ2 : Hid (W.heap.size ≤ (w5.alloc (.cells #[.int .u8 32] 5)).heap.size) := Nat.le_trans H5.out.bel.size hal.size; have H6 := show Hid _ from (fun V b' => H5.out.byte r3 r1 r2 (V := V) (b' := b') hal); clear r1 r2 hal H5)
            | (at_builtin; refine app_b8 (by rfl) _ _ (by rfl) W.heap.size v' X2 (by rfl) HR.out w5.heap.size 1 (by rfl) (new_at _ _) (by omega) HZ2.out ?_; intro v2 w7 h1 h2 h3; have H7 := show Hid _ from H6.out w7 v2 h1 h2 h3; clear h1 h2 h3 H6 HR z0 z1 z2; obtain ⟨b9, off9, e9, z0, z1, z2, -⟩ := H7.out.lt j t ht; cases e9; rw [HC.out] at z2))
          go_quiet (fail)
          go_wp2_with fail
          exact ⟨⟨j + 1, e, hlt, by go_num, by go_num, H7.out.on (dn_bel (Below.refl _ _) _)⟩, by simp [intOf]; omega⟩
        · have q8 : (t.k == 8) = false := by simpa using h8
          go_wp2_with (at_builtin; refine app_str (by rfl) _ _ (by rfl) W.heap.size u7 X (s.extract u a) (by rfl) HR.out (by rfl) (by omega) HZ.out ?_; intro v' w5 h1 h2 h3; have H5 := show Hid _ from (HS5.out w5 v' h1 h2 h3).none h8 (Below.refl _ _); obtain ⟨b9, off9, e9, z0, z1, z2, -⟩ := H5.out.lt j t ht; cases e9; rw [HC.out] at z2; clear h1 h2 h3 HS5 HR H2 HJ y0 y1 y2)
          go_quiet (fail)
          go_wp2_with fail
          exact ⟨⟨j + 1, e, hlt, by go_num, by go_num, H5.out.on (dn_bel (Below.refl _ _) _)⟩, by simp [intOf]; omega⟩
    · obtain rfl : j = L.length := by omega
      have q1 : ¬ ((L.length : Int) < L.length) := by omega
      obtain ⟨X, r1, r2, r3⟩ := HJ.out.fin
      have hus := HJ.out.us
      have HR : Hid (Rb8 W.heap.size wr u7 X) := r1
      have HZ : Hid (W.heap.size ≤ wr.heap.size) := HJ.out.bel.size
      have ze : (s.extract u s.size).size = s.size - u := by rw [ByteArray.size_extract]; omega
      have HE : Hid (X ++ s.extract u s.size = stb s L 0) := r2
      have HF : Hid (∀ V, Below W.heap.size wr V → wr.grownBy V u7.ownBlock → V.heap[g0]? = some (ftb 0 0 0 0) ∧ Below W.heap.size W V) := fun V h2 h3 => ⟨(Kp.of_grown h3).blk HJ.out.ft (fun e => r1.ne HJ.out.ft (by decide) g0 e.symm rfl), HJ.out.bel.trans h2⟩
      clear r1 r2 HJ HN HS
      go_wp2_with (at_builtin; refine app_str (by rfl) _ _ (by rfl) W.heap.size u7 X (s.extract u s.size) (by rfl) HR.out (by rfl) (by omega) HZ.out ?_; intro v' w5 h1 h2 h3; obtain ⟨k1, k2⟩ := HF.out w5 h2 h3; have hcv := conv_b8 w5 _ _ _ h1; obtain ⟨f0, f1, f2, f3⟩ := ft_cells k1; have z0 : ∀ j, w5.frozen? ⟨g0, j, none⟩ = false := fun j => blk_frozen k1; have H5 := show Hid _ from And.intro k1 k2; clear h1 h2 h3 k1 k2)
      have kX := ft_fill H5.out.1 0 0 0 0
      obtain ⟨m0, m1, m2, m3⟩ := ft_cells kX
      refine bodyPost_ret (v := .tuple #[.string (X ++ s.extract u s.size), ftv 0 0 0 0]) (by simp [results, Tryz.f10, go_sem, m0, m1, m2, m3]) rfl ?_
      exact ⟨by rw [HE.out], ft_below H5.out.2 (by omega) _ _ _ _⟩
abbrev ntk (s : ByteArray) : List Tv := (Lx.scn s).1.map (Lx.tv s)
theorem cov_len {s : ByteArray} : ∀ {l : List Lx.Tk} {a z : Nat}, Lx.Cov s a l z → a ≤ s.size → a + l.length ≤ s.size
  | [], a, z, _, h => h
  | t :: l, a, z, ⟨h1, h2, h3, h4⟩, h => by
    have := cov_len h4 h3
    have := h1.1
    simp only [List.length_cons]
    omega
theorem ntk_len (s : ByteArray) : (ntk s).length ≤ s.size := by
  obtain ⟨z, h, _⟩ := Lx.scn_cov s
  have := cov_len h (Nat.zero_le _)
  show ((Lx.scn s).1.map (Lx.tv s)).length ≤ _
  rw [List.length_map]
  omega
theorem tv_sz {s : ByteArray} {t : Lx.Tk} (h : t.e ≤ s.size) : (Lx.tv s t).t.size = t.e - t.a := Lx.size_ext s t.a t.e h
theorem cov_chn {s : ByteArray} : ∀ {l : List Lx.Tk} {a z : Nat}, Lx.Cov s a l z → Chn s a (l.map (Lx.tv s))
  | [], _, _, _ => trivial
  | t :: l, a, z, ⟨h1, h2, h3, h4⟩ => by
    have hz := tv_sz h3
    have e : t.a + (Lx.tv s t).t.size = t.e := by omega
    exact ⟨t.a, rfl, h1.1, by omega, by rw [e]; exact cov_chn h4⟩
theorem ntk_chn (s : ByteArray) : Chn s 0 (ntk s) := by
  obtain ⟨z, h, _⟩ := Lx.scn_cov s
  exact cov_chn h
abbrev eN (s : ByteArray) : Int := ((Lx.scn s).2.1 : Int)
abbrev eX (s : ByteArray) : Int := if (Lx.scn s).2.1 = 0 then 0 else ((Lx.scn s).2.2 : Int)
abbrev eY (s : ByteArray) : Int := if (Lx.scn s).2.1 = 0 then 0 else Lx.pL s (Lx.scn s).2.2
abbrev eZ (s : ByteArray) : Int := if (Lx.scn s).2.1 = 0 then 0 else Lx.pC s (Lx.scn s).2.2
def rem (s : ByteArray) : List Rmk := if (Lx.scn s).2.1 = 0 then rmk (ntk s) 0 0 else []
def str (s : ByteArray) : ByteArray := if (Lx.scn s).2.1 = 0 then stb s (ntk s) 0 else ⟨#[]⟩
theorem alp_of {W : World} {s : ByteArray} {e : Ending} {w' : World} (h : Lx.AV W s e w') : AlP W (eN s) (eX s) (eY s) (eZ s) (ntk s) e w' := by
  obtain ⟨⟨v, rfl, hv⟩, hb⟩ := h
  exact ⟨v, rfl, hv, hb⟩
end Go.Proofs.YtojjfbnpjhjidaaGreatDoor
