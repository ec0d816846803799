import Derived.Test.YtnmjkgjhjnpijaaGreatDoorQc
import Derived.Test.YtnmjkgjhjnpijaaGreatDoorL1
set_option linter.unusedVariables false
set_option linter.unusedSimpArgs false
namespace Go.Proofs.YtnmjkgjhjnpijaaGreatDoor
open Go.RowKit

/-- A pair, as it lies. -/
def Pb (W : World) (A gl gr : Nat) : Prop := W.heap[A]? = some (.cells #[.pointer (some ⟨gl, 0, none⟩), .pointer (some ⟨gr, 0, none⟩)] 30 (0, 0))
/-- Two pairs, apart. -/
def TP (w W : World) (A B gla gra glb grb mA mB : Nat) : Prop := ∃ oa ob : Nat → Prop,
  PS oa W gla gra mA ∧ PS ob W glb grb mB ∧ Below w.heap.size w W ∧ (∀ q, oa q → ¬ ob q ∧ w.heap.size ≤ q) ∧ (∀ q, ob q → w.heap.size ≤ q) ∧ ¬ oa grb ∧ ¬ ob gra ∧ gra ≠ grb ∧ w.heap.size ≤ gra ∧ w.heap.size ≤ grb ∧
  Pb W A gla gra ∧ Pb W B glb grb ∧ (¬ oa A ∧ ¬ ob A ∧ A ≠ gra ∧ A ≠ grb) ∧ (¬ oa B ∧ ¬ ob B ∧ B ≠ gra ∧ B ≠ grb)
theorem TP.swap {w W : World} {A B gla gra glb grb mA mB : Nat} (h : TP w W A B gla gra glb grb mA mB) : TP w W B A glb grb gla gra mB mA := by
  obtain ⟨oa, ob, h1, h2, h3, h4, h5, h6, h7, h8, h9, h10, h11, h12, ⟨h13, h14, h15, h16⟩, ⟨h17, h18, h19, h20⟩⟩ := h
  exact ⟨ob, oa, h2, h1, h3, fun q hq => ⟨fun e => (h4 q e).1 hq, h5 q hq⟩, fun q hq => (h4 q hq).2, h7, h6, fun e => h8 e.symm, h10, h9, h12, h11, ⟨h18, h17, h20, h19⟩, ⟨h14, h13, h16, h15⟩⟩
theorem TP.below {w W W' : World} {A B gla gra glb grb mA mB : Nat} (h : TP w W A B gla gra glb grb mA mB) (hb : Below W.heap.size W W') : TP w W' A B gla gra glb grb mA mB := by
  obtain ⟨oa, ob, h1, h2, h3, h4, h5, h6, h7, h8, h9, h10, h11, h12, h13, h14⟩ := h
  exact ⟨oa, ob, h1.below hb, h2.below hb, h3.trans (hb.mono h3.size), h4, h5, h6, h7, h8, h9, h10, blk_below h11 hb, blk_below h12 hb, h13, h14⟩
theorem TP.next {w W w' : World} {A B gla gra glb grb mA mB mA' : Nat} {oa ob own' : Nat → Prop}
    (h1 : PS oa W gla gra mA) (h2 : PS ob W glb grb mB) (h3 : Below w.heap.size w W) (h4 : ∀ q, oa q → ¬ ob q ∧ w.heap.size ≤ q) (h5 : ∀ q, ob q → w.heap.size ≤ q) (h6 : ¬ oa grb) (h7 : ¬ ob gra) (h8 : gra ≠ grb) (h9 : w.heap.size ≤ gra) (h10 : w.heap.size ≤ grb)
    (h11 : Pb W A gla gra) (h12 : Pb W B glb grb) (h13 : ¬ oa A ∧ ¬ ob A ∧ A ≠ gra ∧ A ≠ grb) (h14 : ¬ oa B ∧ ¬ ob B ∧ B ≠ gra ∧ B ≠ grb) (hp : Pn oa W w' gla gra mA' own') : TP w w' A B gla gra glb grb mA' mB := by
  have hA := blk_lt h11
  have hB := blk_lt h12
  have hz := h3.size
  have hbl := h2.1
  have hgb := h2.2.2.2.1
  have hnp : ∀ q, q < W.heap.size → ¬ oa q → q ≠ gra → ¬ Pnw oa gra W.heap.size q := fun q q1 q2 q3 e => by
    rcases e with e | e | e
    · exact q2 e
    · exact q3 e
    · omega
  have hno : ∀ q, q < W.heap.size → ¬ oa q → ¬ own' q := fun q q1 q2 e => by
    rcases hp.sub q e with e | e
    · exact q2 e
    · omega
  refine ⟨own', ob, hp.ps, h2.kp hp.kp (fun q hq => hnp q (hbl q hq) (fun e => (h4 q e).1 hq) (fun e => h7 (by rw [← e]; exact hq))) (hnp grb hgb h6 (fun e => h8 e.symm)), bl_kp h3 hp.kp ?_, fun q hq => ?_, h5, hno grb hgb h6, h7, h8, h9, h10, hp.kp.blk h11 (hnp A hA h13.1 h13.2.2.1), hp.kp.blk h12 (hnp B hB h14.1 h14.2.2.1), ⟨hno A hA h13.1, h13.2⟩, ⟨hno B hB h14.1, h14.2⟩⟩
  · intro j e
    rcases e with e | e | e
    · exact (h4 j e).2
    · omega
    · omega
  · rcases hp.sub q hq with e | e
    · exact h4 q e
    · exact ⟨fun e' => by have := hbl q e'; omega, by omega⟩
theorem TP.K {w W : World} {oa : Nat → Prop} (hT : Kab w) (h3 : Below w.heap.size w W) (h4 : ∀ q, oa q → w.heap.size ≤ q) : ∀ V, Kp (Onw oa W.heap.size) W V → Kab V := fun V hV => hT.below (bl_kp h3 hV (fun j e => by
  have := h3.size
  rcases e with e | e
  · exact h4 j e
  · omega))
theorem TP.feed {w W : World} {A B gla gra glb grb mA mB : Nat} (h : TP w W A B gla gra glb grb mA mB) (hT : Kab w) (x : ByteArray) (hm : mA + x.size ≤ 1000000000) :
    Calls Tryz.prog 8 #[.agg #[.pointer (some ⟨gla, 0, none⟩), .pointer (some ⟨gra, 0, none⟩)], .string x] W fun e w' => e = .returned (.bool true) ∧ TP w w' A B gla gra glb grb (mA + x.size) mB := by
  obtain ⟨oa, ob, h1, h2, h3, h4, h5, h6, h7, h8, h9, h10, h11, h12, h13, h14⟩ := h
  refine (pfeed_any h1 x hm (TP.K hT h3 (fun q hq => (h4 q hq).2))).mono ?_
  rintro e w' ⟨rfl, own', hp⟩
  exact ⟨rfl, TP.next h1 h2 h3 h4 h5 h6 h7 h8 h9 h10 h11 h12 h13 h14 hp⟩
theorem TP.close {w W : World} {A B gla gra glb grb mA mB : Nat} (h : TP w W A B gla gra glb grb mA mB) (hT : Kab w) (hm : mA ≤ 1000000000) :
    Calls Tryz.prog 9 #[.agg #[.pointer (some ⟨gla, 0, none⟩), .pointer (some ⟨gra, 0, none⟩)]] W fun e w' => e = .returned (.bool true) ∧ TP w w' A B gla gra glb grb mA mB := by
  obtain ⟨oa, ob, h1, h2, h3, h4, h5, h6, h7, h8, h9, h10, h11, h12, h13, h14⟩ := h
  refine (pclose_any h1 hm (TP.K hT h3 (fun q hq => (h4 q hq).2))).mono ?_
  rintro e w' ⟨rfl, own', hp⟩
  exact ⟨rfl, TP.next h1 h2 h3 h4 h5 h6 h7 h8 h9 h10 h11 h12 h13 h14 hp⟩
theorem TP.feed' {w W : World} {A B gla gra glb grb mA mB : Nat} (h : TP w W A B gla gra glb grb mA mB) (hT : Kab w) (x : ByteArray) (hm : mB + x.size ≤ 1000000000) :
    Calls Tryz.prog 8 #[.agg #[.pointer (some ⟨glb, 0, none⟩), .pointer (some ⟨grb, 0, none⟩)], .string x] W fun e w' => e = .returned (.bool true) ∧ TP w w' A B gla gra glb grb mA (mB + x.size) := (h.swap.feed hT x hm).mono (fun _ _ ⟨e, h⟩ => ⟨e, h.swap⟩)
theorem TP.close' {w W : World} {A B gla gra glb grb mA mB : Nat} (h : TP w W A B gla gra glb grb mA mB) (hT : Kab w) (hm : mB ≤ 1000000000) :
    Calls Tryz.prog 9 #[.agg #[.pointer (some ⟨glb, 0, none⟩), .pointer (some ⟨grb, 0, none⟩)]] W fun e w' => e = .returned (.bool true) ∧ TP w w' A B gla gra glb grb mA mB := (h.swap.close hT hm).mono (fun _ _ ⟨e, h⟩ => ⟨e, h.swap⟩)

theorem TP.bel {w W : World} {A B gla gra glb grb mA mB : Nat} (h : TP w W A B gla gra glb grb mA mB) : Below w.heap.size w W := by
  obtain ⟨oa, ob, _, _, h3, _⟩ := h
  exact h3
theorem TP.cells {w W : World} {A B gla gra glb grb mA mB : Nat} (h : TP w W A B gla gra glb grb mA mB) : W.cell? ⟨A, 0, none⟩ = some (.pointer (some ⟨gla, 0, none⟩)) ∧ W.cell? ⟨A, 1, none⟩ = some (.pointer (some ⟨gra, 0, none⟩)) ∧ W.cell? ⟨B, 0, none⟩ = some (.pointer (some ⟨glb, 0, none⟩)) ∧ W.cell? ⟨B, 1, none⟩ = some (.pointer (some ⟨grb, 0, none⟩)) := by
  obtain ⟨oa, ob, _, _, _, _, _, _, _, _, _, _, h11, h12, _⟩ := h
  exact ⟨blk_cell h11 rfl, blk_cell h11 rfl, blk_cell h12 rfl, blk_cell h12 rfl⟩
theorem Ss.at {w : World} {b o : Nat} {l : List ByteArray} (h : Ss w (some ⟨b, o, none⟩) l) {k : Nat} {s : ByteArray} (hk : l[k]? = some s) : w.cell? ⟨b, o + k, none⟩ = some (.string s) := by
  obtain ⟨b', o', e, h1⟩ := h k s hk
  cases e
  exact h1
theorem TP.as {w W : World} {A B gla gra glb grb mA mB mA' mB' : Nat} (h : TP w W A B gla gra glb grb mA mB) (h1 : mA = mA') (h2 : mB = mB') : TP w W A B gla gra glb grb mA' mB' := by rw [← h1, ← h2]; exact h
theorem ps_new {W : World} {gl gr : Nat} (h1 : LZ (fun q => q = gl) W gl ByteArray.empty [] 0 0 0) (h2 : LB W gr ByteArray.empty 0 0 0 0 0 false) (hl : gl < W.heap.size) (hne : gr ≠ gl) : PS (fun q => q = gl) W gl gr 0 :=
  ⟨fun q e => by have e' : q = gl := e; omega, rfl, hne, blk_lt h2, ByteArray.empty, Nat.le_refl _, .inl ⟨[], 0, 0, 0, h1, h2⟩⟩
theorem TP.start {w w3 w4 w5 w6 w7 : World} {ga gb : Nat} (hb3 : Below w.heap.size w w3)
    (a1 : w3.heap.size ≤ ga) (a2 : ga < w4.heap.size) (a3 : Below w3.heap.size w3 w4) (a4 : LZ (fun q => q = ga) w4 ga ByteArray.empty [] 0 0 0) (a5 : LB w5 w4.heap.size ByteArray.empty 0 0 0 0 0 false) (a6 : Below w4.heap.size w4 w5)
    (b1 : (w5.alloc (.cells #[.pointer (some ⟨ga, 0, none⟩), .pointer (some ⟨w4.heap.size, 0, none⟩)] 30)).heap.size ≤ gb) (b2 : gb < w6.heap.size) (b3 : Below (w5.alloc (.cells #[.pointer (some ⟨ga, 0, none⟩), .pointer (some ⟨w4.heap.size, 0, none⟩)] 30)).heap.size (w5.alloc (.cells #[.pointer (some ⟨ga, 0, none⟩), .pointer (some ⟨w4.heap.size, 0, none⟩)] 30)) w6) (b4 : LZ (fun q => q = gb) w6 gb ByteArray.empty [] 0 0 0) (b5 : LB w7 w6.heap.size ByteArray.empty 0 0 0 0 0 false) (b6 : Below w6.heap.size w6 w7) :
    TP w (w7.alloc (.cells #[.pointer (some ⟨gb, 0, none⟩), .pointer (some ⟨w6.heap.size, 0, none⟩)] 30)) w5.heap.size w7.heap.size ga w4.heap.size gb w6.heap.size 0 0 := by
  have c5 : Below w5.heap.size w5 (w5.alloc (.cells #[.pointer (some ⟨ga, 0, none⟩), .pointer (some ⟨w4.heap.size, 0, none⟩)] 30)) := (Below.refl _ _).alloc (Nat.le_refl _) _
  have c7 : Below w7.heap.size w7 (w7.alloc (.cells #[.pointer (some ⟨gb, 0, none⟩), .pointer (some ⟨w6.heap.size, 0, none⟩)] 30)) := (Below.refl _ _).alloc (Nat.le_refl _) _
  have z5 : (w5.alloc (.cells #[.pointer (some ⟨ga, 0, none⟩), .pointer (some ⟨w4.heap.size, 0, none⟩)] 30)).heap.size = w5.heap.size + 1 := World.size_alloc _ _
  have z7 : (w7.alloc (.cells #[.pointer (some ⟨gb, 0, none⟩), .pointer (some ⟨w6.heap.size, 0, none⟩)] 30)).heap.size = w7.heap.size + 1 := World.size_alloc _ _
  have pA : Pb (w5.alloc (.cells #[.pointer (some ⟨ga, 0, none⟩), .pointer (some ⟨w4.heap.size, 0, none⟩)] 30)) w5.heap.size ga w4.heap.size := World.alloc_heap_new w5 _
  have pB : Pb (w7.alloc (.cells #[.pointer (some ⟨gb, 0, none⟩), .pointer (some ⟨w6.heap.size, 0, none⟩)] 30)) w7.heap.size gb w6.heap.size := World.alloc_heap_new w7 _
  have s3 := hb3.size
  have s4 := a3.size
  have s5 := a6.size
  have s6 := b3.size
  have s7 := b6.size
  have y5 := blk_lt a5
  have y7 := blk_lt b5
  have hA : PS (fun q => q = ga) (w5.alloc (.cells #[.pointer (some ⟨ga, 0, none⟩), .pointer (some ⟨w4.heap.size, 0, none⟩)] 30)) ga w4.heap.size 0 := (ps_new (a4.below a6) a5 (by omega) (by omega)).below c5
  have hA' := ((hA.below b3).below b6).below c7
  have hB : PS (fun q => q = gb) (w7.alloc (.cells #[.pointer (some ⟨gb, 0, none⟩), .pointer (some ⟨w6.heap.size, 0, none⟩)] 30)) gb w6.heap.size 0 := (ps_new (b4.below b6) b5 (by omega) (by omega)).below c7
  have bb : Below w.heap.size w (w7.alloc (.cells #[.pointer (some ⟨gb, 0, none⟩), .pointer (some ⟨w6.heap.size, 0, none⟩)] 30)) := ((((hb3.trans (a3.mono s3)).trans (a6.mono (by omega))).trans (c5.mono (by omega))).trans (b3.mono (by omega))).trans ((b6.mono (by omega)).trans (c7.mono (by omega)))
  refine ⟨_, _, hA', hB, bb, fun q e => ?_, fun q e => ?_, ?_, ?_, by omega, by omega, by omega, blk_below (blk_below (blk_below pA b3) b6) c7, pB, ?_, ?_⟩
  · have e' : q = ga := e
    refine ⟨fun e2 => ?_, by omega⟩
    have e2' : q = gb := e2
    omega
  · have e' : q = gb := e
    omega
  · show ¬ w6.heap.size = ga
    omega
  · show ¬ w4.heap.size = gb
    omega
  · show ¬ w5.heap.size = ga ∧ ¬ w5.heap.size = gb ∧ _
    omega
  · show ¬ w7.heap.size = ga ∧ ¬ w7.heap.size = gb ∧ _
    omega

set_option maxRecDepth 100000 in
set_option maxHeartbeats 400000 in
theorem feeds_walk (ao bo : Option Addr) (l m : List ByteArray) (ca cb : Nat) (turn : Int) (w : World) (hT : Kab w) (hA : Ss w ao l) (hB : Ss w bo m) (hl : bsz l + l.length ≤ 1048576) (hm : bsz m + m.length ≤ 1048576) :
    Calls Tryz.prog 3 #[.slice ao l.length ca, .slice bo m.length cb, .int .i64 turn] w fun e w' => e = .returned (.bool true) ∧ Below w.heap.size w w' := by
  have HT : Hid (Kab w) := hT
  have HA : Hid (Ss w ao l) := hA
  have HB : Hid (Ss w bo m) := hB
  clear hT hA hB
  go_enter Tryz.func3, Tryz.ntmps3
  go_wp2_with (first | (go_at_call 4; refine (awake_any _ HT.out).mono ?_; rintro e w1 ⟨rfl, hb1⟩))
  refine (size_any ao l ca w1 (HA.out.below hb1) hl).mono ?_
  rintro e w2 ⟨rfl, hb2⟩
  have hbB : Below w.heap.size w w2 := hb1.trans (hb2.mono hb1.size)
  have hn1 : 16 * l.length + bsz l ≤ 16777216 := by omega
  have hn2 : 16 * m.length + bsz m ≤ 16777216 := by omega
  obtain ⟨n1, hN1⟩ : ∃ n1, 16 * l.length + bsz l = n1 := ⟨_, rfl⟩
  obtain ⟨n2, hN2⟩ : ∃ n2, 16 * m.length + bsz m = n2 := ⟨_, rfl⟩
  rw [hN1] at hn1
  rw [hN2] at hn2
  have HS2 : Hid (Calls Tryz.prog 5 #[.slice bo m.length cb] w2 fun e w' => e = .returned (.int .i64 n2) ∧ Below w2.heap.size w2 w') := by
    have := size_any bo m cb w2 (HB.out.below hbB) hm
    rw [hN2] at this
    exact this
  have HNN : Hid (16 * l.length + bsz l = n1 ∧ 16 * m.length + bsz m = n2) := ⟨hN1, hN2⟩
  rw [hN1]
  clear hN1 hN2 hb1 hb2
  have HbB : Hid (Below w.heap.size w w2) := hbB
  clear hbB
  go_wp2_with (first | (go_at_call 5; refine HS2.out.mono ?_; rintro e w3 ⟨rfl, hb3⟩))

  · go_ret
    exact ⟨rfl, HbB.out.trans (hb3.mono HbB.out.size)⟩
  have HbC : Hid (Below w.heap.size w w3) := HbB.out.trans (hb3.mono HbB.out.size)
  clear hb3 HbB HS2 HNN
  refine (lnew_any w3).mono ?_
  rintro e w4 ⟨ga, rfl, a1, a2, a3, a4⟩
  have HA4 : Hid (w3.heap.size ≤ ga ∧ ga < w4.heap.size ∧ Below w3.heap.size w3 w4 ∧ LZ (fun q => q = ga) w4 ga ByteArray.empty [] 0 0 0) := ⟨a1, a2, a3, a4⟩
  clear a1 a2 a3 a4
  go_wp2_with fail
  refine (rnew_any w4).mono ?_
  rintro e w5 ⟨rfl, a5, a6⟩
  have HA5 : Hid (LB w5 w4.heap.size ByteArray.empty 0 0 0 0 0 false ∧ Below w4.heap.size w4 w5) := ⟨a5, a6⟩
  clear a5 a6
  go_wp2_with fail
  refine (lnew_any _).mono ?_
  rintro e w6 ⟨gb, rfl, b1, b2, b3, b4⟩
  have HB4 : Hid ((w5.alloc (.cells #[.pointer (some ⟨ga, 0, none⟩), .pointer (some ⟨w4.heap.size, 0, none⟩)] 30)).heap.size ≤ gb ∧ gb < w6.heap.size ∧ Below (w5.alloc (.cells #[.pointer (some ⟨ga, 0, none⟩), .pointer (some ⟨w4.heap.size, 0, none⟩)] 30)).heap.size (w5.alloc (.cells #[.pointer (some ⟨ga, 0, none⟩), .pointer (some ⟨w4.heap.size, 0, none⟩)] 30)) w6 ∧ LZ (fun q => q = gb) w6 gb ByteArray.empty [] 0 0 0) := ⟨b1, b2, b3, b4⟩
  clear b1 b2 b3 b4
  go_wp2_with fail
  refine (rnew_any w6).mono ?_
  rintro e w7 ⟨rfl, b5, b6⟩
  have HTP : Hid (TP w (w7.alloc (.cells #[.pointer (some ⟨gb, 0, none⟩), .pointer (some ⟨w6.heap.size, 0, none⟩)] 30)) w5.heap.size w7.heap.size ga w4.heap.size gb w6.heap.size 0 0) := TP.start HbC.out HA4.out.1 HA4.out.2.1 HA4.out.2.2.1 HA4.out.2.2.2 HA5.out.1 HA5.out.2 HB4.out.1 HB4.out.2.1 HB4.out.2.2.1 HB4.out.2.2.2 b5 b6
  clear b5 b6 HA4 HA5 HB4 HbC
  obtain ⟨x0, x1, x2, x3⟩ := HTP.out.cells
  go_wp2_with fail
  clear x0 x1 x2 x3
  generalize w5.heap.size = AA at HTP ⊢
  generalize w7.heap.size = BB at HTP ⊢
  generalize w4.heap.size = ra at HTP ⊢
  generalize w6.heap.size = rb at HTP ⊢
  generalize w7.alloc (.cells #[.pointer (some ⟨gb, 0, none⟩), .pointer (some ⟨rb, 0, none⟩)] 30) = V7 at HTP ⊢
  go_loopw [11] (fun i wr => ∃ k : Nat, k ≤ max l.length m.length ∧ i = .int .i64 k ∧ Hid (TP w wr AA BB ga ra gb rb (bsz (l.take k)) (bsz (m.take k)))) (fun i _ => max l.length m.length - (intOf i).toNat)
  case atStart => exact ⟨0, Nat.zero_le _, rfl, HTP.out.as (by simp [bsz]) (by simp [bsz])⟩
  case round =>
    clear HTP
    obtain ⟨k, hk, rfl, HW⟩ := hrel
    have q3 : (0 : Int) ≤ k := by omega
    have hbl := bsz_le l k
    have hbm := bsz_le m k
    by_cases g1 : k < l.length
    · by_cases g2 : k < m.length
      · by_cases g3 : turn = k
        · have q1 : (k : Int) < l.length := by omega
          obtain ⟨s, hs⟩ : ∃ s, l[k]? = some s := ⟨_, List.getElem?_eq_getElem g1⟩
          have es := bsz_take hs
          have ms := bsz_mem hs
          have q2 : (k : Int) < m.length := by omega
          obtain ⟨u, hu⟩ : ∃ u, m[k]? = some u := ⟨_, List.getElem?_eq_getElem g2⟩
          have eu := bsz_take hu
          have mu := bsz_mem hu
          have q4 : (k : Int) = turn := g3.symm
          subst g3
          obtain ⟨x0, x1, x2, x3⟩ := HW.out.cells
          obtain ⟨ab, aoff, rfl, cs⟩ := (HA.out.below HW.out.bel) k s hs
          have HK1 : Hid (∀ V, Below wr.heap.size wr V → V.cell? ⟨AA, 0, none⟩ = some (.pointer (some ⟨ga, 0, none⟩)) ∧ V.cell? ⟨AA, 1, none⟩ = some (.pointer (some ⟨ra, 0, none⟩)) ∧ V.cell? ⟨ab, aoff + k, none⟩ = some (.string s)) := fun V hV => ⟨(HW.out.below hV).cells.1, (HW.out.below hV).cells.2.1, (HA.out.below (HW.out.below hV).bel).at hs⟩
          go_wp2_with fail
          go_region_held3 (fun wz => wz.cell? ⟨AA, 0, none⟩ = some (.pointer (some ⟨ga, 0, none⟩)) ∧ wz.cell? ⟨AA, 1, none⟩ = some (.pointer (some ⟨ra, 0, none⟩)) ∧ wz.cell? ⟨ab, aoff + k, none⟩ = some (.string s)) (first | (exact HK1.out _ (Below.refl _ _)) | (exact HK1.out _ (Below.refl _ _).drew) | (exact HJ.out _ (Below.refl _ _)) | go_keep) (first | (go_at_call 8; refine ((HW.out.below (by first | exact Below.refl _ _ | exact (Below.refl _ _).drew)).feed HT.out s (by omega)).mono ?_; rintro e v1 ⟨rfl, htp1⟩; have HW1 : Hid (TP w v1 AA BB ga ra gb rb ((bsz (l.take k) + s.size)) (bsz (m.take k))) := htp1; have HJ : Hid (∀ V, Below v1.heap.size v1 V → V.cell? ⟨AA, 0, none⟩ = some (.pointer (some ⟨ga, 0, none⟩)) ∧ V.cell? ⟨AA, 1, none⟩ = some (.pointer (some ⟨ra, 0, none⟩)) ∧ V.cell? ⟨ab, aoff + k, none⟩ = some (.string s)) := fun V hV => ⟨(HW1.out.below hV).cells.1, (HW1.out.below hV).cells.2.1, (HA.out.below (HW1.out.below hV).bel).at hs⟩))
          clear htp1 x0 x1 x2 x3 cs HJ HK1
          try clear hHeld
          obtain ⟨x0, x1, x2, x3⟩ := HW1.out.cells
          obtain ⟨bb, boff, rfl, cs⟩ := (HB.out.below HW1.out.bel) k u hu
          have HK2 : Hid (∀ V, Below v1.heap.size v1 V → V.cell? ⟨BB, 0, none⟩ = some (.pointer (some ⟨gb, 0, none⟩)) ∧ V.cell? ⟨BB, 1, none⟩ = some (.pointer (some ⟨rb, 0, none⟩)) ∧ V.cell? ⟨bb, boff + k, none⟩ = some (.string u)) := fun V hV => ⟨(HW1.out.below hV).cells.2.2.1, (HW1.out.below hV).cells.2.2.2, (HB.out.below (HW1.out.below hV).bel).at hu⟩
          go_wp2_with fail
          go_region_held3 (fun wz => wz.cell? ⟨BB, 0, none⟩ = some (.pointer (some ⟨gb, 0, none⟩)) ∧ wz.cell? ⟨BB, 1, none⟩ = some (.pointer (some ⟨rb, 0, none⟩)) ∧ wz.cell? ⟨bb, boff + k, none⟩ = some (.string u)) (first | (exact HK2.out _ (Below.refl _ _)) | (exact HK2.out _ (Below.refl _ _).drew) | (exact HJ.out _ (Below.refl _ _)) | go_keep) (first | (go_at_call 8; refine ((HW1.out.below (by first | exact Below.refl _ _ | exact (Below.refl _ _).drew)).feed' HT.out u (by omega)).mono ?_; rintro e v2 ⟨rfl, htp2⟩; have HW2 : Hid (TP w v2 AA BB ga ra gb rb ((bsz (l.take k) + s.size)) ((bsz (m.take k) + u.size))) := htp2; have HJ : Hid (∀ V, Below v2.heap.size v2 V → V.cell? ⟨BB, 0, none⟩ = some (.pointer (some ⟨gb, 0, none⟩)) ∧ V.cell? ⟨BB, 1, none⟩ = some (.pointer (some ⟨rb, 0, none⟩)) ∧ V.cell? ⟨bb, boff + k, none⟩ = some (.string u)) := fun V hV => ⟨(HW2.out.below hV).cells.2.2.1, (HW2.out.below hV).cells.2.2.2, (HB.out.below (HW2.out.below hV).bel).at hu⟩))
          clear htp2 x0 x1 x2 x3 cs HJ HK2
          try clear hHeld
          obtain ⟨x0, x1, x2, x3⟩ := HW2.out.cells
          go_wp2_with fail
          refine (HW2.out.close' HT.out (by omega)).mono ?_
          rintro e v3 ⟨rfl, htp3⟩
          have HW3 : Hid (TP w v3 AA BB ga ra gb rb ((bsz (l.take k) + s.size)) ((bsz (m.take k) + u.size))) := htp3
          clear htp3 x0 x1 x2 x3
          obtain ⟨x0, x1, x2, x3⟩ := HW3.out.cells
          go_wp2_with fail
          exact ⟨⟨k + 1, by omega, by go_num, HW3.out.as (by omega) (by omega)⟩, by simp [intOf]; omega⟩
        · have q1 : (k : Int) < l.length := by omega
          obtain ⟨s, hs⟩ : ∃ s, l[k]? = some s := ⟨_, List.getElem?_eq_getElem g1⟩
          have es := bsz_take hs
          have ms := bsz_mem hs
          have q2 : (k : Int) < m.length := by omega
          obtain ⟨u, hu⟩ : ∃ u, m[k]? = some u := ⟨_, List.getElem?_eq_getElem g2⟩
          have eu := bsz_take hu
          have mu := bsz_mem hu
          have q4 : ¬ ((k : Int) = turn) := fun e => g3 e.symm
          obtain ⟨x0, x1, x2, x3⟩ := HW.out.cells
          obtain ⟨ab, aoff, rfl, cs⟩ := (HA.out.below HW.out.bel) k s hs
          have HK1 : Hid (∀ V, Below wr.heap.size wr V → V.cell? ⟨AA, 0, none⟩ = some (.pointer (some ⟨ga, 0, none⟩)) ∧ V.cell? ⟨AA, 1, none⟩ = some (.pointer (some ⟨ra, 0, none⟩)) ∧ V.cell? ⟨ab, aoff + k, none⟩ = some (.string s)) := fun V hV => ⟨(HW.out.below hV).cells.1, (HW.out.below hV).cells.2.1, (HA.out.below (HW.out.below hV).bel).at hs⟩
          go_wp2_with fail
          go_region_held3 (fun wz => wz.cell? ⟨AA, 0, none⟩ = some (.pointer (some ⟨ga, 0, none⟩)) ∧ wz.cell? ⟨AA, 1, none⟩ = some (.pointer (some ⟨ra, 0, none⟩)) ∧ wz.cell? ⟨ab, aoff + k, none⟩ = some (.string s)) (first | (exact HK1.out _ (Below.refl _ _)) | (exact HK1.out _ (Below.refl _ _).drew) | (exact HJ.out _ (Below.refl _ _)) | go_keep) (first | (go_at_call 8; refine ((HW.out.below (by first | exact Below.refl _ _ | exact (Below.refl _ _).drew)).feed HT.out s (by omega)).mono ?_; rintro e v1 ⟨rfl, htp1⟩; have HW1 : Hid (TP w v1 AA BB ga ra gb rb ((bsz (l.take k) + s.size)) (bsz (m.take k))) := htp1; have HJ : Hid (∀ V, Below v1.heap.size v1 V → V.cell? ⟨AA, 0, none⟩ = some (.pointer (some ⟨ga, 0, none⟩)) ∧ V.cell? ⟨AA, 1, none⟩ = some (.pointer (some ⟨ra, 0, none⟩)) ∧ V.cell? ⟨ab, aoff + k, none⟩ = some (.string s)) := fun V hV => ⟨(HW1.out.below hV).cells.1, (HW1.out.below hV).cells.2.1, (HA.out.below (HW1.out.below hV).bel).at hs⟩))
          clear htp1 x0 x1 x2 x3 cs HJ HK1
          try clear hHeld
          obtain ⟨x0, x1, x2, x3⟩ := HW1.out.cells
          obtain ⟨bb, boff, rfl, cs⟩ := (HB.out.below HW1.out.bel) k u hu
          have HK2 : Hid (∀ V, Below v1.heap.size v1 V → V.cell? ⟨BB, 0, none⟩ = some (.pointer (some ⟨gb, 0, none⟩)) ∧ V.cell? ⟨BB, 1, none⟩ = some (.pointer (some ⟨rb, 0, none⟩)) ∧ V.cell? ⟨bb, boff + k, none⟩ = some (.string u)) := fun V hV => ⟨(HW1.out.below hV).cells.2.2.1, (HW1.out.below hV).cells.2.2.2, (HB.out.below (HW1.out.below hV).bel).at hu⟩
          go_wp2_with fail
          go_region_held3 (fun wz => wz.cell? ⟨BB, 0, none⟩ = some (.pointer (some ⟨gb, 0, none⟩)) ∧ wz.cell? ⟨BB, 1, none⟩ = some (.pointer (some ⟨rb, 0, none⟩)) ∧ wz.cell? ⟨bb, boff + k, none⟩ = some (.string u)) (first | (exact HK2.out _ (Below.refl _ _)) | (exact HK2.out _ (Below.refl _ _).drew) | (exact HJ.out _ (Below.refl _ _)) | go_keep) (first | (go_at_call 8; refine ((HW1.out.below (by first | exact Below.refl _ _ | exact (Below.refl _ _).drew)).feed' HT.out u (by omega)).mono ?_; rintro e v2 ⟨rfl, htp2⟩; have HW2 : Hid (TP w v2 AA BB ga ra gb rb ((bsz (l.take k) + s.size)) ((bsz (m.take k) + u.size))) := htp2; have HJ : Hid (∀ V, Below v2.heap.size v2 V → V.cell? ⟨BB, 0, none⟩ = some (.pointer (some ⟨gb, 0, none⟩)) ∧ V.cell? ⟨BB, 1, none⟩ = some (.pointer (some ⟨rb, 0, none⟩)) ∧ V.cell? ⟨bb, boff + k, none⟩ = some (.string u)) := fun V hV => ⟨(HW2.out.below hV).cells.2.2.1, (HW2.out.below hV).cells.2.2.2, (HB.out.below (HW2.out.below hV).bel).at hu⟩))
          clear htp2 x0 x1 x2 x3 cs HJ HK2
          try clear hHeld
          obtain ⟨x0, x1, x2, x3⟩ := HW2.out.cells
          go_wp2_with fail
          exact ⟨⟨k + 1, by omega, by go_num, HW2.out.as (by omega) (by omega)⟩, by simp [intOf]; omega⟩
      · by_cases g3 : turn = k
        · have q1 : (k : Int) < l.length := by omega
          obtain ⟨s, hs⟩ : ∃ s, l[k]? = some s := ⟨_, List.getElem?_eq_getElem g1⟩
          have es := bsz_take hs
          have ms := bsz_mem hs
          have q2 : ¬ ((k : Int) < m.length) := by omega
          have eu : bsz (m.take (k + 1)) = bsz (m.take k) := by rw [List.take_of_length_le (by omega), List.take_of_length_le (by omega)]
          have q4 : (k : Int) = turn := g3.symm
          subst g3
          obtain ⟨x0, x1, x2, x3⟩ := HW.out.cells
          obtain ⟨ab, aoff, rfl, cs⟩ := (HA.out.below HW.out.bel) k s hs
          have HK1 : Hid (∀ V, Below wr.heap.size wr V → V.cell? ⟨AA, 0, none⟩ = some (.pointer (some ⟨ga, 0, none⟩)) ∧ V.cell? ⟨AA, 1, none⟩ = some (.pointer (some ⟨ra, 0, none⟩)) ∧ V.cell? ⟨ab, aoff + k, none⟩ = some (.string s)) := fun V hV => ⟨(HW.out.below hV).cells.1, (HW.out.below hV).cells.2.1, (HA.out.below (HW.out.below hV).bel).at hs⟩
          go_wp2_with fail
          go_region_held3 (fun wz => wz.cell? ⟨AA, 0, none⟩ = some (.pointer (some ⟨ga, 0, none⟩)) ∧ wz.cell? ⟨AA, 1, none⟩ = some (.pointer (some ⟨ra, 0, none⟩)) ∧ wz.cell? ⟨ab, aoff + k, none⟩ = some (.string s)) (first | (exact HK1.out _ (Below.refl _ _)) | (exact HK1.out _ (Below.refl _ _).drew) | (exact HJ.out _ (Below.refl _ _)) | go_keep) (first | (go_at_call 8; refine ((HW.out.below (by first | exact Below.refl _ _ | exact (Below.refl _ _).drew)).feed HT.out s (by omega)).mono ?_; rintro e v1 ⟨rfl, htp1⟩; have HW1 : Hid (TP w v1 AA BB ga ra gb rb ((bsz (l.take k) + s.size)) (bsz (m.take k))) := htp1; have HJ : Hid (∀ V, Below v1.heap.size v1 V → V.cell? ⟨AA, 0, none⟩ = some (.pointer (some ⟨ga, 0, none⟩)) ∧ V.cell? ⟨AA, 1, none⟩ = some (.pointer (some ⟨ra, 0, none⟩)) ∧ V.cell? ⟨ab, aoff + k, none⟩ = some (.string s)) := fun V hV => ⟨(HW1.out.below hV).cells.1, (HW1.out.below hV).cells.2.1, (HA.out.below (HW1.out.below hV).bel).at hs⟩))
          clear htp1 x0 x1 x2 x3 cs HJ HK1
          try clear hHeld
          obtain ⟨x0, x1, x2, x3⟩ := HW1.out.cells
          go_wp2_with fail
          refine (HW1.out.close' HT.out (by omega)).mono ?_
          rintro e v2 ⟨rfl, htp2⟩
          have HW2 : Hid (TP w v2 AA BB ga ra gb rb ((bsz (l.take k) + s.size)) (bsz (m.take k))) := htp2
          clear htp2 x0 x1 x2 x3
          obtain ⟨x0, x1, x2, x3⟩ := HW2.out.cells
          go_wp2_with fail
          exact ⟨⟨k + 1, by omega, by go_num, HW2.out.as (by omega) (by omega)⟩, by simp [intOf]; omega⟩
        · have q1 : (k : Int) < l.length := by omega
          obtain ⟨s, hs⟩ : ∃ s, l[k]? = some s := ⟨_, List.getElem?_eq_getElem g1⟩
          have es := bsz_take hs
          have ms := bsz_mem hs
          have q2 : ¬ ((k : Int) < m.length) := by omega
          have eu : bsz (m.take (k + 1)) = bsz (m.take k) := by rw [List.take_of_length_le (by omega), List.take_of_length_le (by omega)]
          have q4 : ¬ ((k : Int) = turn) := fun e => g3 e.symm
          obtain ⟨x0, x1, x2, x3⟩ := HW.out.cells
          obtain ⟨ab, aoff, rfl, cs⟩ := (HA.out.below HW.out.bel) k s hs
          have HK1 : Hid (∀ V, Below wr.heap.size wr V → V.cell? ⟨AA, 0, none⟩ = some (.pointer (some ⟨ga, 0, none⟩)) ∧ V.cell? ⟨AA, 1, none⟩ = some (.pointer (some ⟨ra, 0, none⟩)) ∧ V.cell? ⟨ab, aoff + k, none⟩ = some (.string s)) := fun V hV => ⟨(HW.out.below hV).cells.1, (HW.out.below hV).cells.2.1, (HA.out.below (HW.out.below hV).bel).at hs⟩
          go_wp2_with fail
          go_region_held3 (fun wz => wz.cell? ⟨AA, 0, none⟩ = some (.pointer (some ⟨ga, 0, none⟩)) ∧ wz.cell? ⟨AA, 1, none⟩ = some (.pointer (some ⟨ra, 0, none⟩)) ∧ wz.cell? ⟨ab, aoff + k, none⟩ = some (.string s)) (first | (exact HK1.out _ (Below.refl _ _)) | (exact HK1.out _ (Below.refl _ _).drew) | (exact HJ.out _ (Below.refl _ _)) | go_keep) (first | (go_at_call 8; refine ((HW.out.below (by first | exact Below.refl _ _ | exact (Below.refl _ _).drew)).feed HT.out s (by omega)).mono ?_; rintro e v1 ⟨rfl, htp1⟩; have HW1 : Hid (TP w v1 AA BB ga ra gb rb ((bsz (l.take k) + s.size)) (bsz (m.take k))) := htp1; have HJ : Hid (∀ V, Below v1.heap.size v1 V → V.cell? ⟨AA, 0, none⟩ = some (.pointer (some ⟨ga, 0, none⟩)) ∧ V.cell? ⟨AA, 1, none⟩ = some (.pointer (some ⟨ra, 0, none⟩)) ∧ V.cell? ⟨ab, aoff + k, none⟩ = some (.string s)) := fun V hV => ⟨(HW1.out.below hV).cells.1, (HW1.out.below hV).cells.2.1, (HA.out.below (HW1.out.below hV).bel).at hs⟩))
          clear htp1 x0 x1 x2 x3 cs HJ HK1
          try clear hHeld
          obtain ⟨x0, x1, x2, x3⟩ := HW1.out.cells
          go_wp2_with fail
          exact ⟨⟨k + 1, by omega, by go_num, HW1.out.as (by omega) (by omega)⟩, by simp [intOf]; omega⟩
    · by_cases g2 : k < m.length
      · by_cases g3 : turn = k
        · have q1 : ¬ ((k : Int) < l.length) := by omega
          have es : bsz (l.take (k + 1)) = bsz (l.take k) := by rw [List.take_of_length_le (by omega), List.take_of_length_le (by omega)]
          have q2 : (k : Int) < m.length := by omega
          obtain ⟨u, hu⟩ : ∃ u, m[k]? = some u := ⟨_, List.getElem?_eq_getElem g2⟩
          have eu := bsz_take hu
          have mu := bsz_mem hu
          have q4 : (k : Int) = turn := g3.symm
          subst g3
          obtain ⟨x0, x1, x2, x3⟩ := HW.out.cells
          obtain ⟨bb, boff, rfl, cs⟩ := (HB.out.below HW.out.bel) k u hu
          have HK1 : Hid (∀ V, Below wr.heap.size wr V → V.cell? ⟨BB, 0, none⟩ = some (.pointer (some ⟨gb, 0, none⟩)) ∧ V.cell? ⟨BB, 1, none⟩ = some (.pointer (some ⟨rb, 0, none⟩)) ∧ V.cell? ⟨bb, boff + k, none⟩ = some (.string u)) := fun V hV => ⟨(HW.out.below hV).cells.2.2.1, (HW.out.below hV).cells.2.2.2, (HB.out.below (HW.out.below hV).bel).at hu⟩
          go_wp2_with fail
          go_region_held3 (fun wz => wz.cell? ⟨BB, 0, none⟩ = some (.pointer (some ⟨gb, 0, none⟩)) ∧ wz.cell? ⟨BB, 1, none⟩ = some (.pointer (some ⟨rb, 0, none⟩)) ∧ wz.cell? ⟨bb, boff + k, none⟩ = some (.string u)) (first | (exact HK1.out _ (Below.refl _ _)) | (exact HK1.out _ (Below.refl _ _).drew) | (exact HJ.out _ (Below.refl _ _)) | go_keep) (first | (go_at_call 8; refine ((HW.out.below (by first | exact Below.refl _ _ | exact (Below.refl _ _).drew)).feed' HT.out u (by omega)).mono ?_; rintro e v1 ⟨rfl, htp1⟩; have HW1 : Hid (TP w v1 AA BB ga ra gb rb (bsz (l.take k)) ((bsz (m.take k) + u.size))) := htp1; have HJ : Hid (∀ V, Below v1.heap.size v1 V → V.cell? ⟨BB, 0, none⟩ = some (.pointer (some ⟨gb, 0, none⟩)) ∧ V.cell? ⟨BB, 1, none⟩ = some (.pointer (some ⟨rb, 0, none⟩)) ∧ V.cell? ⟨bb, boff + k, none⟩ = some (.string u)) := fun V hV => ⟨(HW1.out.below hV).cells.2.2.1, (HW1.out.below hV).cells.2.2.2, (HB.out.below (HW1.out.below hV).bel).at hu⟩))
          clear htp1 x0 x1 x2 x3 cs HJ HK1
          try clear hHeld
          obtain ⟨x0, x1, x2, x3⟩ := HW1.out.cells
          go_wp2_with fail
          refine (HW1.out.close' HT.out (by omega)).mono ?_
          rintro e v2 ⟨rfl, htp2⟩
          have HW2 : Hid (TP w v2 AA BB ga ra gb rb (bsz (l.take k)) ((bsz (m.take k) + u.size))) := htp2
          clear htp2 x0 x1 x2 x3
          obtain ⟨x0, x1, x2, x3⟩ := HW2.out.cells
          go_wp2_with fail
          exact ⟨⟨k + 1, by omega, by go_num, HW2.out.as (by omega) (by omega)⟩, by simp [intOf]; omega⟩
        · have q1 : ¬ ((k : Int) < l.length) := by omega
          have es : bsz (l.take (k + 1)) = bsz (l.take k) := by rw [List.take_of_length_le (by omega), List.take_of_length_le (by omega)]
          have q2 : (k : Int) < m.length := by omega
          obtain ⟨u, hu⟩ : ∃ u, m[k]? = some u := ⟨_, List.getElem?_eq_getElem g2⟩
          have eu := bsz_take hu
          have mu := bsz_mem hu
          have q4 : ¬ ((k : Int) = turn) := fun e => g3 e.symm
          obtain ⟨x0, x1, x2, x3⟩ := HW.out.cells
          obtain ⟨bb, boff, rfl, cs⟩ := (HB.out.below HW.out.bel) k u hu
          have HK1 : Hid (∀ V, Below wr.heap.size wr V → V.cell? ⟨BB, 0, none⟩ = some (.pointer (some ⟨gb, 0, none⟩)) ∧ V.cell? ⟨BB, 1, none⟩ = some (.pointer (some ⟨rb, 0, none⟩)) ∧ V.cell? ⟨bb, boff + k, none⟩ = some (.string u)) := fun V hV => ⟨(HW.out.below hV).cells.2.2.1, (HW.out.below hV).cells.2.2.2, (HB.out.below (HW.out.below hV).bel).at hu⟩
          go_wp2_with fail
          go_region_held3 (fun wz => wz.cell? ⟨BB, 0, none⟩ = some (.pointer (some ⟨gb, 0, none⟩)) ∧ wz.cell? ⟨BB, 1, none⟩ = some (.pointer (some ⟨rb, 0, none⟩)) ∧ wz.cell? ⟨bb, boff + k, none⟩ = some (.string u)) (first | (exact HK1.out _ (Below.refl _ _)) | (exact HK1.out _ (Below.refl _ _).drew) | (exact HJ.out _ (Below.refl _ _)) | go_keep) (first | (go_at_call 8; refine ((HW.out.below (by first | exact Below.refl _ _ | exact (Below.refl _ _).drew)).feed' HT.out u (by omega)).mono ?_; rintro e v1 ⟨rfl, htp1⟩; have HW1 : Hid (TP w v1 AA BB ga ra gb rb (bsz (l.take k)) ((bsz (m.take k) + u.size))) := htp1; have HJ : Hid (∀ V, Below v1.heap.size v1 V → V.cell? ⟨BB, 0, none⟩ = some (.pointer (some ⟨gb, 0, none⟩)) ∧ V.cell? ⟨BB, 1, none⟩ = some (.pointer (some ⟨rb, 0, none⟩)) ∧ V.cell? ⟨bb, boff + k, none⟩ = some (.string u)) := fun V hV => ⟨(HW1.out.below hV).cells.2.2.1, (HW1.out.below hV).cells.2.2.2, (HB.out.below (HW1.out.below hV).bel).at hu⟩))
          clear htp1 x0 x1 x2 x3 cs HJ HK1
          try clear hHeld
          obtain ⟨x0, x1, x2, x3⟩ := HW1.out.cells
          go_wp2_with fail
          exact ⟨⟨k + 1, by omega, by go_num, HW1.out.as (by omega) (by omega)⟩, by simp [intOf]; omega⟩
      · have q1 : ¬ ((k : Int) < l.length) := by omega
        have es : bsz (l.take (k + 1)) = bsz (l.take k) := by rw [List.take_of_length_le (by omega), List.take_of_length_le (by omega)]
        have q2 : ¬ ((k : Int) < m.length) := by omega
        have eu : bsz (m.take (k + 1)) = bsz (m.take k) := by rw [List.take_of_length_le (by omega), List.take_of_length_le (by omega)]
        obtain ⟨x0, x1, x2, x3⟩ := HW.out.cells
        go_wp2_with fail
        refine (HW.out.close HT.out (by omega)).mono ?_
        rintro e v1 ⟨rfl, htp1⟩
        have HW1 : Hid (TP w v1 AA BB ga ra gb rb (bsz (l.take k)) (bsz (m.take k))) := htp1
        clear htp1 x0 x1 x2 x3
        obtain ⟨x0, x1, x2, x3⟩ := HW1.out.cells
        go_wp2_with fail
        refine (HW1.out.close' HT.out (by omega)).mono ?_
        rintro e v2 ⟨rfl, htp2⟩
        have HW2 : Hid (TP w v2 AA BB ga ra gb rb (bsz (l.take k)) (bsz (m.take k))) := htp2
        clear htp2 x0 x1 x2 x3
        obtain ⟨x0, x1, x2, x3⟩ := HW2.out.cells
        go_wp2_with fail
        refine (HW2.out.close HT.out (by omega)).mono ?_
        rintro e v3 ⟨rfl, htp3⟩
        have HW3 : Hid (TP w v3 AA BB ga ra gb rb (bsz (l.take k)) (bsz (m.take k))) := htp3
        clear htp3 x0 x1 x2 x3
        obtain ⟨x0, x1, x2, x3⟩ := HW3.out.cells
        go_wp2_with fail
        refine (HW3.out.feed HT.out ⟨#[120, 32]⟩ (by have e2 : (⟨#[120, 32]⟩ : ByteArray).size = 2 := rfl; omega)).mono ?_
        rintro e v4 ⟨rfl, htp4⟩
        have HW4 := htp4.bel
        clear htp4 x0 x1 x2 x3
        go_wp2_with fail
        go_ret
        exact ⟨rfl, HW4⟩

end Go.Proofs.YtnmjkgjhjnpijaaGreatDoor
