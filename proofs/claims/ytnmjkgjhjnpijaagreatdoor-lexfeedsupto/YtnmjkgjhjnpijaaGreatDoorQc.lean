import Derived.Test.YtnmjkgjhjnpijaaGreatDoorQ1
set_option linter.unusedVariables false
set_option linter.unusedSimpArgs false
namespace Go.Proofs.YtnmjkgjhjnpijaaGreatDoor
open Go.RowKit

/-- What stands but for the pair's own blocks, and new ones. -/
def Pnw (own : Nat → Prop) (gr n q : Nat) : Prop := own q ∨ q = gr ∨ n ≤ q
/-- The pair behind a call. -/
structure Pn (own : Nat → Prop) (W w' : World) (gl gr m : Nat) (own' : Nat → Prop) : Prop where
  ps : PS own' w' gl gr m
  sub : ∀ q, own' q → own q ∨ W.heap.size ≤ q
  kp : Kp (Pnw own gr W.heap.size) W w'

theorem both_held' {own : Nat → Prop} {W : World} {gl gr m : Nat} (h : PS own W gl gr m) (hm : m ≤ 1000000000) : ∃ n : Nat, Hid (∀ V, Below W.heap.size W V → Calls Tryz.prog 11 #[.pointer (some ⟨gl, 0, none⟩)] V fun e w' => e = .returned (.int .i64 n) ∧ Below V.heap.size V w') ∧ Hid (∀ V, Below W.heap.size W V → Calls Tryz.prog 17 #[.pointer (some ⟨gr, 0, none⟩)] V fun e w' => e = .returned (.int .i64 n) ∧ Below V.heap.size V w') := by
  obtain ⟨h1, h2, h3, h4, S, h5, h6⟩ := h
  rcases h6 with ⟨T, k, b, f, y1, y2⟩ | ⟨E, A, L, C, n, y0, y1, y2⟩ | ⟨n, E, X, Y, Z, y1, y2⟩
  · obtain ⟨z1, z2, vt, vo, z3, z4, z5, z6⟩ := y1
    obtain ⟨pt, ct, et, _⟩ := z4.shape
    obtain ⟨po, co, eo⟩ := z5.shape
    have hb := z2.bds
    have hw := whl_size S
    have hwb := wh_bd S
    have ho := opE_size S
    have hz := size_ext (whl S) b (whl S).size (Nat.le_refl _)
    refine ⟨S.size - b, fun V hV => ?_, fun V hV => rheld_live (blk_below y2 hV) (by omega) z2⟩
    have h9 := lheld_any (blk_below z3 hV) pt po _ _ ct co et eo (by omega) (by omega)
    rw [show ((whl S).extract b (whl S).size).size + (opE S).size = S.size - b by omega] at h9
    exact h9
  · exact ⟨0, fun V hV => lheld_any (blk_below y1 hV) none none 0 0 0 0 rfl rfl (by omega) (by omega), fun V hV => rheld_zero (blk_below y2 hV) (.inr y0)⟩
  · exact ⟨0, fun V hV => lheld_any (blk_below y1 hV) none none 0 0 0 0 rfl rfl (by omega) (by omega), fun V hV => rheld_zero (blk_below y2 hV) (.inl rfl)⟩

set_option maxRecDepth 100000 in
set_option maxHeartbeats 400000 in
/-- One Feed of both. -/
theorem pfeed_any {own : Nat → Prop} {W : World} {gl gr m : Nat} (h : PS own W gl gr m) (x : ByteArray) (hm : m + x.size ≤ 1000000000) (hK : ∀ V, Kp (Onw own W.heap.size) W V → Kab V) :
    Calls Tryz.prog 8 #[.agg #[.pointer (some ⟨gl, 0, none⟩), .pointer (some ⟨gr, 0, none⟩)], .string x] W fun e w' => e = .returned (.bool true) ∧ ∃ own', Pn own W w' gl gr (m + x.size) own' := by
  obtain ⟨W1, hW1⟩ : ∃ W1, W.alloc (.cells #[.pointer (some ⟨gl, 0, none⟩), .pointer (some ⟨gr, 0, none⟩)] 30) = W1 := ⟨_, rfl⟩
  have hbW : Below W.heap.size W W1 := by rw [← hW1]; exact (Below.refl _ _).alloc (Nat.le_refl _) _
  have pb : W1.heap[W.heap.size]? = some (.cells #[.pointer (some ⟨gl, 0, none⟩), .pointer (some ⟨gr, 0, none⟩)] 30 (0, 0)) := by rw [← hW1]; exact World.alloc_heap_new W _
  have p0 : W1.cell? ⟨W.heap.size, 0, none⟩ = some (.pointer (some ⟨gl, 0, none⟩)) := blk_cell pb rfl
  have p1 : W1.cell? ⟨W.heap.size, 1, none⟩ = some (.pointer (some ⟨gr, 0, none⟩)) := blk_cell pb rfl
  have HF : Hid (Calls Tryz.prog 10 #[.pointer (some ⟨gl, 0, none⟩), .string x] W1 fun e w1 => ∃ (v : Value) (E : Nat) (A L C : Int) (M : List Tv) (own' : Nat → Prop), e = .returned (.tuple #[v, .int .i64 E, .agg #[.int .i64 A, .int .i64 L, .int .i64 C]]) ∧ Fd own W1 w1 own' v M ∧ M.length ≤ 1000000000 ∧ Dsame 14 #[.pointer (some ⟨gr, 0, none⟩), .string x] own' w1 W1.heap.size gl gr (m + x.size) E A L C M) := both_feed (h.below hbW) x hm (fun V hV => hK V (kp_base hbW hV))
  have HP : Hid (PS own W gl gr m ∧ Below W.heap.size W W1 ∧ W1.heap[W.heap.size]? = some (.cells #[.pointer (some ⟨gl, 0, none⟩), .pointer (some ⟨gr, 0, none⟩)] 30 (0, 0))) := ⟨h, hbW, pb⟩
  clear h hK hbW pb
  go_enter Tryz.func8, Tryz.ntmps8
  go_wp2_with fail
  try rw [hW1]
  clear hW1
  refine HF.out.mono ?_
  rintro e w2 ⟨v, E, A, L, C, M, own', rfl, hf, hM, hD⟩
  obtain ⟨hP, hbW, pb⟩ := HP.out
  obtain ⟨va, vca, rfl, _, _⟩ := hf.row.shape
  have hW1s := hbW.size
  have hlr : W.heap.size < W1.heap.size := blk_lt pb
  have hpw : ¬ own W.heap.size := fun e => absurd (hP.1 _ e) (Nat.lt_irrefl _)
  have hgr : gr < W.heap.size := hP.2.2.2.1
  have hngr : ¬ own gr := hP.2.2.1
  have pb2 : w2.heap[W.heap.size]? = some (.cells #[.pointer (some ⟨gl, 0, none⟩), .pointer (some ⟨gr, 0, none⟩)] 30 (0, 0)) := hf.kp.blk pb (fun e => by rcases e with e | e; exact hpw e; omega)
  have hb2 : Below w2.heap.size w2 (w2.alloc (.cells #[.int .i64 A, .int .i64 L, .int .i64 C] 36)) := (Below.refl _ _).alloc (Nat.le_refl _) _
  have hs2 := hf.kp.size
  have HR : Hid (Calls Tryz.prog 14 #[.pointer (some ⟨gr, 0, none⟩), .string x] (w2.alloc (.cells #[.int .i64 A, .int .i64 L, .int .i64 C] 36)) fun e w3 => ∃ v', e = .returned (.tuple #[v', .int .i64 E, .agg #[.int .i64 A, .int .i64 L, .int .i64 C]]) ∧ Rt (w2.alloc (.cells #[.int .i64 A, .int .i64 L, .int .i64 C] 36)).heap.size w3 v' M ∧ Kp (fun q => q = gr) (w2.alloc (.cells #[.int .i64 A, .int .i64 L, .int .i64 C] 36)) w3 ∧ PS own' w3 gl gr (m + x.size)) := hD _ (Kp.of_below hb2)
  have b2 : Box3 (w2.alloc (.cells #[.int .i64 A, .int .i64 L, .int .i64 C] 36)) w2.heap.size A L C := Box3.new w2 A L C
  have pb3 := blk_below pb2 hb2
  have r2 := hf.row.below hb2
  have q0 : (w2.alloc (.cells #[.int .i64 A, .int .i64 L, .int .i64 C] 36)).cell? ⟨W.heap.size, 0, none⟩ = some (.pointer (some ⟨gl, 0, none⟩)) := blk_cell pb3 rfl
  have q1 : (w2.alloc (.cells #[.int .i64 A, .int .i64 L, .int .i64 C] 36)).cell? ⟨W.heap.size, 1, none⟩ = some (.pointer (some ⟨gr, 0, none⟩)) := blk_cell pb3 rfl
  have q1' : w2.cell? ⟨W.heap.size, 1, none⟩ = some (.pointer (some ⟨gr, 0, none⟩)) := blk_cell pb2 rfl
  have hlw2 : W.heap.size < w2.heap.size := by omega
  have HS2 : Hid (Fd own W1 w2 own' (.slice va M.length vca) M ∧ Rt W1.heap.size (w2.alloc (.cells #[.int .i64 A, .int .i64 L, .int .i64 C] 36)) (.slice va M.length vca) M ∧ Box3 (w2.alloc (.cells #[.int .i64 A, .int .i64 L, .int .i64 C] 36)) w2.heap.size A L C ∧ (w2.alloc (.cells #[.int .i64 A, .int .i64 L, .int .i64 C] 36)).heap[W.heap.size]? = some (.cells #[.pointer (some ⟨gl, 0, none⟩), .pointer (some ⟨gr, 0, none⟩)] 30 (0, 0)) ∧ Kp (Onw own W1.heap.size) W1 (w2.alloc (.cells #[.int .i64 A, .int .i64 L, .int .i64 C] 36))) := ⟨hf, r2, b2, pb3, hf.kp.then hb2⟩
  have HN : Hid (W.heap.size < W1.heap.size ∧ gr < W.heap.size ∧ W1.heap.size ≤ w2.heap.size ∧ M.length ≤ 1000000000) := ⟨hlr, hgr, hs2, hM⟩
  clear hf hD hP hbW pb pb2 pb3 r2 b2 hb2 p0 p1 HF
  go_wp2_with (first | (go_at_call 14; refine HR.out.mono ?_; rintro e w3 ⟨v', rfl, hr3, hk3, hp3⟩; obtain ⟨vb, vcb, rfl, _, _⟩ := hr3.shape))
  obtain ⟨hf, r2, b2, pb3, kp2⟩ := HS2.out
  have hb4 : Below w3.heap.size w3 (w3.alloc (.cells #[.int .i64 A, .int .i64 L, .int .i64 C] 36)) := (Below.refl _ _).alloc (Nat.le_refl _) _
  have hz3 := hk3.size
  rw [World.size_alloc] at hz3
  have r3 : Rt W1.heap.size (w3.alloc (.cells #[.int .i64 A, .int .i64 L, .int .i64 C] 36)) (.slice va M.length vca) M := (r2.kp hk3 (fun q hq e => by have := r2.own q hq; omega)).below hb4
  have r3' : Rt (w2.alloc (.cells #[.int .i64 A, .int .i64 L, .int .i64 C] 36)).heap.size (w3.alloc (.cells #[.int .i64 A, .int .i64 L, .int .i64 C] 36)) (.slice vb M.length vcb) M := hr3.below hb4
  have b3 : Box3 (w3.alloc (.cells #[.int .i64 A, .int .i64 L, .int .i64 C] 36)) w2.heap.size A L C := Box3.below (hk3.blk b2 (fun e => by omega)) hb4
  have b3' : Box3 (w3.alloc (.cells #[.int .i64 A, .int .i64 L, .int .i64 C] 36)) w3.heap.size A L C := Box3.new w3 A L C
  have pb4 := blk_below (hk3.blk pb3 (fun e => by omega)) hb4
  have hp4 := hp3.below hb4
  have kp4 : Kp (Pnw own gr W1.heap.size) W1 (w3.alloc (.cells #[.int .i64 A, .int .i64 L, .int .i64 C] 36)) := ((kp2.sub (fun q e => by rcases e with e | e; exact .inl e; exact .inr (.inr e))).step hk3 (fun j _ e => .inr (.inl e))).then hb4
  obtain ⟨V4, hV4⟩ : ∃ V4, w3.alloc (.cells #[.int .i64 A, .int .i64 L, .int .i64 C] 36) = V4 := ⟨_, rfl⟩
  rw [hV4] at r3 r3' b3 b3' pb4 hp4 kp4
  have HSa : Hid (Calls Tryz.prog 15 #[.slice va M.length vca, .slice vb M.length vcb] V4 fun e w' => e = .returned (.bool true) ∧ Below V4.heap.size V4 w') := by
    obtain ⟨ao, ca, ea, la, _⟩ := Lt.row r3
    obtain ⟨bo, cb, eb, lb, _⟩ := Lt.row r3'
    cases ea
    cases eb
    exact same_eq va vb M vca vcb V4 la lb (by have := HN.out.2.2.2; omega)
  have HS4 : Hid (Rt W1.heap.size V4 (.slice va M.length vca) M ∧ Box3 V4 w2.heap.size A L C ∧ Box3 V4 w3.heap.size A L C ∧ V4.heap[W.heap.size]? = some (.cells #[.pointer (some ⟨gl, 0, none⟩), .pointer (some ⟨gr, 0, none⟩)] 30 (0, 0)) ∧ PS own' V4 gl gr (m + x.size) ∧ Kp (Pnw own gr W1.heap.size) W1 V4) := ⟨r3, b3, b3', pb4, hp4, kp4⟩
  have HFd : Hid ((∀ q, (Value.slice va M.length vca).ownBlock = some q → ¬ own' q) ∧ ∀ q, own' q → own q ∨ W1.heap.size ≤ q) := ⟨hf.ap, hf.sub⟩
  clear hf r2 b2 pb3 kp2 r3 r3' b3 b3' pb4 hp4 kp4 hr3 hk3 hp3 HS2 HR q0 q1 q1' hb4
  rw [hV4]
  clear hV4
  refine HSa.out.mono ?_
  rintro e w5 ⟨rfl, hb5⟩
  obtain ⟨r3, b3, b3', pb4, hp4, kp4⟩ := HS4.out
  have r5 := r3.below hb5
  have b5 := b3.below hb5
  have b5' := b3'.below hb5
  have pb5 := blk_below pb4 hb5
  have hp5 := hp4.below hb5
  have kp5 := kp4.then hb5
  have HSp : Hid (Calls Tryz.prog 16 #[.slice va M.length vca] w5 fun e w' => e = .returned (.tuple #[]) ∧ (Box3 w' w2.heap.size A L C ∧ Box3 w' w3.heap.size A L C ∧ w'.heap[W.heap.size]? = some (.cells #[.pointer (some ⟨gl, 0, none⟩), .pointer (some ⟨gr, 0, none⟩)] 30 (0, 0)) ∧ PS own' w' gl gr (m + x.size) ∧ Kp (Pnw own gr W1.heap.size) W1 w')) := by
    refine (spoil_any _ M.length w5 ⟨_, r5.low (Nat.zero_le _)⟩ HN.out.2.2.2).mono ?_
    rintro e w' ⟨rfl, hk⟩
    refine ⟨rfl, hk.blk b5 (fun e => r5.ne b5 (by decide) _ e.symm rfl), hk.blk b5' (fun e => r5.ne b5' (by decide) _ e.symm rfl), hk.blk pb5 (fun e => r5.ne pb5 (by decide) _ e.symm rfl), hp5.kp hk (fun q hq e => HFd.out.1 q e.symm hq) (fun e => by have := r5.own gr e.symm; have := HN.out; omega), kp5.step hk (fun j _ e => .inr (.inr (r5.own j e.symm)))⟩
  clear r3 b3 b3' pb4 hp4 kp4 r5 b5 b5' pb5 hp5 kp5 HS4 HSa hb5
  go_wp2_with (first | (go_at_call 16; refine HSp.out.mono ?_; rintro e w6 ⟨rfl, b6, b6', pb6, hp6, kp6⟩; have g0 := b6.cell0; have g1 := b6.cell1; have g2 := b6.cell2; have g3 := b6'.cell0; have g4 := b6'.cell1; have g5 := b6'.cell2; have q0 : w6.cell? ⟨W.heap.size, 0, none⟩ = some (.pointer (some ⟨gl, 0, none⟩)) := blk_cell pb6 rfl; have q1 : w6.cell? ⟨W.heap.size, 1, none⟩ = some (.pointer (some ⟨gr, 0, none⟩)) := blk_cell pb6 rfl))
  clear g0 g1 g2 g3 g4 g5 q0 q1
  obtain ⟨hb, HLh, HRh⟩ : ∃ n : Nat, Hid (∀ V, Below w6.heap.size w6 V → Calls Tryz.prog 11 #[.pointer (some ⟨gl, 0, none⟩)] V fun e w' => e = .returned (.int .i64 n) ∧ Below V.heap.size V w') ∧ Hid (∀ V, Below w6.heap.size w6 V → Calls Tryz.prog 17 #[.pointer (some ⟨gr, 0, none⟩)] V fun e w' => e = .returned (.int .i64 n) ∧ Below V.heap.size V w') := both_held' hp6 hm
  have HK6 : Hid (∀ V, Below w6.heap.size w6 V → V.cell? ⟨w2.heap.size, 0, none⟩ = some (.int .i64 A) ∧ V.cell? ⟨w2.heap.size, 1, none⟩ = some (.int .i64 L) ∧ V.cell? ⟨w2.heap.size, 2, none⟩ = some (.int .i64 C) ∧ V.cell? ⟨w3.heap.size, 0, none⟩ = some (.int .i64 A) ∧ V.cell? ⟨w3.heap.size, 1, none⟩ = some (.int .i64 L) ∧ V.cell? ⟨w3.heap.size, 2, none⟩ = some (.int .i64 C) ∧ V.cell? ⟨W.heap.size, 0, none⟩ = some (.pointer (some ⟨gl, 0, none⟩)) ∧ V.cell? ⟨W.heap.size, 1, none⟩ = some (.pointer (some ⟨gr, 0, none⟩)) ∧ Below w6.heap.size w6 V) := fun V hV => ⟨(b6.below hV).cell0, (b6.below hV).cell1, (b6.below hV).cell2, (b6'.below hV).cell0, (b6'.below hV).cell1, (b6'.below hV).cell2, blk_cell (blk_below pb6 hV) rfl, blk_cell (blk_below pb6 hV) rfl, hV⟩
  have HS6 : Hid (PS own' w6 gl gr (m + x.size) ∧ Kp (Pnw own gr W1.heap.size) W1 w6) := ⟨hp6, kp6⟩
  clear b6 b6' pb6 hp6 kp6 HSp
  go_region_held3 (fun w' => w'.cell? ⟨w2.heap.size, 0, none⟩ = some (.int .i64 A) ∧ w'.cell? ⟨w2.heap.size, 1, none⟩ = some (.int .i64 L) ∧ w'.cell? ⟨w2.heap.size, 2, none⟩ = some (.int .i64 C) ∧ w'.cell? ⟨w3.heap.size, 0, none⟩ = some (.int .i64 A) ∧ w'.cell? ⟨w3.heap.size, 1, none⟩ = some (.int .i64 L) ∧ w'.cell? ⟨w3.heap.size, 2, none⟩ = some (.int .i64 C) ∧ w'.cell? ⟨W.heap.size, 0, none⟩ = some (.pointer (some ⟨gl, 0, none⟩)) ∧ w'.cell? ⟨W.heap.size, 1, none⟩ = some (.pointer (some ⟨gr, 0, none⟩)) ∧ Below w6.heap.size w6 w') (first | (exact HK6.out _ (by assumption)) | (exact HK6.out _ (Below.refl _ _)) | (exact HK6.out _ (Below.refl _ _).drew) | go_keep) (first | (go_at_call 11; refine (HLh.out _ (by first | assumption | exact (Below.refl _ _).drew | exact (by assumption : Below w6.heap.size w6 _).drew)).mono ?_; rintro e w7 ⟨rfl, hb7⟩; have hB7 := (by first | exact (Below.refl w6.heap.size w6).drew.trans (hb7.mono (Nat.le_refl _)) | exact (by assumption : Below w6.heap.size w6 _).trans (hb7.mono (Below.size (by assumption))) : Below w6.heap.size w6 w7)) | (go_at_call 17; refine (HRh.out _ (by first | assumption | exact (Below.refl _ _).drew | exact (by assumption : Below w6.heap.size w6 _).drew)).mono ?_; rintro e w8 ⟨rfl, hb8⟩; have hB8 := (by first | exact (Below.refl w6.heap.size w6).drew.trans (hb8.mono (Nat.le_refl _)) | exact (by assumption : Below w6.heap.size w6 _).trans (hb8.mono (Below.size (by assumption))) : Below w6.heap.size w6 w8)))
  go_wp2_with fail
  go_ret
  obtain ⟨hP, hbW, pb⟩ := HP.out
  obtain ⟨hp6, kp6⟩ := HS6.out
  exact ⟨rfl, own', hp6.below hB8, fun q hq => (HFd.out.2 q hq).imp (fun e => e) (fun e => by omega), (Kp.of_below hbW).step (kp6.then hB8) (fun j _ e => by rcases e with e | e | e; exact .inl e; exact .inr (.inl e); exact .inr (.inr (by omega)))⟩

set_option maxRecDepth 100000 in
set_option maxHeartbeats 400000 in
/-- One Close of both. -/
theorem pclose_any {own : Nat → Prop} {W : World} {gl gr m : Nat} (h : PS own W gl gr m) (hm : m ≤ 1000000000) (hK : ∀ V, Kp (Onw own W.heap.size) W V → Kab V) :
    Calls Tryz.prog 9 #[.agg #[.pointer (some ⟨gl, 0, none⟩), .pointer (some ⟨gr, 0, none⟩)]] W fun e w' => e = .returned (.bool true) ∧ ∃ own', Pn own W w' gl gr m own' := by
  obtain ⟨W1, hW1⟩ : ∃ W1, W.alloc (.cells #[.pointer (some ⟨gl, 0, none⟩), .pointer (some ⟨gr, 0, none⟩)] 30) = W1 := ⟨_, rfl⟩
  have hbW : Below W.heap.size W W1 := by rw [← hW1]; exact (Below.refl _ _).alloc (Nat.le_refl _) _
  have pb : W1.heap[W.heap.size]? = some (.cells #[.pointer (some ⟨gl, 0, none⟩), .pointer (some ⟨gr, 0, none⟩)] 30 (0, 0)) := by rw [← hW1]; exact World.alloc_heap_new W _
  have p0 : W1.cell? ⟨W.heap.size, 0, none⟩ = some (.pointer (some ⟨gl, 0, none⟩)) := blk_cell pb rfl
  have p1 : W1.cell? ⟨W.heap.size, 1, none⟩ = some (.pointer (some ⟨gr, 0, none⟩)) := blk_cell pb rfl
  have HF : Hid (Calls Tryz.prog 12 #[.pointer (some ⟨gl, 0, none⟩)] W1 fun e w1 => ∃ (v : Value) (E : Nat) (A L C : Int) (M : List Tv) (own' : Nat → Prop), e = .returned (.tuple #[v, .int .i64 E, .agg #[.int .i64 A, .int .i64 L, .int .i64 C]]) ∧ Fd own W1 w1 own' v M ∧ M.length ≤ 1000000000 ∧ Dsame 18 #[.pointer (some ⟨gr, 0, none⟩)] own' w1 W1.heap.size gl gr m E A L C M) := both_close (h.below hbW) hm (fun V hV => hK V (kp_base hbW hV))
  have HP : Hid (PS own W gl gr m ∧ Below W.heap.size W W1 ∧ W1.heap[W.heap.size]? = some (.cells #[.pointer (some ⟨gl, 0, none⟩), .pointer (some ⟨gr, 0, none⟩)] 30 (0, 0))) := ⟨h, hbW, pb⟩
  clear h hK hbW pb
  go_enter Tryz.func9, Tryz.ntmps9
  go_wp2_with fail
  try rw [hW1]
  clear hW1
  refine HF.out.mono ?_
  rintro e w2 ⟨v, E, A, L, C, M, own', rfl, hf, hM, hD⟩
  obtain ⟨hP, hbW, pb⟩ := HP.out
  obtain ⟨va, vca, rfl, _, _⟩ := hf.row.shape
  have hW1s := hbW.size
  have hlr : W.heap.size < W1.heap.size := blk_lt pb
  have hpw : ¬ own W.heap.size := fun e => absurd (hP.1 _ e) (Nat.lt_irrefl _)
  have hgr : gr < W.heap.size := hP.2.2.2.1
  have hngr : ¬ own gr := hP.2.2.1
  have pb2 : w2.heap[W.heap.size]? = some (.cells #[.pointer (some ⟨gl, 0, none⟩), .pointer (some ⟨gr, 0, none⟩)] 30 (0, 0)) := hf.kp.blk pb (fun e => by rcases e with e | e; exact hpw e; omega)
  have hb2 : Below w2.heap.size w2 (w2.alloc (.cells #[.int .i64 A, .int .i64 L, .int .i64 C] 36)) := (Below.refl _ _).alloc (Nat.le_refl _) _
  have hs2 := hf.kp.size
  have HR : Hid (Calls Tryz.prog 18 #[.pointer (some ⟨gr, 0, none⟩)] (w2.alloc (.cells #[.int .i64 A, .int .i64 L, .int .i64 C] 36)) fun e w3 => ∃ v', e = .returned (.tuple #[v', .int .i64 E, .agg #[.int .i64 A, .int .i64 L, .int .i64 C]]) ∧ Rt (w2.alloc (.cells #[.int .i64 A, .int .i64 L, .int .i64 C] 36)).heap.size w3 v' M ∧ Kp (fun q => q = gr) (w2.alloc (.cells #[.int .i64 A, .int .i64 L, .int .i64 C] 36)) w3 ∧ PS own' w3 gl gr m) := hD _ (Kp.of_below hb2)
  have b2 : Box3 (w2.alloc (.cells #[.int .i64 A, .int .i64 L, .int .i64 C] 36)) w2.heap.size A L C := Box3.new w2 A L C
  have pb3 := blk_below pb2 hb2
  have r2 := hf.row.below hb2
  have q0 : (w2.alloc (.cells #[.int .i64 A, .int .i64 L, .int .i64 C] 36)).cell? ⟨W.heap.size, 0, none⟩ = some (.pointer (some ⟨gl, 0, none⟩)) := blk_cell pb3 rfl
  have q1 : (w2.alloc (.cells #[.int .i64 A, .int .i64 L, .int .i64 C] 36)).cell? ⟨W.heap.size, 1, none⟩ = some (.pointer (some ⟨gr, 0, none⟩)) := blk_cell pb3 rfl
  have q1' : w2.cell? ⟨W.heap.size, 1, none⟩ = some (.pointer (some ⟨gr, 0, none⟩)) := blk_cell pb2 rfl
  have hlw2 : W.heap.size < w2.heap.size := by omega
  have HS2 : Hid (Fd own W1 w2 own' (.slice va M.length vca) M ∧ Rt W1.heap.size (w2.alloc (.cells #[.int .i64 A, .int .i64 L, .int .i64 C] 36)) (.slice va M.length vca) M ∧ Box3 (w2.alloc (.cells #[.int .i64 A, .int .i64 L, .int .i64 C] 36)) w2.heap.size A L C ∧ (w2.alloc (.cells #[.int .i64 A, .int .i64 L, .int .i64 C] 36)).heap[W.heap.size]? = some (.cells #[.pointer (some ⟨gl, 0, none⟩), .pointer (some ⟨gr, 0, none⟩)] 30 (0, 0)) ∧ Kp (Onw own W1.heap.size) W1 (w2.alloc (.cells #[.int .i64 A, .int .i64 L, .int .i64 C] 36))) := ⟨hf, r2, b2, pb3, hf.kp.then hb2⟩
  have HN : Hid (W.heap.size < W1.heap.size ∧ gr < W.heap.size ∧ W1.heap.size ≤ w2.heap.size ∧ M.length ≤ 1000000000) := ⟨hlr, hgr, hs2, hM⟩
  clear hf hD hP hbW pb pb2 pb3 r2 b2 hb2 p0 p1 HF
  go_wp2_with (first | (go_at_call 18; refine HR.out.mono ?_; rintro e w3 ⟨v', rfl, hr3, hk3, hp3⟩; obtain ⟨vb, vcb, rfl, _, _⟩ := hr3.shape))
  obtain ⟨hf, r2, b2, pb3, kp2⟩ := HS2.out
  have hb4 : Below w3.heap.size w3 (w3.alloc (.cells #[.int .i64 A, .int .i64 L, .int .i64 C] 36)) := (Below.refl _ _).alloc (Nat.le_refl _) _
  have hz3 := hk3.size
  rw [World.size_alloc] at hz3
  have r3 : Rt W1.heap.size (w3.alloc (.cells #[.int .i64 A, .int .i64 L, .int .i64 C] 36)) (.slice va M.length vca) M := (r2.kp hk3 (fun q hq e => by have := r2.own q hq; omega)).below hb4
  have r3' : Rt (w2.alloc (.cells #[.int .i64 A, .int .i64 L, .int .i64 C] 36)).heap.size (w3.alloc (.cells #[.int .i64 A, .int .i64 L, .int .i64 C] 36)) (.slice vb M.length vcb) M := hr3.below hb4
  have b3 : Box3 (w3.alloc (.cells #[.int .i64 A, .int .i64 L, .int .i64 C] 36)) w2.heap.size A L C := Box3.below (hk3.blk b2 (fun e => by omega)) hb4
  have b3' : Box3 (w3.alloc (.cells #[.int .i64 A, .int .i64 L, .int .i64 C] 36)) w3.heap.size A L C := Box3.new w3 A L C
  have pb4 := blk_below (hk3.blk pb3 (fun e => by omega)) hb4
  have hp4 := hp3.below hb4
  have kp4 : Kp (Pnw own gr W1.heap.size) W1 (w3.alloc (.cells #[.int .i64 A, .int .i64 L, .int .i64 C] 36)) := ((kp2.sub (fun q e => by rcases e with e | e; exact .inl e; exact .inr (.inr e))).step hk3 (fun j _ e => .inr (.inl e))).then hb4
  obtain ⟨V4, hV4⟩ : ∃ V4, w3.alloc (.cells #[.int .i64 A, .int .i64 L, .int .i64 C] 36) = V4 := ⟨_, rfl⟩
  rw [hV4] at r3 r3' b3 b3' pb4 hp4 kp4
  have HSa : Hid (Calls Tryz.prog 15 #[.slice va M.length vca, .slice vb M.length vcb] V4 fun e w' => e = .returned (.bool true) ∧ Below V4.heap.size V4 w') := by
    obtain ⟨ao, ca, ea, la, _⟩ := Lt.row r3
    obtain ⟨bo, cb, eb, lb, _⟩ := Lt.row r3'
    cases ea
    cases eb
    exact same_eq va vb M vca vcb V4 la lb (by have := HN.out.2.2.2; omega)
  have HS4 : Hid (Rt W1.heap.size V4 (.slice va M.length vca) M ∧ Box3 V4 w2.heap.size A L C ∧ Box3 V4 w3.heap.size A L C ∧ V4.heap[W.heap.size]? = some (.cells #[.pointer (some ⟨gl, 0, none⟩), .pointer (some ⟨gr, 0, none⟩)] 30 (0, 0)) ∧ PS own' V4 gl gr m ∧ Kp (Pnw own gr W1.heap.size) W1 V4) := ⟨r3, b3, b3', pb4, hp4, kp4⟩
  have HFd : Hid ((∀ q, (Value.slice va M.length vca).ownBlock = some q → ¬ own' q) ∧ ∀ q, own' q → own q ∨ W1.heap.size ≤ q) := ⟨hf.ap, hf.sub⟩
  clear hf r2 b2 pb3 kp2 r3 r3' b3 b3' pb4 hp4 kp4 hr3 hk3 hp3 HS2 HR q0 q1 q1' hb4
  rw [hV4]
  clear hV4
  refine HSa.out.mono ?_
  rintro e w5 ⟨rfl, hb5⟩
  obtain ⟨r3, b3, b3', pb4, hp4, kp4⟩ := HS4.out
  have r5 := r3.below hb5
  have b5 := b3.below hb5
  have b5' := b3'.below hb5
  have pb5 := blk_below pb4 hb5
  have hp5 := hp4.below hb5
  have kp5 := kp4.then hb5
  have HSp : Hid (Calls Tryz.prog 16 #[.slice va M.length vca] w5 fun e w' => e = .returned (.tuple #[]) ∧ (Box3 w' w2.heap.size A L C ∧ Box3 w' w3.heap.size A L C ∧ w'.heap[W.heap.size]? = some (.cells #[.pointer (some ⟨gl, 0, none⟩), .pointer (some ⟨gr, 0, none⟩)] 30 (0, 0)) ∧ PS own' w' gl gr m ∧ Kp (Pnw own gr W1.heap.size) W1 w')) := by
    refine (spoil_any _ M.length w5 ⟨_, r5.low (Nat.zero_le _)⟩ HN.out.2.2.2).mono ?_
    rintro e w' ⟨rfl, hk⟩
    refine ⟨rfl, hk.blk b5 (fun e => r5.ne b5 (by decide) _ e.symm rfl), hk.blk b5' (fun e => r5.ne b5' (by decide) _ e.symm rfl), hk.blk pb5 (fun e => r5.ne pb5 (by decide) _ e.symm rfl), hp5.kp hk (fun q hq e => HFd.out.1 q e.symm hq) (fun e => by have := r5.own gr e.symm; have := HN.out; omega), kp5.step hk (fun j _ e => .inr (.inr (r5.own j e.symm)))⟩
  clear r3 b3 b3' pb4 hp4 kp4 r5 b5 b5' pb5 hp5 kp5 HS4 HSa hb5
  go_wp2_with (first | (go_at_call 16; refine HSp.out.mono ?_; rintro e w6 ⟨rfl, b6, b6', pb6, hp6, kp6⟩; have g0 := b6.cell0; have g1 := b6.cell1; have g2 := b6.cell2; have g3 := b6'.cell0; have g4 := b6'.cell1; have g5 := b6'.cell2; have q0 : w6.cell? ⟨W.heap.size, 0, none⟩ = some (.pointer (some ⟨gl, 0, none⟩)) := blk_cell pb6 rfl; have q1 : w6.cell? ⟨W.heap.size, 1, none⟩ = some (.pointer (some ⟨gr, 0, none⟩)) := blk_cell pb6 rfl))
  clear g0 g1 g2 g3 g4 g5 q0 q1
  obtain ⟨hb, HLh, HRh⟩ : ∃ n : Nat, Hid (∀ V, Below w6.heap.size w6 V → Calls Tryz.prog 11 #[.pointer (some ⟨gl, 0, none⟩)] V fun e w' => e = .returned (.int .i64 n) ∧ Below V.heap.size V w') ∧ Hid (∀ V, Below w6.heap.size w6 V → Calls Tryz.prog 17 #[.pointer (some ⟨gr, 0, none⟩)] V fun e w' => e = .returned (.int .i64 n) ∧ Below V.heap.size V w') := both_held' hp6 hm
  have HK6 : Hid (∀ V, Below w6.heap.size w6 V → V.cell? ⟨w2.heap.size, 0, none⟩ = some (.int .i64 A) ∧ V.cell? ⟨w2.heap.size, 1, none⟩ = some (.int .i64 L) ∧ V.cell? ⟨w2.heap.size, 2, none⟩ = some (.int .i64 C) ∧ V.cell? ⟨w3.heap.size, 0, none⟩ = some (.int .i64 A) ∧ V.cell? ⟨w3.heap.size, 1, none⟩ = some (.int .i64 L) ∧ V.cell? ⟨w3.heap.size, 2, none⟩ = some (.int .i64 C) ∧ V.cell? ⟨W.heap.size, 0, none⟩ = some (.pointer (some ⟨gl, 0, none⟩)) ∧ V.cell? ⟨W.heap.size, 1, none⟩ = some (.pointer (some ⟨gr, 0, none⟩)) ∧ Below w6.heap.size w6 V) := fun V hV => ⟨(b6.below hV).cell0, (b6.below hV).cell1, (b6.below hV).cell2, (b6'.below hV).cell0, (b6'.below hV).cell1, (b6'.below hV).cell2, blk_cell (blk_below pb6 hV) rfl, blk_cell (blk_below pb6 hV) rfl, hV⟩
  have HS6 : Hid (PS own' w6 gl gr m ∧ Kp (Pnw own gr W1.heap.size) W1 w6) := ⟨hp6, kp6⟩
  clear b6 b6' pb6 hp6 kp6 HSp
  go_region_held3 (fun w' => w'.cell? ⟨w2.heap.size, 0, none⟩ = some (.int .i64 A) ∧ w'.cell? ⟨w2.heap.size, 1, none⟩ = some (.int .i64 L) ∧ w'.cell? ⟨w2.heap.size, 2, none⟩ = some (.int .i64 C) ∧ w'.cell? ⟨w3.heap.size, 0, none⟩ = some (.int .i64 A) ∧ w'.cell? ⟨w3.heap.size, 1, none⟩ = some (.int .i64 L) ∧ w'.cell? ⟨w3.heap.size, 2, none⟩ = some (.int .i64 C) ∧ w'.cell? ⟨W.heap.size, 0, none⟩ = some (.pointer (some ⟨gl, 0, none⟩)) ∧ w'.cell? ⟨W.heap.size, 1, none⟩ = some (.pointer (some ⟨gr, 0, none⟩)) ∧ Below w6.heap.size w6 w') (first | (exact HK6.out _ (by assumption)) | (exact HK6.out _ (Below.refl _ _)) | (exact HK6.out _ (Below.refl _ _).drew) | go_keep) (first | (go_at_call 11; refine (HLh.out _ (by first | assumption | exact (Below.refl _ _).drew | exact (by assumption : Below w6.heap.size w6 _).drew)).mono ?_; rintro e w7 ⟨rfl, hb7⟩; have hB7 := (by first | exact (Below.refl w6.heap.size w6).drew.trans (hb7.mono (Nat.le_refl _)) | exact (by assumption : Below w6.heap.size w6 _).trans (hb7.mono (Below.size (by assumption))) : Below w6.heap.size w6 w7)) | (go_at_call 17; refine (HRh.out _ (by first | assumption | exact (Below.refl _ _).drew | exact (by assumption : Below w6.heap.size w6 _).drew)).mono ?_; rintro e w8 ⟨rfl, hb8⟩; have hB8 := (by first | exact (Below.refl w6.heap.size w6).drew.trans (hb8.mono (Nat.le_refl _)) | exact (by assumption : Below w6.heap.size w6 _).trans (hb8.mono (Below.size (by assumption))) : Below w6.heap.size w6 w8)))
  go_wp2_with fail
  go_ret
  obtain ⟨hP, hbW, pb⟩ := HP.out
  obtain ⟨hp6, kp6⟩ := HS6.out
  exact ⟨rfl, own', hp6.below hB8, fun q hq => (HFd.out.2 q hq).imp (fun e => e) (fun e => by omega), (Kp.of_below hbW).step (kp6.then hB8) (fun j _ e => by rcases e with e | e | e; exact .inl e; exact .inr (.inl e); exact .inr (.inr (by omega)))⟩

end Go.Proofs.YtnmjkgjhjnpijaaGreatDoor
