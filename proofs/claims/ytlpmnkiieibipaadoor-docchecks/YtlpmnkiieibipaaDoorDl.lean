import Derived.Test.YtlpmnkiieibipaaDoorDj
import Derived.Deep.RegionHeld3
set_option linter.unusedVariables false
set_option linter.unusedSimpArgs false
namespace Go.Proofs.YtlpmnkiieibipaaDoor
open Go.RowKit
open Go.Lib (itoa)

theorem num_any (B : Nat) (v : Value) (l : List UInt8) (n : Int) (hn : rtN n = true) (w : World) (hB : B ≤ w.heap.size) (hG : GlB B w) (hr : Br B w v l) (hl : l.length ≤ 1073741824) :
    Calls Tryd.prog 29 #[v, .int .i64 n] w fun e w' => ∃ v', e = .returned v' ∧ Br B w' v' (l ++ itoa n) ∧ Bk B w w' := by
  obtain ⟨h0, h1⟩ := rtN_of hn
  have HC : Hid (Calls Tryd.prog 41 #[v, .int .i64 n, .int .i64 10] w fun e w' => ∃ v', e = .returned v' ∧ Br B w' v' (l ++ itoa n) ∧ Bk B w w') := by
    refine (Tryd.strconv_AppendInt_10 B l.length n (by omega) (by omega) v (bc l) w hr hB (by omega) hG.tab).mono ?_
    rintro e w' ⟨v', rfl, h2, h3, h4⟩
    refine ⟨v', rfl, ?_, h3, h4⟩
    unfold Br
    rw [List.length_append, bc_app]
    exact h2
  obtain ⟨p, cap, rfl, hc1, hc2⟩ := hr.shape
  clear hr hG
  go_enter Tryd.func29, Tryd.ntmps29
  go_wp2_with (go_at_call 41; refine HC.out.mono ?_; rintro e w1 ⟨v', rfl, h2, h3⟩)
  obtain ⟨p2, cap2, rfl, _, _⟩ := h2.shape
  have HZ : Hid (Br B w1 (.slice p2 (l ++ itoa n).length cap2) (l ++ itoa n) ∧ Bk B w w1) := ⟨h2, h3⟩
  clear h2 h3
  generalize (l ++ itoa n).length = nn at *
  go_wp2_with fail
  go_ret
  exact ⟨_, rfl, HZ.out⟩

set_option maxHeartbeats 2000000 in
set_option maxRecDepth 100000 in
theorem line_blank (B : Nat) (v : Value) (l o : List UInt8) (ho : o = l ++ ([98, 108, 97, 110, 107] ++ [10])) (w : World) (hB : B ≤ w.heap.size) (hG : GlB B w) (hr : Br B w v l) (hl : l.length ≤ 1000000000) :
    Calls Tryd.prog 20 #[v, .agg #[.int .u8 2, .string ⟨#[]⟩, .int .i64 0, .int .i64 0, .bool false]] w fun e w' => ∃ v', e = .returned v' ∧ Br B w' v' o ∧ Bk B w w' := by
  have HO : Hid (o = l ++ ([98, 108, 97, 110, 107] ++ [10])) := ho
  clear ho
  have g1 := hG.here.words 2 (by omega)
  simp only [wordL, List.getD_cons_succ, List.getD_cons_zero] at g1
  have g0 : 0 < w.heap.size := World.block_lt_of_cell? w _ g1
  obtain ⟨p, cap, rfl, hc1, hc2⟩ := hr.shape
  obtain ⟨W, eW⟩ : ∃ W, W = w.alloc (.cells #[.int .u8 2, .string ⟨#[]⟩, .int .i64 0, .int .i64 0, .bool false] 36) := ⟨_, rfl⟩
  have hb1 : Below w.heap.size w W := by rw [eW]; exact (Below.refl _ _).alloc (Nat.le_refl _) _
  have HR : Hid (Br B W (.slice p l.length cap) l) := hr.below hb1
  have hB1 : B ≤ W.heap.size := Nat.le_trans hB hb1.size
  have HG : Hid (GlB B W ∧ Bk B w W) := ⟨hG.on (hb1.mono hB), Bk.of_below hb1 hB⟩
  have HX : Hid (W.heap[w.heap.size]? = some (.cells #[.int .u8 2, .string ⟨#[]⟩, .int .i64 0, .int .i64 0, .bool false] 36 (0, 0))) := by rw [eW]; exact heap_alloc_new _ _
  rw [eW] at HR hB1 HG HX
  clear hr hG hb1 eW
  go_enter Tryd.func20, Tryd.ntmps20
  go_wp2_with (at_builtin; refine app_str rfl _ _ rfl B (.slice p l.length cap) l ⟨#[98, 108, 97, 110, 107]⟩ rfl HR.out rfl (by show l.length + 5 ≤ _; omega) hB1 ?_)
  intro v2 w2 hr2 hb2
  have hB2 : B ≤ w2.heap.size := Nat.le_trans hB1 hb2.bel.size
  have HG2 : Hid (GlB B w2 ∧ Bk B w w2) := ⟨HG.out.1.on hb2.bel, HG.out.2.trans hb2⟩
  have HX2 : Hid (w2.heap[w.heap.size]? = some (.cells #[.int .u8 2, .string ⟨#[]⟩, .int .i64 0, .int .i64 0, .bool false] 36 (0, 0))) := hb2.blk HX.out (by decide)
  have hbx : w.heap.size < w2.heap.size := blk_lt HX2.out
  have hbn : ¬ w.heap.size = w2.heap.size := by omega
  have x0 := blk_cell (k := 0) HX2.out rfl
  have x1 := blk_cell (k := 1) HX2.out rfl
  have x2 := blk_cell (k := 2) HX2.out rfl
  have x3 := blk_cell (k := 3) HX2.out rfl
  have x4 := blk_cell (k := 4) HX2.out rfl
  clear HR HG HX hb2 g1 hB1
  obtain ⟨l2, hl2⟩ : ∃ l2, l2 = l ++ ls ⟨#[98, 108, 97, 110, 107]⟩ := ⟨_, rfl⟩
  have hn2 : l2.length ≤ 1000000010 := by rw [hl2, List.length_append, ls_len]; show _ + 5 ≤ _; omega
  rw [← hl2] at hr2
  obtain ⟨p2, cap2, rfl, hc3, hc4⟩ := hr2.shape
  have HR2 : Hid (Br B w2 (.slice p2 l2.length cap2) l2) := hr2
  have HL2 : Hid (l2 = l ++ ls ⟨#[98, 108, 97, 110, 107]⟩) := hl2
  clear hr2 hl2
  have HRz : Hid (Br B w2 (.slice p2 l2.length cap2) l2) := HR2
  have HGz : Hid (Bk B w w2) := HG2.out.2
  clear HR2 HG2
  obtain ⟨pn, hpn⟩ : ∃ pn, pn = p2 := ⟨_, rfl⟩
  obtain ⟨capn, hcn⟩ : ∃ capn, capn = cap2 := ⟨_, rfl⟩
  subst hpn hcn
  have HRn : Hid (Br B (w2.alloc (.cells #[.int .u8 10] 5)) (.slice pn l2.length capn) l2) := HRz.out.below ((Below.refl _ _).alloc (Nat.le_refl _) _)
  have hBn : B ≤ (w2.alloc (.cells #[.int .u8 10] 5)).heap.size := by rw [World.size_alloc]; omega
  go_wp2_with (at_builtin; refine app_bytes rfl _ _ rfl B (.slice pn l2.length capn) l2 [10] rfl HRn.out w2.heap.size _ _ rfl rfl (heap_new _ _) (by simp only [List.length_cons, List.length_nil]; omega) hBn ?_)
  intro v9 w9 hr9 hb9
  obtain ⟨p9, cap9, rfl, _, _⟩ := hr9.shape
  have HZ : Hid (Br B w9 (.slice p9 (l2 ++ [10]).length cap9) (l2 ++ [10]) ∧ Bk B w w9) := ⟨hr9, (HGz.out.alloc hB _).trans hb9⟩
  clear hr9 hb9 HRn HGz HRz
  generalize (l2 ++ [10]).length = nn at *
  go_wp2_with fail
  go_ret
  refine ⟨_, rfl, ?_, HZ.out.2⟩
  have h9 := HZ.out.1
  rw [HL2.out, show ls ⟨#[98, 108, 97, 110, 107]⟩ = [98, 108, 97, 110, 107] from rfl] at h9
  rw [HO.out]
  simp only [List.append_assoc] at h9 ⊢
  exact h9

set_option maxHeartbeats 2000000 in
set_option maxRecDepth 100000 in
theorem line_hard (B : Nat) (v : Value) (l o : List UInt8) (ho : o = l ++ ([104, 97, 114, 100] ++ [10])) (w : World) (hB : B ≤ w.heap.size) (hG : GlB B w) (hr : Br B w v l) (hl : l.length ≤ 1000000000) :
    Calls Tryd.prog 20 #[v, .agg #[.int .u8 4, .string ⟨#[]⟩, .int .i64 0, .int .i64 0, .bool false]] w fun e w' => ∃ v', e = .returned v' ∧ Br B w' v' o ∧ Bk B w w' := by
  have HO : Hid (o = l ++ ([104, 97, 114, 100] ++ [10])) := ho
  clear ho
  have g1 := hG.here.words 4 (by omega)
  simp only [wordL, List.getD_cons_succ, List.getD_cons_zero] at g1
  have g0 : 0 < w.heap.size := World.block_lt_of_cell? w _ g1
  obtain ⟨p, cap, rfl, hc1, hc2⟩ := hr.shape
  obtain ⟨W, eW⟩ : ∃ W, W = w.alloc (.cells #[.int .u8 4, .string ⟨#[]⟩, .int .i64 0, .int .i64 0, .bool false] 36) := ⟨_, rfl⟩
  have hb1 : Below w.heap.size w W := by rw [eW]; exact (Below.refl _ _).alloc (Nat.le_refl _) _
  have HR : Hid (Br B W (.slice p l.length cap) l) := hr.below hb1
  have hB1 : B ≤ W.heap.size := Nat.le_trans hB hb1.size
  have HG : Hid (GlB B W ∧ Bk B w W) := ⟨hG.on (hb1.mono hB), Bk.of_below hb1 hB⟩
  have HX : Hid (W.heap[w.heap.size]? = some (.cells #[.int .u8 4, .string ⟨#[]⟩, .int .i64 0, .int .i64 0, .bool false] 36 (0, 0))) := by rw [eW]; exact heap_alloc_new _ _
  rw [eW] at HR hB1 HG HX
  clear hr hG hb1 eW
  go_enter Tryd.func20, Tryd.ntmps20
  go_wp2_with (at_builtin; refine app_str rfl _ _ rfl B (.slice p l.length cap) l ⟨#[104, 97, 114, 100]⟩ rfl HR.out rfl (by show l.length + 4 ≤ _; omega) hB1 ?_)
  intro v2 w2 hr2 hb2
  have hB2 : B ≤ w2.heap.size := Nat.le_trans hB1 hb2.bel.size
  have HG2 : Hid (GlB B w2 ∧ Bk B w w2) := ⟨HG.out.1.on hb2.bel, HG.out.2.trans hb2⟩
  have HX2 : Hid (w2.heap[w.heap.size]? = some (.cells #[.int .u8 4, .string ⟨#[]⟩, .int .i64 0, .int .i64 0, .bool false] 36 (0, 0))) := hb2.blk HX.out (by decide)
  have hbx : w.heap.size < w2.heap.size := blk_lt HX2.out
  have hbn : ¬ w.heap.size = w2.heap.size := by omega
  have x0 := blk_cell (k := 0) HX2.out rfl
  have x1 := blk_cell (k := 1) HX2.out rfl
  have x2 := blk_cell (k := 2) HX2.out rfl
  have x3 := blk_cell (k := 3) HX2.out rfl
  have x4 := blk_cell (k := 4) HX2.out rfl
  clear HR HG HX hb2 g1 hB1
  obtain ⟨l2, hl2⟩ : ∃ l2, l2 = l ++ ls ⟨#[104, 97, 114, 100]⟩ := ⟨_, rfl⟩
  have hn2 : l2.length ≤ 1000000010 := by rw [hl2, List.length_append, ls_len]; show _ + 4 ≤ _; omega
  rw [← hl2] at hr2
  obtain ⟨p2, cap2, rfl, hc3, hc4⟩ := hr2.shape
  have HR2 : Hid (Br B w2 (.slice p2 l2.length cap2) l2) := hr2
  have HL2 : Hid (l2 = l ++ ls ⟨#[104, 97, 114, 100]⟩) := hl2
  clear hr2 hl2
  have HRz : Hid (Br B w2 (.slice p2 l2.length cap2) l2) := HR2
  have HGz : Hid (Bk B w w2) := HG2.out.2
  clear HR2 HG2
  obtain ⟨pn, hpn⟩ : ∃ pn, pn = p2 := ⟨_, rfl⟩
  obtain ⟨capn, hcn⟩ : ∃ capn, capn = cap2 := ⟨_, rfl⟩
  subst hpn hcn
  have HRn : Hid (Br B (w2.alloc (.cells #[.int .u8 10] 5)) (.slice pn l2.length capn) l2) := HRz.out.below ((Below.refl _ _).alloc (Nat.le_refl _) _)
  have hBn : B ≤ (w2.alloc (.cells #[.int .u8 10] 5)).heap.size := by rw [World.size_alloc]; omega
  go_wp2_with (at_builtin; refine app_bytes rfl _ _ rfl B (.slice pn l2.length capn) l2 [10] rfl HRn.out w2.heap.size _ _ rfl rfl (heap_new _ _) (by simp only [List.length_cons, List.length_nil]; omega) hBn ?_)
  intro v9 w9 hr9 hb9
  obtain ⟨p9, cap9, rfl, _, _⟩ := hr9.shape
  have HZ : Hid (Br B w9 (.slice p9 (l2 ++ [10]).length cap9) (l2 ++ [10]) ∧ Bk B w w9) := ⟨hr9, (HGz.out.alloc hB _).trans hb9⟩
  clear hr9 hb9 HRn HGz HRz
  generalize (l2 ++ [10]).length = nn at *
  go_wp2_with fail
  go_ret
  refine ⟨_, rfl, ?_, HZ.out.2⟩
  have h9 := HZ.out.1
  rw [HL2.out, show ls ⟨#[104, 97, 114, 100]⟩ = [104, 97, 114, 100] from rfl] at h9
  rw [HO.out]
  simp only [List.append_assoc] at h9 ⊢
  exact h9

set_option maxHeartbeats 2000000 in
set_option maxRecDepth 100000 in
theorem line_empty (B : Nat) (v : Value) (l o : List UInt8) (ho : o = l ++ ([101, 109, 112, 116, 121] ++ [10])) (w : World) (hB : B ≤ w.heap.size) (hG : GlB B w) (hr : Br B w v l) (hl : l.length ≤ 1000000000) :
    Calls Tryd.prog 20 #[v, .agg #[.int .u8 5, .string ⟨#[]⟩, .int .i64 0, .int .i64 0, .bool false]] w fun e w' => ∃ v', e = .returned v' ∧ Br B w' v' o ∧ Bk B w w' := by
  have HO : Hid (o = l ++ ([101, 109, 112, 116, 121] ++ [10])) := ho
  clear ho
  have g1 := hG.here.words 5 (by omega)
  simp only [wordL, List.getD_cons_succ, List.getD_cons_zero] at g1
  have g0 : 0 < w.heap.size := World.block_lt_of_cell? w _ g1
  obtain ⟨p, cap, rfl, hc1, hc2⟩ := hr.shape
  obtain ⟨W, eW⟩ : ∃ W, W = w.alloc (.cells #[.int .u8 5, .string ⟨#[]⟩, .int .i64 0, .int .i64 0, .bool false] 36) := ⟨_, rfl⟩
  have hb1 : Below w.heap.size w W := by rw [eW]; exact (Below.refl _ _).alloc (Nat.le_refl _) _
  have HR : Hid (Br B W (.slice p l.length cap) l) := hr.below hb1
  have hB1 : B ≤ W.heap.size := Nat.le_trans hB hb1.size
  have HG : Hid (GlB B W ∧ Bk B w W) := ⟨hG.on (hb1.mono hB), Bk.of_below hb1 hB⟩
  have HX : Hid (W.heap[w.heap.size]? = some (.cells #[.int .u8 5, .string ⟨#[]⟩, .int .i64 0, .int .i64 0, .bool false] 36 (0, 0))) := by rw [eW]; exact heap_alloc_new _ _
  rw [eW] at HR hB1 HG HX
  clear hr hG hb1 eW
  go_enter Tryd.func20, Tryd.ntmps20
  go_wp2_with (at_builtin; refine app_str rfl _ _ rfl B (.slice p l.length cap) l ⟨#[101, 109, 112, 116, 121]⟩ rfl HR.out rfl (by show l.length + 5 ≤ _; omega) hB1 ?_)
  intro v2 w2 hr2 hb2
  have hB2 : B ≤ w2.heap.size := Nat.le_trans hB1 hb2.bel.size
  have HG2 : Hid (GlB B w2 ∧ Bk B w w2) := ⟨HG.out.1.on hb2.bel, HG.out.2.trans hb2⟩
  have HX2 : Hid (w2.heap[w.heap.size]? = some (.cells #[.int .u8 5, .string ⟨#[]⟩, .int .i64 0, .int .i64 0, .bool false] 36 (0, 0))) := hb2.blk HX.out (by decide)
  have hbx : w.heap.size < w2.heap.size := blk_lt HX2.out
  have hbn : ¬ w.heap.size = w2.heap.size := by omega
  have x0 := blk_cell (k := 0) HX2.out rfl
  have x1 := blk_cell (k := 1) HX2.out rfl
  have x2 := blk_cell (k := 2) HX2.out rfl
  have x3 := blk_cell (k := 3) HX2.out rfl
  have x4 := blk_cell (k := 4) HX2.out rfl
  clear HR HG HX hb2 g1 hB1
  obtain ⟨l2, hl2⟩ : ∃ l2, l2 = l ++ ls ⟨#[101, 109, 112, 116, 121]⟩ := ⟨_, rfl⟩
  have hn2 : l2.length ≤ 1000000010 := by rw [hl2, List.length_append, ls_len]; show _ + 5 ≤ _; omega
  rw [← hl2] at hr2
  obtain ⟨p2, cap2, rfl, hc3, hc4⟩ := hr2.shape
  have HR2 : Hid (Br B w2 (.slice p2 l2.length cap2) l2) := hr2
  have HL2 : Hid (l2 = l ++ ls ⟨#[101, 109, 112, 116, 121]⟩) := hl2
  clear hr2 hl2
  have HRz : Hid (Br B w2 (.slice p2 l2.length cap2) l2) := HR2
  have HGz : Hid (Bk B w w2) := HG2.out.2
  clear HR2 HG2
  obtain ⟨pn, hpn⟩ : ∃ pn, pn = p2 := ⟨_, rfl⟩
  obtain ⟨capn, hcn⟩ : ∃ capn, capn = cap2 := ⟨_, rfl⟩
  subst hpn hcn
  have HRn : Hid (Br B (w2.alloc (.cells #[.int .u8 10] 5)) (.slice pn l2.length capn) l2) := HRz.out.below ((Below.refl _ _).alloc (Nat.le_refl _) _)
  have hBn : B ≤ (w2.alloc (.cells #[.int .u8 10] 5)).heap.size := by rw [World.size_alloc]; omega
  go_wp2_with (at_builtin; refine app_bytes rfl _ _ rfl B (.slice pn l2.length capn) l2 [10] rfl HRn.out w2.heap.size _ _ rfl rfl (heap_new _ _) (by simp only [List.length_cons, List.length_nil]; omega) hBn ?_)
  intro v9 w9 hr9 hb9
  obtain ⟨p9, cap9, rfl, _, _⟩ := hr9.shape
  have HZ : Hid (Br B w9 (.slice p9 (l2 ++ [10]).length cap9) (l2 ++ [10]) ∧ Bk B w w9) := ⟨hr9, (HGz.out.alloc hB _).trans hb9⟩
  clear hr9 hb9 HRn HGz HRz
  generalize (l2 ++ [10]).length = nn at *
  go_wp2_with fail
  go_ret
  refine ⟨_, rfl, ?_, HZ.out.2⟩
  have h9 := HZ.out.1
  rw [HL2.out, show ls ⟨#[101, 109, 112, 116, 121]⟩ = [101, 109, 112, 116, 121] from rfl] at h9
  rw [HO.out]
  simp only [List.append_assoc] at h9 ⊢
  exact h9

set_option maxHeartbeats 2000000 in
set_option maxRecDepth 100000 in
theorem line_end (B : Nat) (v : Value) (l o : List UInt8) (ho : o = l ++ ([101, 110, 100] ++ [10])) (w : World) (hB : B ≤ w.heap.size) (hG : GlB B w) (hr : Br B w v l) (hl : l.length ≤ 1000000000) :
    Calls Tryd.prog 20 #[v, .agg #[.int .u8 7, .string ⟨#[]⟩, .int .i64 0, .int .i64 0, .bool false]] w fun e w' => ∃ v', e = .returned v' ∧ Br B w' v' o ∧ Bk B w w' := by
  have HO : Hid (o = l ++ ([101, 110, 100] ++ [10])) := ho
  clear ho
  have g1 := hG.here.words 7 (by omega)
  simp only [wordL, List.getD_cons_succ, List.getD_cons_zero] at g1
  have g0 : 0 < w.heap.size := World.block_lt_of_cell? w _ g1
  obtain ⟨p, cap, rfl, hc1, hc2⟩ := hr.shape
  obtain ⟨W, eW⟩ : ∃ W, W = w.alloc (.cells #[.int .u8 7, .string ⟨#[]⟩, .int .i64 0, .int .i64 0, .bool false] 36) := ⟨_, rfl⟩
  have hb1 : Below w.heap.size w W := by rw [eW]; exact (Below.refl _ _).alloc (Nat.le_refl _) _
  have HR : Hid (Br B W (.slice p l.length cap) l) := hr.below hb1
  have hB1 : B ≤ W.heap.size := Nat.le_trans hB hb1.size
  have HG : Hid (GlB B W ∧ Bk B w W) := ⟨hG.on (hb1.mono hB), Bk.of_below hb1 hB⟩
  have HX : Hid (W.heap[w.heap.size]? = some (.cells #[.int .u8 7, .string ⟨#[]⟩, .int .i64 0, .int .i64 0, .bool false] 36 (0, 0))) := by rw [eW]; exact heap_alloc_new _ _
  rw [eW] at HR hB1 HG HX
  clear hr hG hb1 eW
  go_enter Tryd.func20, Tryd.ntmps20
  go_wp2_with (at_builtin; refine app_str rfl _ _ rfl B (.slice p l.length cap) l ⟨#[101, 110, 100]⟩ rfl HR.out rfl (by show l.length + 3 ≤ _; omega) hB1 ?_)
  intro v2 w2 hr2 hb2
  have hB2 : B ≤ w2.heap.size := Nat.le_trans hB1 hb2.bel.size
  have HG2 : Hid (GlB B w2 ∧ Bk B w w2) := ⟨HG.out.1.on hb2.bel, HG.out.2.trans hb2⟩
  have HX2 : Hid (w2.heap[w.heap.size]? = some (.cells #[.int .u8 7, .string ⟨#[]⟩, .int .i64 0, .int .i64 0, .bool false] 36 (0, 0))) := hb2.blk HX.out (by decide)
  have hbx : w.heap.size < w2.heap.size := blk_lt HX2.out
  have hbn : ¬ w.heap.size = w2.heap.size := by omega
  have x0 := blk_cell (k := 0) HX2.out rfl
  have x1 := blk_cell (k := 1) HX2.out rfl
  have x2 := blk_cell (k := 2) HX2.out rfl
  have x3 := blk_cell (k := 3) HX2.out rfl
  have x4 := blk_cell (k := 4) HX2.out rfl
  clear HR HG HX hb2 g1 hB1
  obtain ⟨l2, hl2⟩ : ∃ l2, l2 = l ++ ls ⟨#[101, 110, 100]⟩ := ⟨_, rfl⟩
  have hn2 : l2.length ≤ 1000000010 := by rw [hl2, List.length_append, ls_len]; show _ + 3 ≤ _; omega
  rw [← hl2] at hr2
  obtain ⟨p2, cap2, rfl, hc3, hc4⟩ := hr2.shape
  have HR2 : Hid (Br B w2 (.slice p2 l2.length cap2) l2) := hr2
  have HL2 : Hid (l2 = l ++ ls ⟨#[101, 110, 100]⟩) := hl2
  clear hr2 hl2
  have HRz : Hid (Br B w2 (.slice p2 l2.length cap2) l2) := HR2
  have HGz : Hid (Bk B w w2) := HG2.out.2
  clear HR2 HG2
  obtain ⟨pn, hpn⟩ : ∃ pn, pn = p2 := ⟨_, rfl⟩
  obtain ⟨capn, hcn⟩ : ∃ capn, capn = cap2 := ⟨_, rfl⟩
  subst hpn hcn
  have HRn : Hid (Br B (w2.alloc (.cells #[.int .u8 10] 5)) (.slice pn l2.length capn) l2) := HRz.out.below ((Below.refl _ _).alloc (Nat.le_refl _) _)
  have hBn : B ≤ (w2.alloc (.cells #[.int .u8 10] 5)).heap.size := by rw [World.size_alloc]; omega
  go_wp2_with (at_builtin; refine app_bytes rfl _ _ rfl B (.slice pn l2.length capn) l2 [10] rfl HRn.out w2.heap.size _ _ rfl rfl (heap_new _ _) (by simp only [List.length_cons, List.length_nil]; omega) hBn ?_)
  intro v9 w9 hr9 hb9
  obtain ⟨p9, cap9, rfl, _, _⟩ := hr9.shape
  have HZ : Hid (Br B w9 (.slice p9 (l2 ++ [10]).length cap9) (l2 ++ [10]) ∧ Bk B w w9) := ⟨hr9, (HGz.out.alloc hB _).trans hb9⟩
  clear hr9 hb9 HRn HGz HRz
  generalize (l2 ++ [10]).length = nn at *
  go_wp2_with fail
  go_ret
  refine ⟨_, rfl, ?_, HZ.out.2⟩
  have h9 := HZ.out.1
  rw [HL2.out, show ls ⟨#[101, 110, 100]⟩ = [101, 110, 100] from rfl] at h9
  rw [HO.out]
  simp only [List.append_assoc] at h9 ⊢
  exact h9

set_option maxHeartbeats 2000000 in
set_option maxRecDepth 100000 in
theorem line_text (B : Nat) (v : Value) (l o : List UInt8) (t : ByteArray) (ht : rtT t = true) (ho : o = l ++ ([116, 101, 120, 116] ++ ([32] ++ (esc (ls t) ++ [10])))) (w : World) (hB : B ≤ w.heap.size) (hG : GlB B w) (hr : Br B w v l) (hl : l.length ≤ 1000000000) :
    Calls Tryd.prog 20 #[v, .agg #[.int .u8 1, .string t, .int .i64 0, .int .i64 0, .bool false]] w fun e w' => ∃ v', e = .returned v' ∧ Br B w' v' o ∧ Bk B w w' := by
  have hts := rtT_len ht
  have HO : Hid (o = l ++ ([116, 101, 120, 116] ++ ([32] ++ (esc (ls t) ++ [10])))) := ho
  clear ho
  have g1 := hG.here.words 1 (by omega)
  simp only [wordL, List.getD_cons_succ, List.getD_cons_zero] at g1
  have g0 : 0 < w.heap.size := World.block_lt_of_cell? w _ g1
  obtain ⟨p, cap, rfl, hc1, hc2⟩ := hr.shape
  obtain ⟨W, eW⟩ : ∃ W, W = w.alloc (.cells #[.int .u8 1, .string t, .int .i64 0, .int .i64 0, .bool false] 36) := ⟨_, rfl⟩
  have hb1 : Below w.heap.size w W := by rw [eW]; exact (Below.refl _ _).alloc (Nat.le_refl _) _
  have HR : Hid (Br B W (.slice p l.length cap) l) := hr.below hb1
  have hB1 : B ≤ W.heap.size := Nat.le_trans hB hb1.size
  have HG : Hid (GlB B W ∧ Bk B w W) := ⟨hG.on (hb1.mono hB), Bk.of_below hb1 hB⟩
  have HX : Hid (W.heap[w.heap.size]? = some (.cells #[.int .u8 1, .string t, .int .i64 0, .int .i64 0, .bool false] 36 (0, 0))) := by rw [eW]; exact heap_alloc_new _ _
  rw [eW] at HR hB1 HG HX
  clear hr hG hb1 eW
  go_enter Tryd.func20, Tryd.ntmps20
  go_wp2_with (at_builtin; refine app_str rfl _ _ rfl B (.slice p l.length cap) l ⟨#[116, 101, 120, 116]⟩ rfl HR.out rfl (by show l.length + 4 ≤ _; omega) hB1 ?_)
  intro v2 w2 hr2 hb2
  have hB2 : B ≤ w2.heap.size := Nat.le_trans hB1 hb2.bel.size
  have HG2 : Hid (GlB B w2 ∧ Bk B w w2) := ⟨HG.out.1.on hb2.bel, HG.out.2.trans hb2⟩
  have HX2 : Hid (w2.heap[w.heap.size]? = some (.cells #[.int .u8 1, .string t, .int .i64 0, .int .i64 0, .bool false] 36 (0, 0))) := hb2.blk HX.out (by decide)
  have hbx : w.heap.size < w2.heap.size := blk_lt HX2.out
  have hbn : ¬ w.heap.size = w2.heap.size := by omega
  have x0 := blk_cell (k := 0) HX2.out rfl
  have x1 := blk_cell (k := 1) HX2.out rfl
  have x2 := blk_cell (k := 2) HX2.out rfl
  have x3 := blk_cell (k := 3) HX2.out rfl
  have x4 := blk_cell (k := 4) HX2.out rfl
  clear HR HG HX hb2 g1 hB1
  obtain ⟨l2, hl2⟩ : ∃ l2, l2 = l ++ ls ⟨#[116, 101, 120, 116]⟩ := ⟨_, rfl⟩
  have hn2 : l2.length ≤ 1000000010 := by rw [hl2, List.length_append, ls_len]; show _ + 4 ≤ _; omega
  rw [← hl2] at hr2
  obtain ⟨p2, cap2, rfl, hc3, hc4⟩ := hr2.shape
  have HR2 : Hid (Br B w2 (.slice p2 l2.length cap2) l2) := hr2
  have HL2 : Hid (l2 = l ++ ls ⟨#[116, 101, 120, 116]⟩) := hl2
  clear hr2 hl2
  obtain ⟨l4, hl4⟩ : ∃ l4, l4 = l2 ++ [32] ++ esc (ls t) := ⟨_, rfl⟩
  have hn4 : l4.length ≤ 1000300000 := by rw [hl4]; have h1 := (esc_len (ls t)).2; rw [ls_len] at h1; simp only [List.length_append, List.length_cons, List.length_nil]; omega
  have HL4 : Hid (l4 = l2 ++ [32] ++ esc (ls t)) := hl4
  clear hl4
  go_wp2_with fail
  go_region_law (first | (refine step_bytes rfl _ _ rfl B (.slice p2 l2.length cap2) l2 [32] rfl (HR2.out.below (by first | exact ((Below.refl _ _).alloc (Nat.le_refl _) _) | exact ((Below.refl _ _).alloc (Nat.le_refl _) _).drew | exact (Below.refl _ _).drew.alloc (Nat.le_refl _) _)) w2.heap.size _ _ rfl rfl (by simp) (heap_new _ _) (by simp only [List.length_cons, List.length_nil]; omega) (by show B ≤ (World.alloc w2 _).heap.size; rw [World.size_alloc]; omega) ?_; intro g3 cap3 w3 hr3 hb3; have H3 : Hid (Br B w3 (.slice (some ⟨g3, 0, none⟩) (l2.length + 1) cap3) (l2 ++ [32]) ∧ Bk B w2 w3) := ⟨hr3, (Bk.of_below (by first | exact ((Below.refl _ _).alloc (Nat.le_refl _) _) | exact ((Below.refl _ _).alloc (Nat.le_refl _) _).drew | exact (Below.refl _ _).drew.alloc (Nat.le_refl _) _) hB2).trans hb3⟩; have s3 : w3.cell? ⟨w.heap.size, 1, none⟩ = some (.string t) := blk_cell (H3.out.2.blk HX2.out (by decide)) rfl; clear hr3 hb3) | (go_simp; go_at_call 28; refine (esc_any B _ _ t _ (Nat.le_trans hB2 H3.out.2.bel.size) (HG2.out.1.on H3.out.2.bel) H3.out.1 (by rw [List.length_append, List.length_singleton]; omega)).mono ?_; rintro e w4 ⟨v4, rfl, hr4, hb4⟩; rw [← HL4.out] at hr4; obtain ⟨p4, cap4, rfl, _, _⟩ := hr4.shape; have H4 : Hid (Br B w4 (.slice p4 l4.length cap4) l4 ∧ Bk B w2 w4) := ⟨hr4, H3.out.2.trans hb4⟩; clear hr4 hb4))
  all_goals
    have hB4 : B ≤ w4.heap.size := Nat.le_trans hB2 H4.out.2.bel.size
    have HX4 : Hid (w4.heap[w.heap.size]? = some (.cells #[.int .u8 1, .string t, .int .i64 0, .int .i64 0, .bool false] 36 (0, 0))) := H4.out.2.blk HX2.out (by decide)
    have y4 := blk_cell (k := 4) HX4.out rfl
    clear x0 x1 x2 x3 x4 s3
    have HRn : Hid (Br B (w4.alloc (.cells #[.int .u8 10] 5)) (.slice p4 l4.length cap4) l4) := H4.out.1.below ((Below.refl _ _).alloc (Nat.le_refl _) _)
    have hBn : B ≤ (w4.alloc (.cells #[.int .u8 10] 5)).heap.size := by rw [World.size_alloc]; omega
    go_wp2_with (at_builtin; refine app_bytes rfl _ _ rfl B (.slice p4 l4.length cap4) l4 [10] rfl HRn.out w4.heap.size _ _ rfl rfl (heap_new _ _) (by simp only [List.length_cons, List.length_nil]; omega) hBn ?_)
    intro v9 w9 hr9 hb9
    obtain ⟨p9, cap9, rfl, _, _⟩ := hr9.shape
    have HZ : Hid (Br B w9 (.slice p9 (l4 ++ [10]).length cap9) (l4 ++ [10]) ∧ Bk B w w9) := ⟨hr9, ((HG2.out.2.trans H4.out.2).alloc hB _).trans hb9⟩
    clear hr9 hb9 HRn
    generalize (l4 ++ [10]).length = nn at *
    go_wp2_with fail
    go_ret
    refine ⟨_, rfl, ?_, HZ.out.2⟩
    have h9 := HZ.out.1
    rw [HL4.out, HL2.out, show ls ⟨#[116, 101, 120, 116]⟩ = [116, 101, 120, 116] from rfl] at h9
    rw [HO.out]
    simp only [List.append_assoc] at h9 ⊢
    exact h9

set_option maxHeartbeats 2000000 in
set_option maxRecDepth 100000 in
theorem line_brk (B : Nat) (v : Value) (l o : List UInt8) (n : Int) (hn : rtN n = true) (ho : o = l ++ ([98, 114, 101, 97, 107] ++ ([32] ++ (itoa n ++ [10])))) (w : World) (hB : B ≤ w.heap.size) (hG : GlB B w) (hr : Br B w v l) (hl : l.length ≤ 1000000000) :
    Calls Tryd.prog 20 #[v, .agg #[.int .u8 3, .string ⟨#[]⟩, .int .i64 n, .int .i64 0, .bool false]] w fun e w' => ∃ v', e = .returned v' ∧ Br B w' v' o ∧ Bk B w w' := by
  have HO : Hid (o = l ++ ([98, 114, 101, 97, 107] ++ ([32] ++ (itoa n ++ [10])))) := ho
  clear ho
  have g1 := hG.here.words 3 (by omega)
  simp only [wordL, List.getD_cons_succ, List.getD_cons_zero] at g1
  have g0 : 0 < w.heap.size := World.block_lt_of_cell? w _ g1
  obtain ⟨p, cap, rfl, hc1, hc2⟩ := hr.shape
  obtain ⟨W, eW⟩ : ∃ W, W = w.alloc (.cells #[.int .u8 3, .string ⟨#[]⟩, .int .i64 n, .int .i64 0, .bool false] 36) := ⟨_, rfl⟩
  have hb1 : Below w.heap.size w W := by rw [eW]; exact (Below.refl _ _).alloc (Nat.le_refl _) _
  have HR : Hid (Br B W (.slice p l.length cap) l) := hr.below hb1
  have hB1 : B ≤ W.heap.size := Nat.le_trans hB hb1.size
  have HG : Hid (GlB B W ∧ Bk B w W) := ⟨hG.on (hb1.mono hB), Bk.of_below hb1 hB⟩
  have HX : Hid (W.heap[w.heap.size]? = some (.cells #[.int .u8 3, .string ⟨#[]⟩, .int .i64 n, .int .i64 0, .bool false] 36 (0, 0))) := by rw [eW]; exact heap_alloc_new _ _
  rw [eW] at HR hB1 HG HX
  clear hr hG hb1 eW
  go_enter Tryd.func20, Tryd.ntmps20
  go_wp2_with (at_builtin; refine app_str rfl _ _ rfl B (.slice p l.length cap) l ⟨#[98, 114, 101, 97, 107]⟩ rfl HR.out rfl (by show l.length + 5 ≤ _; omega) hB1 ?_)
  intro v2 w2 hr2 hb2
  have hB2 : B ≤ w2.heap.size := Nat.le_trans hB1 hb2.bel.size
  have HG2 : Hid (GlB B w2 ∧ Bk B w w2) := ⟨HG.out.1.on hb2.bel, HG.out.2.trans hb2⟩
  have HX2 : Hid (w2.heap[w.heap.size]? = some (.cells #[.int .u8 3, .string ⟨#[]⟩, .int .i64 n, .int .i64 0, .bool false] 36 (0, 0))) := hb2.blk HX.out (by decide)
  have hbx : w.heap.size < w2.heap.size := blk_lt HX2.out
  have hbn : ¬ w.heap.size = w2.heap.size := by omega
  have x0 := blk_cell (k := 0) HX2.out rfl
  have x1 := blk_cell (k := 1) HX2.out rfl
  have x2 := blk_cell (k := 2) HX2.out rfl
  have x3 := blk_cell (k := 3) HX2.out rfl
  have x4 := blk_cell (k := 4) HX2.out rfl
  clear HR HG HX hb2 g1 hB1
  obtain ⟨l2, hl2⟩ : ∃ l2, l2 = l ++ ls ⟨#[98, 114, 101, 97, 107]⟩ := ⟨_, rfl⟩
  have hn2 : l2.length ≤ 1000000010 := by rw [hl2, List.length_append, ls_len]; show _ + 5 ≤ _; omega
  rw [← hl2] at hr2
  obtain ⟨p2, cap2, rfl, hc3, hc4⟩ := hr2.shape
  have HR2 : Hid (Br B w2 (.slice p2 l2.length cap2) l2) := hr2
  have HL2 : Hid (l2 = l ++ ls ⟨#[98, 114, 101, 97, 107]⟩) := hl2
  clear hr2 hl2
  obtain ⟨l4, hl4⟩ : ∃ l4, l4 = l2 ++ [32] ++ itoa n := ⟨_, rfl⟩
  have hn4 : l4.length ≤ 1000300000 := by rw [hl4]; obtain ⟨z0, z1⟩ := rtN_of hn; have h1 := (itoa_len z0 z1).2; simp only [List.length_append, List.length_cons, List.length_nil]; omega
  have HL4 : Hid (l4 = l2 ++ [32] ++ itoa n) := hl4
  clear hl4
  go_wp2_with fail
  go_region_law (first | (refine step_bytes rfl _ _ rfl B (.slice p2 l2.length cap2) l2 [32] rfl (HR2.out.below (by first | exact ((Below.refl _ _).alloc (Nat.le_refl _) _) | exact ((Below.refl _ _).alloc (Nat.le_refl _) _).drew | exact (Below.refl _ _).drew.alloc (Nat.le_refl _) _)) w2.heap.size _ _ rfl rfl (by simp) (heap_new _ _) (by simp only [List.length_cons, List.length_nil]; omega) (by show B ≤ (World.alloc w2 _).heap.size; rw [World.size_alloc]; omega) ?_; intro g3 cap3 w3 hr3 hb3; have H3 : Hid (Br B w3 (.slice (some ⟨g3, 0, none⟩) (l2.length + 1) cap3) (l2 ++ [32]) ∧ Bk B w2 w3) := ⟨hr3, (Bk.of_below (by first | exact ((Below.refl _ _).alloc (Nat.le_refl _) _) | exact ((Below.refl _ _).alloc (Nat.le_refl _) _).drew | exact (Below.refl _ _).drew.alloc (Nat.le_refl _) _) hB2).trans hb3⟩; have s3 : w3.cell? ⟨w.heap.size, 2, none⟩ = some (.int .i64 n) := blk_cell (H3.out.2.blk HX2.out (by decide)) rfl; clear hr3 hb3) | (go_simp; go_at_call 29; refine (num_any B _ _ n hn _ (Nat.le_trans hB2 H3.out.2.bel.size) (HG2.out.1.on H3.out.2.bel) H3.out.1 (by rw [List.length_append, List.length_singleton]; omega)).mono ?_; rintro e w4 ⟨v4, rfl, hr4, hb4⟩; rw [← HL4.out] at hr4; obtain ⟨p4, cap4, rfl, _, _⟩ := hr4.shape; have H4 : Hid (Br B w4 (.slice p4 l4.length cap4) l4 ∧ Bk B w2 w4) := ⟨hr4, H3.out.2.trans hb4⟩; clear hr4 hb4))
  all_goals
    have hB4 : B ≤ w4.heap.size := Nat.le_trans hB2 H4.out.2.bel.size
    have HX4 : Hid (w4.heap[w.heap.size]? = some (.cells #[.int .u8 3, .string ⟨#[]⟩, .int .i64 n, .int .i64 0, .bool false] 36 (0, 0))) := H4.out.2.blk HX2.out (by decide)
    have y4 := blk_cell (k := 4) HX4.out rfl
    clear x0 x1 x2 x3 x4 s3
    have HRn : Hid (Br B (w4.alloc (.cells #[.int .u8 10] 5)) (.slice p4 l4.length cap4) l4) := H4.out.1.below ((Below.refl _ _).alloc (Nat.le_refl _) _)
    have hBn : B ≤ (w4.alloc (.cells #[.int .u8 10] 5)).heap.size := by rw [World.size_alloc]; omega
    go_wp2_with (at_builtin; refine app_bytes rfl _ _ rfl B (.slice p4 l4.length cap4) l4 [10] rfl HRn.out w4.heap.size _ _ rfl rfl (heap_new _ _) (by simp only [List.length_cons, List.length_nil]; omega) hBn ?_)
    intro v9 w9 hr9 hb9
    obtain ⟨p9, cap9, rfl, _, _⟩ := hr9.shape
    have HZ : Hid (Br B w9 (.slice p9 (l4 ++ [10]).length cap9) (l4 ++ [10]) ∧ Bk B w w9) := ⟨hr9, ((HG2.out.2.trans H4.out.2).alloc hB _).trans hb9⟩
    clear hr9 hb9 HRn
    generalize (l4 ++ [10]).length = nn at *
    go_wp2_with fail
    go_ret
    refine ⟨_, rfl, ?_, HZ.out.2⟩
    have h9 := HZ.out.1
    rw [HL4.out, HL2.out, show ls ⟨#[98, 114, 101, 97, 107]⟩ = [98, 114, 101, 97, 107] from rfl] at h9
    rw [HO.out]
    simp only [List.append_assoc] at h9 ⊢
    exact h9

set_option maxHeartbeats 2000000 in
set_option maxRecDepth 100000 in
theorem line_beg (B : Nat) (v : Value) (l o : List UInt8) (n : Int) (hn : rtN n = true) (ho : o = l ++ ([98, 101, 103, 105, 110] ++ ([32] ++ (itoa n ++ [10])))) (w : World) (hB : B ≤ w.heap.size) (hG : GlB B w) (hr : Br B w v l) (hl : l.length ≤ 1000000000) :
    Calls Tryd.prog 20 #[v, .agg #[.int .u8 6, .string ⟨#[]⟩, .int .i64 0, .int .i64 n, .bool false]] w fun e w' => ∃ v', e = .returned v' ∧ Br B w' v' o ∧ Bk B w w' := by
  have HO : Hid (o = l ++ ([98, 101, 103, 105, 110] ++ ([32] ++ (itoa n ++ [10])))) := ho
  clear ho
  have g1 := hG.here.words 6 (by omega)
  simp only [wordL, List.getD_cons_succ, List.getD_cons_zero] at g1
  have g0 : 0 < w.heap.size := World.block_lt_of_cell? w _ g1
  obtain ⟨p, cap, rfl, hc1, hc2⟩ := hr.shape
  obtain ⟨W, eW⟩ : ∃ W, W = w.alloc (.cells #[.int .u8 6, .string ⟨#[]⟩, .int .i64 0, .int .i64 n, .bool false] 36) := ⟨_, rfl⟩
  have hb1 : Below w.heap.size w W := by rw [eW]; exact (Below.refl _ _).alloc (Nat.le_refl _) _
  have HR : Hid (Br B W (.slice p l.length cap) l) := hr.below hb1
  have hB1 : B ≤ W.heap.size := Nat.le_trans hB hb1.size
  have HG : Hid (GlB B W ∧ Bk B w W) := ⟨hG.on (hb1.mono hB), Bk.of_below hb1 hB⟩
  have HX : Hid (W.heap[w.heap.size]? = some (.cells #[.int .u8 6, .string ⟨#[]⟩, .int .i64 0, .int .i64 n, .bool false] 36 (0, 0))) := by rw [eW]; exact heap_alloc_new _ _
  rw [eW] at HR hB1 HG HX
  clear hr hG hb1 eW
  go_enter Tryd.func20, Tryd.ntmps20
  go_wp2_with (at_builtin; refine app_str rfl _ _ rfl B (.slice p l.length cap) l ⟨#[98, 101, 103, 105, 110]⟩ rfl HR.out rfl (by show l.length + 5 ≤ _; omega) hB1 ?_)
  intro v2 w2 hr2 hb2
  have hB2 : B ≤ w2.heap.size := Nat.le_trans hB1 hb2.bel.size
  have HG2 : Hid (GlB B w2 ∧ Bk B w w2) := ⟨HG.out.1.on hb2.bel, HG.out.2.trans hb2⟩
  have HX2 : Hid (w2.heap[w.heap.size]? = some (.cells #[.int .u8 6, .string ⟨#[]⟩, .int .i64 0, .int .i64 n, .bool false] 36 (0, 0))) := hb2.blk HX.out (by decide)
  have hbx : w.heap.size < w2.heap.size := blk_lt HX2.out
  have hbn : ¬ w.heap.size = w2.heap.size := by omega
  have x0 := blk_cell (k := 0) HX2.out rfl
  have x1 := blk_cell (k := 1) HX2.out rfl
  have x2 := blk_cell (k := 2) HX2.out rfl
  have x3 := blk_cell (k := 3) HX2.out rfl
  have x4 := blk_cell (k := 4) HX2.out rfl
  clear HR HG HX hb2 g1 hB1
  obtain ⟨l2, hl2⟩ : ∃ l2, l2 = l ++ ls ⟨#[98, 101, 103, 105, 110]⟩ := ⟨_, rfl⟩
  have hn2 : l2.length ≤ 1000000010 := by rw [hl2, List.length_append, ls_len]; show _ + 5 ≤ _; omega
  rw [← hl2] at hr2
  obtain ⟨p2, cap2, rfl, hc3, hc4⟩ := hr2.shape
  have HR2 : Hid (Br B w2 (.slice p2 l2.length cap2) l2) := hr2
  have HL2 : Hid (l2 = l ++ ls ⟨#[98, 101, 103, 105, 110]⟩) := hl2
  clear hr2 hl2
  obtain ⟨l4, hl4⟩ : ∃ l4, l4 = l2 ++ [32] ++ itoa n := ⟨_, rfl⟩
  have hn4 : l4.length ≤ 1000300000 := by rw [hl4]; obtain ⟨z0, z1⟩ := rtN_of hn; have h1 := (itoa_len z0 z1).2; simp only [List.length_append, List.length_cons, List.length_nil]; omega
  have HL4 : Hid (l4 = l2 ++ [32] ++ itoa n) := hl4
  clear hl4
  go_wp2_with fail
  go_region_law (first | (refine step_bytes rfl _ _ rfl B (.slice p2 l2.length cap2) l2 [32] rfl (HR2.out.below (by first | exact ((Below.refl _ _).alloc (Nat.le_refl _) _) | exact ((Below.refl _ _).alloc (Nat.le_refl _) _).drew | exact (Below.refl _ _).drew.alloc (Nat.le_refl _) _)) w2.heap.size _ _ rfl rfl (by simp) (heap_new _ _) (by simp only [List.length_cons, List.length_nil]; omega) (by show B ≤ (World.alloc w2 _).heap.size; rw [World.size_alloc]; omega) ?_; intro g3 cap3 w3 hr3 hb3; have H3 : Hid (Br B w3 (.slice (some ⟨g3, 0, none⟩) (l2.length + 1) cap3) (l2 ++ [32]) ∧ Bk B w2 w3) := ⟨hr3, (Bk.of_below (by first | exact ((Below.refl _ _).alloc (Nat.le_refl _) _) | exact ((Below.refl _ _).alloc (Nat.le_refl _) _).drew | exact (Below.refl _ _).drew.alloc (Nat.le_refl _) _) hB2).trans hb3⟩; have s3 : w3.cell? ⟨w.heap.size, 3, none⟩ = some (.int .i64 n) := blk_cell (H3.out.2.blk HX2.out (by decide)) rfl; clear hr3 hb3) | (go_simp; go_at_call 29; refine (num_any B _ _ n hn _ (Nat.le_trans hB2 H3.out.2.bel.size) (HG2.out.1.on H3.out.2.bel) H3.out.1 (by rw [List.length_append, List.length_singleton]; omega)).mono ?_; rintro e w4 ⟨v4, rfl, hr4, hb4⟩; rw [← HL4.out] at hr4; obtain ⟨p4, cap4, rfl, _, _⟩ := hr4.shape; have H4 : Hid (Br B w4 (.slice p4 l4.length cap4) l4 ∧ Bk B w2 w4) := ⟨hr4, H3.out.2.trans hb4⟩; clear hr4 hb4))
  all_goals
    have hB4 : B ≤ w4.heap.size := Nat.le_trans hB2 H4.out.2.bel.size
    have HX4 : Hid (w4.heap[w.heap.size]? = some (.cells #[.int .u8 6, .string ⟨#[]⟩, .int .i64 0, .int .i64 n, .bool false] 36 (0, 0))) := H4.out.2.blk HX2.out (by decide)
    have y4 := blk_cell (k := 4) HX4.out rfl
    clear x0 x1 x2 x3 x4 s3
    have HRn : Hid (Br B (w4.alloc (.cells #[.int .u8 10] 5)) (.slice p4 l4.length cap4) l4) := H4.out.1.below ((Below.refl _ _).alloc (Nat.le_refl _) _)
    have hBn : B ≤ (w4.alloc (.cells #[.int .u8 10] 5)).heap.size := by rw [World.size_alloc]; omega
    go_wp2_with (at_builtin; refine app_bytes rfl _ _ rfl B (.slice p4 l4.length cap4) l4 [10] rfl HRn.out w4.heap.size _ _ rfl rfl (heap_new _ _) (by simp only [List.length_cons, List.length_nil]; omega) hBn ?_)
    intro v9 w9 hr9 hb9
    obtain ⟨p9, cap9, rfl, _, _⟩ := hr9.shape
    have HZ : Hid (Br B w9 (.slice p9 (l4 ++ [10]).length cap9) (l4 ++ [10]) ∧ Bk B w w9) := ⟨hr9, ((HG2.out.2.trans H4.out.2).alloc hB _).trans hb9⟩
    clear hr9 hb9 HRn
    generalize (l4 ++ [10]).length = nn at *
    go_wp2_with fail
    go_ret
    refine ⟨_, rfl, ?_, HZ.out.2⟩
    have h9 := HZ.out.1
    rw [HL4.out, HL2.out, show ls ⟨#[98, 101, 103, 105, 110]⟩ = [98, 101, 103, 105, 110] from rfl] at h9
    rw [HO.out]
    simp only [List.append_assoc] at h9 ⊢
    exact h9

set_option maxHeartbeats 2000000 in
set_option maxRecDepth 100000 in
theorem line_begE (B : Nat) (v : Value) (l o : List UInt8) (n : Int) (hn : rtN n = true) (ho : o = l ++ ([98, 101, 103, 105, 110] ++ ([32] ++ (itoa n ++ (even5 ++ [10]))))) (w : World) (hB : B ≤ w.heap.size) (hG : GlB B w) (hr : Br B w v l) (hl : l.length ≤ 1000000000) :
    Calls Tryd.prog 20 #[v, .agg #[.int .u8 6, .string ⟨#[]⟩, .int .i64 0, .int .i64 n, .bool true]] w fun e w' => ∃ v', e = .returned v' ∧ Br B w' v' o ∧ Bk B w w' := by
  have HO : Hid (o = l ++ ([98, 101, 103, 105, 110] ++ ([32] ++ (itoa n ++ (even5 ++ [10]))))) := ho
  clear ho
  have g1 := hG.here.words 6 (by omega)
  simp only [wordL, List.getD_cons_succ, List.getD_cons_zero] at g1
  have g0 : 0 < w.heap.size := World.block_lt_of_cell? w _ g1
  obtain ⟨p, cap, rfl, hc1, hc2⟩ := hr.shape
  obtain ⟨W, eW⟩ : ∃ W, W = w.alloc (.cells #[.int .u8 6, .string ⟨#[]⟩, .int .i64 0, .int .i64 n, .bool true] 36) := ⟨_, rfl⟩
  have hb1 : Below w.heap.size w W := by rw [eW]; exact (Below.refl _ _).alloc (Nat.le_refl _) _
  have HR : Hid (Br B W (.slice p l.length cap) l) := hr.below hb1
  have hB1 : B ≤ W.heap.size := Nat.le_trans hB hb1.size
  have HG : Hid (GlB B W ∧ Bk B w W) := ⟨hG.on (hb1.mono hB), Bk.of_below hb1 hB⟩
  have HX : Hid (W.heap[w.heap.size]? = some (.cells #[.int .u8 6, .string ⟨#[]⟩, .int .i64 0, .int .i64 n, .bool true] 36 (0, 0))) := by rw [eW]; exact heap_alloc_new _ _
  rw [eW] at HR hB1 HG HX
  clear hr hG hb1 eW
  go_enter Tryd.func20, Tryd.ntmps20
  go_wp2_with (at_builtin; refine app_str rfl _ _ rfl B (.slice p l.length cap) l ⟨#[98, 101, 103, 105, 110]⟩ rfl HR.out rfl (by show l.length + 5 ≤ _; omega) hB1 ?_)
  intro v2 w2 hr2 hb2
  have hB2 : B ≤ w2.heap.size := Nat.le_trans hB1 hb2.bel.size
  have HG2 : Hid (GlB B w2 ∧ Bk B w w2) := ⟨HG.out.1.on hb2.bel, HG.out.2.trans hb2⟩
  have HX2 : Hid (w2.heap[w.heap.size]? = some (.cells #[.int .u8 6, .string ⟨#[]⟩, .int .i64 0, .int .i64 n, .bool true] 36 (0, 0))) := hb2.blk HX.out (by decide)
  have hbx : w.heap.size < w2.heap.size := blk_lt HX2.out
  have hbn : ¬ w.heap.size = w2.heap.size := by omega
  have x0 := blk_cell (k := 0) HX2.out rfl
  have x1 := blk_cell (k := 1) HX2.out rfl
  have x2 := blk_cell (k := 2) HX2.out rfl
  have x3 := blk_cell (k := 3) HX2.out rfl
  have x4 := blk_cell (k := 4) HX2.out rfl
  clear HR HG HX hb2 g1 hB1
  obtain ⟨l2, hl2⟩ : ∃ l2, l2 = l ++ ls ⟨#[98, 101, 103, 105, 110]⟩ := ⟨_, rfl⟩
  have hn2 : l2.length ≤ 1000000010 := by rw [hl2, List.length_append, ls_len]; show _ + 5 ≤ _; omega
  rw [← hl2] at hr2
  obtain ⟨p2, cap2, rfl, hc3, hc4⟩ := hr2.shape
  have HR2 : Hid (Br B w2 (.slice p2 l2.length cap2) l2) := hr2
  have HL2 : Hid (l2 = l ++ ls ⟨#[98, 101, 103, 105, 110]⟩) := hl2
  clear hr2 hl2
  obtain ⟨l4, hl4⟩ : ∃ l4, l4 = l2 ++ [32] ++ itoa n := ⟨_, rfl⟩
  have hn4 : l4.length ≤ 1000300000 := by rw [hl4]; obtain ⟨z0, z1⟩ := rtN_of hn; have h1 := (itoa_len z0 z1).2; simp only [List.length_append, List.length_cons, List.length_nil]; omega
  have HL4 : Hid (l4 = l2 ++ [32] ++ itoa n) := hl4
  clear hl4
  go_wp2_with fail
  go_region_law (first | (refine step_bytes rfl _ _ rfl B (.slice p2 l2.length cap2) l2 [32] rfl (HR2.out.below (by first | exact ((Below.refl _ _).alloc (Nat.le_refl _) _) | exact ((Below.refl _ _).alloc (Nat.le_refl _) _).drew | exact (Below.refl _ _).drew.alloc (Nat.le_refl _) _)) w2.heap.size _ _ rfl rfl (by simp) (heap_new _ _) (by simp only [List.length_cons, List.length_nil]; omega) (by show B ≤ (World.alloc w2 _).heap.size; rw [World.size_alloc]; omega) ?_; intro g3 cap3 w3 hr3 hb3; have H3 : Hid (Br B w3 (.slice (some ⟨g3, 0, none⟩) (l2.length + 1) cap3) (l2 ++ [32]) ∧ Bk B w2 w3) := ⟨hr3, (Bk.of_below (by first | exact ((Below.refl _ _).alloc (Nat.le_refl _) _) | exact ((Below.refl _ _).alloc (Nat.le_refl _) _).drew | exact (Below.refl _ _).drew.alloc (Nat.le_refl _) _) hB2).trans hb3⟩; have s3 : w3.cell? ⟨w.heap.size, 3, none⟩ = some (.int .i64 n) := blk_cell (H3.out.2.blk HX2.out (by decide)) rfl; clear hr3 hb3) | (go_simp; go_at_call 29; refine (num_any B _ _ n hn _ (Nat.le_trans hB2 H3.out.2.bel.size) (HG2.out.1.on H3.out.2.bel) H3.out.1 (by rw [List.length_append, List.length_singleton]; omega)).mono ?_; rintro e w4 ⟨v4, rfl, hr4, hb4⟩; rw [← HL4.out] at hr4; obtain ⟨p4, cap4, rfl, _, _⟩ := hr4.shape; have H4 : Hid (Br B w4 (.slice p4 l4.length cap4) l4 ∧ Bk B w2 w4) := ⟨hr4, H3.out.2.trans hb4⟩; clear hr4 hb4))
  all_goals
    have hB4 : B ≤ w4.heap.size := Nat.le_trans hB2 H4.out.2.bel.size
    have HX4 : Hid (w4.heap[w.heap.size]? = some (.cells #[.int .u8 6, .string ⟨#[]⟩, .int .i64 0, .int .i64 n, .bool true] 36 (0, 0))) := H4.out.2.blk HX2.out (by decide)
    have y4 := blk_cell (k := 4) HX4.out rfl
    clear x0 x1 x2 x3 x4 s3
    go_wp2_with (at_builtin; refine app_str rfl _ _ rfl B (.slice p4 l4.length cap4) l4 ⟨#[32, 101, 118, 101, 110]⟩ rfl H4.out.1 rfl (by show l4.length + 5 ≤ _; omega) hB4 ?_)
    intro v6 w6 hr6 hb6
    obtain ⟨l6, hl6⟩ : ∃ l6, l6 = l4 ++ ls ⟨#[32, 101, 118, 101, 110]⟩ := ⟨_, rfl⟩
    have hn6 : l6.length ≤ 1000300010 := by rw [hl6, List.length_append, ls_len]; show _ + 5 ≤ _; omega
    rw [← hl6] at hr6
    obtain ⟨p6, cap6, rfl, _, _⟩ := hr6.shape
    have H6 : Hid (Br B w6 (.slice p6 l6.length cap6) l6 ∧ Bk B w2 w6) := ⟨hr6, H4.out.2.trans hb6⟩
    have HL6 : Hid (l6 = l4 ++ ls ⟨#[32, 101, 118, 101, 110]⟩) := hl6
    have hB6 : B ≤ w6.heap.size := Nat.le_trans hB4 hb6.bel.size
    clear hr6 hb6 hl6
    have HRn : Hid (Br B (w6.alloc (.cells #[.int .u8 10] 5)) (.slice p6 l6.length cap6) l6) := H6.out.1.below ((Below.refl _ _).alloc (Nat.le_refl _) _)
    have hBn : B ≤ (w6.alloc (.cells #[.int .u8 10] 5)).heap.size := by rw [World.size_alloc]; omega
    go_wp2_with (at_builtin; refine app_bytes rfl _ _ rfl B (.slice p6 l6.length cap6) l6 [10] rfl HRn.out w6.heap.size _ _ rfl rfl (heap_new _ _) (by simp only [List.length_cons, List.length_nil]; omega) hBn ?_)
    intro v9 w9 hr9 hb9
    obtain ⟨p9, cap9, rfl, _, _⟩ := hr9.shape
    have HZ : Hid (Br B w9 (.slice p9 (l6 ++ [10]).length cap9) (l6 ++ [10]) ∧ Bk B w w9) := ⟨hr9, ((HG2.out.2.trans H6.out.2).alloc hB _).trans hb9⟩
    clear hr9 hb9 HRn
    generalize (l6 ++ [10]).length = nn at *
    go_wp2_with fail
    go_ret
    refine ⟨_, rfl, ?_, HZ.out.2⟩
    have h9 := HZ.out.1
    rw [HL6.out, HL4.out, HL2.out, show ls ⟨#[98, 101, 103, 105, 110]⟩ = [98, 101, 103, 105, 110] from rfl, show ls ⟨#[32, 101, 118, 101, 110]⟩ = even5 from rfl] at h9
    rw [HO.out]
    simp only [List.append_assoc] at h9 ⊢
    exact h9

theorem line_any (B : Nat) (v : Value) (l : List UInt8) (d : Dc) (hd : rt d = true) (w : World) (hB : B ≤ w.heap.size) (hG : GlB B w) (hr : Br B w v l) (hl : l.length ≤ 1000000000) :
    Calls Tryd.prog 20 #[v, d.v] w fun e w' => ∃ v', e = .returned v' ∧ Br B w' v' (l ++ (lin d ++ [10])) ∧ Bk B w w' := by
  cases rt_of hd with
  | text t h => exact line_text B v l _ t h (by simp [lin]) w hB hG hr hl
  | brk n h => exact line_brk B v l _ n h (by simp [lin]) w hB hG hr hl
  | beg n e h =>
    cases e
    · exact line_beg B v l _ n h (by simp [lin, evn]) w hB hG hr hl
    · exact line_begE B v l _ n h (by simp [lin, evn]) w hB hG hr hl
  | blank => exact line_blank B v l _ (by simp [lin]) w hB hG hr hl
  | hard => exact line_hard B v l _ (by simp [lin]) w hB hG hr hl
  | empty => exact line_empty B v l _ (by simp [lin]) w hB hG hr hl
  | «end» => exact line_end B v l _ (by simp [lin]) w hB hG hr hl
end Go.Proofs.YtlpmnkiieibipaaDoor
