import Derived.Test.YtcokccfbeonlnaaDoorIa
import Derived.Test.YtcokccfbeonlnaaDoorGb1
import Derived.Deep.RegionLaw
import Derived.Deep.AppendLies
import Derived.BigRegion
set_option linter.unusedVariables false
set_option linter.unusedSimpArgs false
namespace Go.Proofs.YtcokccfbeonlnaaDoor
open Go.RowKit

def pkc (c : Int) : Int := if c < 0 then -(c + 1) else c
def pk (c n : Int) : Int := pkc c % n
theorem pk_bd (c : Int) {n : Int} (hn : 0 < n) : 0 ≤ pk c n ∧ pk c n < n := by
  unfold pk
  exact ⟨Int.emod_nonneg _ (by omega), Int.emod_lt_of_pos _ hn⟩
theorem pick_any (c n : Int) (w : World) (h1 : -9223372036854775808 ≤ c) (h2 : c ≤ 9223372036854775807) (hn : 0 < n) (hn2 : n ≤ 1000000) :
    Calls Tryd.prog 15 #[.int .i64 c, .int .i64 n] w fun e w' => e = .returned (.int .i64 (pk c n)) ∧ w' = w := by
  have hb := pk_bd c hn
  have hz : ¬ n = 0 := by omega
  unfold pk pkc at *
  by_cases hc : c < 0
  · rw [if_pos hc] at hb ⊢
    have w1 : IntKind.i64.wrap (c + 1) = c + 1 := by rw [IntKind.wrap_i64]; omega
    have w2 : IntKind.i64.wrap (-(c + 1)) = -(c + 1) := by rw [IntKind.wrap_i64]; omega
    have e : -((c + 1).tmod n) = -(c + 1) % n := by rw [← Int.neg_tmod, Int.tmod_eq_emod_of_nonneg (by omega)]
    have hb2 : 0 ≤ -((c + 1).tmod n) ∧ -((c + 1).tmod n) < n := by rw [e]; exact hb
    go_enter Tryd.func15, Tryd.ntmps15
    go_wp2_with fail
    go_ret
    exact ⟨by rw [← e]; rfl, rfl⟩
  · rw [if_neg hc] at hb ⊢
    go_enter Tryd.func15, Tryd.ntmps15
    go_wp2_with fail
    go_ret
    exact ⟨rfl, rfl⟩

/-- An append of pieces in a region that draws. -/
theorem step_row {W : World} {ops : Array Oper} {o : Oper} {a : Act} {K : Act → World → Prop} {Q : Exit → Act → World → Prop} {E : Prop} (hgd : o.guard = none) (s x : Operand)
    (ho : o.op = .call { callee := .builtin .append, args := #[s, x], argTypes := #[23, 23] }) (B : Nat) (v : Value) (l ds : List Dc) (hs : a.eval s = v) (hr : Rp B W v l)
    (ad : Addr) (m c : Nat) (hx : a.eval x = .slice (some ad) m c) (hm : ds.length = m) (hm0 : 0 < m) (hg : ∀ j u, (dcs ds)[j]? = some u → W.cell? (ad.add j) = some u) (hl : (l.length + m) * 48 ≤ 140737488355328) (hB : B ≤ W.heap.size)
    (h : ∀ q cap w', Rp B w' (.slice (some ⟨q, 0, none⟩) (l.length + m) cap) (l ++ ds) → Below B W w' → K (a.put o.dst (.slice (some ⟨q, 0, none⟩) (l.length + m) cap)) w') :
    if Region.wanted o (yielded ops a.tmps) = true then Oper.wp Tryd.prog o a W K Q else E := by
  obtain ⟨i0, hi, hz0, hz1, hz2⟩ := info_parts Tryd.info26
  refine step_append_lies W hgd s x 23 ho B 26 i0 _ 5 48 Tryd.underlying23 hi hz0 hz1 hz2 rfl (by decide) v _ _ hs hr ad m c (dcs ds) hx (by rw [dcs_len, hm]) hg (dcs_one ds) hm0 (by unfold maxLen; omega) hl hB _ rfl ?_
  intro q cap w' a1 a2 a3 _
  refine h q cap w' ?_ ((Below.refl B W).grown a2 hB hr.own)
  unfold Rp
  rw [List.length_append, dcs_app, hm]
  exact a1
theorem news_row (W : World) (ds : List Dc) (vs : Array Value) (hv : vs.toList = dcs ds) (b : Nat) (hb : W.heap[b]? = some (.cells vs 26 (0, 0))) : ∀ j u, (dcs ds)[j]? = some u → W.cell? ((⟨b, 0, none⟩ : Addr).add j) = some u := by
  intro j u hu
  refine World.news_of_block hb j u ?_
  rw [← hv] at hu
  simpa using hu

theorem heap_new3 (w : World) (o1 o2 o3 : Obj) : (((w.alloc o1).alloc o2).alloc o3).heap[w.heap.size + 1 + 1]? = some o3 := by
  have := new_at ((w.alloc o1).alloc o2) o3
  rwa [World.size_alloc, World.size_alloc] at this
/-- The piece that is laid around. -/
def mrk (ms : List Dc) (k : Nat) : Dc := if ms.length = 0 then bg0 else ⟨6, bE, 0, pk (ms.getD (k % ms.length) bg0).i 1001, (ms.getD (k % ms.length) bg0).e⟩
theorem mrk_ok (ms : List Dc) (k : Nat) : ∃ m e, mrk ms k = ⟨6, bE, 0, m, e⟩ ∧ rtN m = true := by
  unfold mrk
  split
  · exact ⟨0, false, rfl, rfl⟩
  · refine ⟨_, _, rfl, ?_⟩
    generalize (ms.getD (k % ms.length) bg0).i = z
    have := pk_bd z (n := 1001) (by omega)
    simp [rtN]; omega

set_option maxHeartbeats 4000000 in
set_option maxRecDepth 100000 in
theorem idle_any (n : Int) (ao bo : Option Addr) (l ms : List Dc) (cap bcap : Nat) (w : World) (hL : Lay w ao l) (hM : Lay w bo ms) (hmi : ∀ d ∈ ms, -9223372036854775808 ≤ d.i ∧ d.i ≤ 9223372036854775807) (hT : Tab w) (hlen : l.length ≤ 200000) (hlm : ms.length ≤ 200000) (hU : uds l ≤ 268435456) :
    Calls Tryd.prog 8 #[.int .i64 n, .slice ao l.length cap, .slice bo ms.length bcap] w fun e w' => e = .returned (.bool true) ∧ Below w.heap.size w w' := by
  have hts : ∀ d ∈ l, d.t.size ≤ 9223372036854775807 := fun d hd => by obtain ⟨j, hj⟩ := List.getElem?_of_mem hd; exact (hL j d hj).1
  have HP : Hid (∀ W ao' l' cap', Below w.heap.size w W → Lay W ao' l' → l'.length ≤ 1000000 → uds l' ≤ 268435456 → Calls Tryd.prog 10 #[.int .i64 n, .slice ao' l'.length cap'] W fun e w' => e = .returned (.tuple #[.string (wprn n l').1, .int .i64 (wprn n l').2]) ∧ Below w.heap.size w w') := fun W ao' l' cap' hW h1 h2 h3 => (print_any n ao' l' cap' W h1 (hT.below hW) (by omega) h3).mono fun e w' ⟨a1, a2⟩ => ⟨a1, hW.trans (a2.mono hW.size)⟩
  have HA : Hid (∀ W, Below w.heap.size w W → Calls Tryd.prog 9 #[] W fun e w' => e = .returned (.bool true) ∧ Below w.heap.size w w') := fun W hW => (awake_any W (hT.below hW)).mono fun e w' ⟨a1, a2⟩ => ⟨a1, hW.trans (a2.mono hW.size)⟩
  have HL : Hid (Lay w ao l ∧ Lay w bo ms ∧ (∀ d ∈ l, d.t.size ≤ 9223372036854775807) ∧ ∀ d ∈ ms, -9223372036854775808 ≤ d.i ∧ d.i ≤ 9223372036854775807) := ⟨hL, hM, hts, hmi⟩
  have P1 : Hid (Calls Tryd.prog 10 #[.int .i64 n, .slice ao l.length cap] w fun e w' => e = .returned (.tuple #[.string (wprn n l).1, .int .i64 (wprn n l).2]) ∧ Below w.heap.size w w') := HP.out w ao l cap (Below.refl _ _) hL (by omega) hU
  clear hL hM hts hmi hT
  obtain ⟨S, hS⟩ : ∃ S, (wprn n l).1 = S := ⟨_, rfl⟩
  obtain ⟨Z, hZ⟩ : ∃ Z, (wprn n l).2 = Z := ⟨_, rfl⟩
  rw [hS, hZ] at P1
  have HSZ : Hid (wprn n l = (S, Z)) := by show _ = _; rw [← hS, ← hZ]
  clear hS hZ
  go_enter Tryd.func8, Tryd.ntmps8
  go_wp2_with fail
  refine P1.out.mono ?_
  rintro e w1 ⟨rfl, hb1⟩
  have HB1 : Hid (Below w.heap.size w w1) := hb1
  clear hb1 P1
  go_wp2_with fail
  go_loopw [9, 10] (fun v i wr => ∃ (k : Nat) (r : List Dc), k ≤ l.length ∧ i = .int .i64 k ∧ Hid (Idl (l.take k) r ∧ Rp w.heap.size wr v r ∧ Below w.heap.size w wr)) (fun _ i _ => l.length - (intOf i).toNat)
  case atStart => exact ⟨0, [], Nat.zero_le _, rfl, .nil, rp_nil _ _, HB1.out⟩
  case round =>
    obtain ⟨k, r, hk, rfl, HI⟩ := hrel
    obtain ⟨hid, hrp, hbw⟩ := HI.out
    obtain ⟨hur, hlr⟩ := hid.uds
    have hlr2 : r.length ≤ 1000000 := by rw [List.length_take] at hlr; omega
    obtain ⟨p, cp, rfl, hcp1, hcp2⟩ := hrp.shape
    by_cases hlt : k < l.length
    · have q2 : (k : Int) < l.length := by omega
      have q3 : (0 : Int) ≤ k := by omega
      obtain ⟨d, hd⟩ : ∃ d, l[k]? = some d := ⟨_, List.getElem?_eq_getElem hlt⟩
      obtain ⟨ht, b, off, rfl, c0, c1, c2, c3, c4⟩ := (HL.out.1.below hbw) k d hd
      have htk : l.take (k + 1) = l.take k ++ [d] := by rw [List.take_add_one, hd]; rfl
      have HL2 : Hid (∀ ds, (∃ m e, d.k = 1 ∧ rtN m = true ∧ ds = [⟨6, bE, 0, m, e⟩, d, bg0, dK 7, dK 7]) ∨ (∃ m e, d.k = 2 ∧ rtN m = true ∧ ds = [⟨6, bE, 0, m, e⟩, d, bg0, dK 7, dK 7]) ∨ (¬ (d.k = 1 ∨ d.k = 2) ∧ ds = [d]) → Idl (l.take (k + 1)) (r ++ ds)) := by
        intro ds h
        rw [htk]
        rcases h with ⟨m, e, h1, h2, rfl⟩ | ⟨m, e, h1, h2, rfl⟩ | ⟨h1, rfl⟩
        · exact hid.snocW d m e (.inl h1) h2
        · exact hid.snocW d m e (.inr h1) h2
        · exact hid.snocK d h1
      have HR : Hid (Rp w.heap.size wr (.slice p r.length cp) r ∧ Below w.heap.size w wr) := ⟨hrp, hbw⟩
      have blt := World.block_lt_of_cell? _ _ c0
      by_cases hms : ms.length = 0
      · have q5 : ¬ ((0 : Int) < ms.length) := by omega
        clear hms
        clear HI hid hrp hbw htk hd hur
        obtain ⟨dk, dt, db, di, de⟩ := d
        simp only at c0 c1 c2 c3 c4 ht HL2
        by_cases hk1 : dk = 1
        · subst hk1
          go_wp2_with fail
          obtain ⟨Wm, hWm⟩ : ∃ Wm, wr.alloc (.cells #[.int .u8 6, .string ⟨#[]⟩, .int .i64 0, .int .i64 0, .bool false] 26) = Wm := ⟨_, rfl⟩
          rw [hWm]
          have hbm : Below wr.heap.size wr Wm := by rw [← hWm]; exact ((Below.refl _ _).alloc (Nat.le_refl _) _)
          have hbx : Wm.heap[wr.heap.size]? = some (.cells #[.int .u8 6, .string ⟨#[]⟩, .int .i64 0, .int .i64 0, .bool false] 26 (0, 0)) := by rw [← hWm]; exact new_at _ _
          have hdm : Wm.cell? ⟨b, off + k * 5, none⟩ = some (.int .u8 1) ∧ Wm.cell? ⟨b, off + k * 5 + 1, none⟩ = some (.string dt) ∧ Wm.cell? ⟨b, off + k * 5 + 2, none⟩ = some (.int .i64 db) ∧ Wm.cell? ⟨b, off + k * 5 + 3, none⟩ = some (.int .i64 di) ∧ Wm.cell? ⟨b, off + k * 5 + 4, none⟩ = some (.bool de) := ⟨(hbm.cell (p := ⟨b, _, none⟩) blt).trans c0, (hbm.cell (p := ⟨b, _, none⟩) blt).trans c1, (hbm.cell (p := ⟨b, _, none⟩) blt).trans c2, (hbm.cell (p := ⟨b, _, none⟩) blt).trans c3, (hbm.cell (p := ⟨b, _, none⟩) blt).trans c4⟩
          obtain ⟨f0, f1, f2, f3, f4⟩ := hdm
          have g0 := blk_cell (k := 0) hbx rfl
          have g1 := blk_cell (k := 1) hbx rfl
          have g2 := blk_cell (k := 2) hbx rfl
          have g3 := blk_cell (k := 3) hbx rfl
          have g4 := blk_cell (k := 4) hbx rfl
          have HV : Hid (∀ V, Below Wm.heap.size Wm V → Rp w.heap.size V (.slice p r.length cp) r ∧ Below w.heap.size w V) := fun V hV => ⟨HR.out.1.below (hbm.trans (hV.mono hbm.size)), HR.out.2.trans ((hbm.trans (hV.mono hbm.size)).mono HR.out.2.size)⟩
          have bm := Nat.lt_of_lt_of_le blt hbm.size
          clear hWm hbm hbx c0 c1 c2 c3 c4
          go_region_law (refine step_row (by rfl) _ _ (by rfl) w.heap.size (.slice p r.length cp) r [⟨6, bE, 0, 0, false⟩, ⟨1, dt, db, di, de⟩, bg0, dK 7, dK 7] (by rfl) (HV.out _ (by first | exact ((Below.refl _ _).alloc (Nat.le_refl _) _).drew | exact ((Below.refl _ _).drew).alloc (Nat.le_refl _) _)).1 ⟨Wm.heap.size, 0, none⟩ 5 5 (by rfl) (by rfl) (by decide) (news_row _ _ _ (by rfl) _ (by first | exact new_at Wm _ | exact new_at Wm.drew _)) (by omega) (HV.out _ (by first | exact ((Below.refl _ _).alloc (Nat.le_refl _) _).drew | exact ((Below.refl _ _).drew).alloc (Nat.le_refl _) _)).2.size ?_; intro q cap2 w4 hr4 hb4)
          all_goals (
            have hbw4 : Below w.heap.size w w4 := (HV.out _ (by first | exact ((Below.refl _ _).alloc (Nat.le_refl _) _).drew | exact ((Below.refl _ _).drew).alloc (Nat.le_refl _) _)).2.trans hb4
            go_wp2_with fail
            go_roundw
            case rel => exact ⟨k + 1, r ++ [⟨6, bE, 0, 0, false⟩, ⟨1, dt, db, di, de⟩, bg0, dK 7, dK 7], hlt, by go_num, HL2.out _ (.inl ⟨0, false, (by trivial), rfl, rfl⟩), hr4, hbw4⟩
            case measure => simp [intOf]; omega)
        by_cases hk2 : dk = 2
        · subst hk2
          go_wp2_with fail
          obtain ⟨Wm, hWm⟩ : ∃ Wm, wr.alloc (.cells #[.int .u8 6, .string ⟨#[]⟩, .int .i64 0, .int .i64 0, .bool false] 26) = Wm := ⟨_, rfl⟩
          rw [hWm]
          have hbm : Below wr.heap.size wr Wm := by rw [← hWm]; exact ((Below.refl _ _).alloc (Nat.le_refl _) _)
          have hbx : Wm.heap[wr.heap.size]? = some (.cells #[.int .u8 6, .string ⟨#[]⟩, .int .i64 0, .int .i64 0, .bool false] 26 (0, 0)) := by rw [← hWm]; exact new_at _ _
          have hdm : Wm.cell? ⟨b, off + k * 5, none⟩ = some (.int .u8 2) ∧ Wm.cell? ⟨b, off + k * 5 + 1, none⟩ = some (.string dt) ∧ Wm.cell? ⟨b, off + k * 5 + 2, none⟩ = some (.int .i64 db) ∧ Wm.cell? ⟨b, off + k * 5 + 3, none⟩ = some (.int .i64 di) ∧ Wm.cell? ⟨b, off + k * 5 + 4, none⟩ = some (.bool de) := ⟨(hbm.cell (p := ⟨b, _, none⟩) blt).trans c0, (hbm.cell (p := ⟨b, _, none⟩) blt).trans c1, (hbm.cell (p := ⟨b, _, none⟩) blt).trans c2, (hbm.cell (p := ⟨b, _, none⟩) blt).trans c3, (hbm.cell (p := ⟨b, _, none⟩) blt).trans c4⟩
          obtain ⟨f0, f1, f2, f3, f4⟩ := hdm
          have g0 := blk_cell (k := 0) hbx rfl
          have g1 := blk_cell (k := 1) hbx rfl
          have g2 := blk_cell (k := 2) hbx rfl
          have g3 := blk_cell (k := 3) hbx rfl
          have g4 := blk_cell (k := 4) hbx rfl
          have HV : Hid (∀ V, Below Wm.heap.size Wm V → Rp w.heap.size V (.slice p r.length cp) r ∧ Below w.heap.size w V) := fun V hV => ⟨HR.out.1.below (hbm.trans (hV.mono hbm.size)), HR.out.2.trans ((hbm.trans (hV.mono hbm.size)).mono HR.out.2.size)⟩
          have bm := Nat.lt_of_lt_of_le blt hbm.size
          clear hWm hbm hbx c0 c1 c2 c3 c4
          go_region_law (refine step_row (by rfl) _ _ (by rfl) w.heap.size (.slice p r.length cp) r [⟨6, bE, 0, 0, false⟩, ⟨2, dt, db, di, de⟩, bg0, dK 7, dK 7] (by rfl) (HV.out _ (by first | exact ((Below.refl _ _).alloc (Nat.le_refl _) _).drew | exact ((Below.refl _ _).drew).alloc (Nat.le_refl _) _)).1 ⟨Wm.heap.size, 0, none⟩ 5 5 (by rfl) (by rfl) (by decide) (news_row _ _ _ (by rfl) _ (by first | exact new_at Wm _ | exact new_at Wm.drew _)) (by omega) (HV.out _ (by first | exact ((Below.refl _ _).alloc (Nat.le_refl _) _).drew | exact ((Below.refl _ _).drew).alloc (Nat.le_refl _) _)).2.size ?_; intro q cap2 w4 hr4 hb4)
          all_goals (
            have hbw4 : Below w.heap.size w w4 := (HV.out _ (by first | exact ((Below.refl _ _).alloc (Nat.le_refl _) _).drew | exact ((Below.refl _ _).drew).alloc (Nat.le_refl _) _)).2.trans hb4
            go_wp2_with fail
            go_roundw
            case rel => exact ⟨k + 1, r ++ [⟨6, bE, 0, 0, false⟩, ⟨2, dt, db, di, de⟩, bg0, dK 7, dK 7], hlt, by go_num, HL2.out _ (.inr (.inl ⟨0, false, (by trivial), rfl, rfl⟩)), hr4, hbw4⟩
            case measure => simp [intOf]; omega)
        have k1' : (dk == 1) = false := by simpa using hk1
        have k2' : (dk == 2) = false := by simpa using hk2
        have HV : Hid (∀ V, Below wr.heap.size wr V → Rp w.heap.size V (.slice p r.length cp) r ∧ Below w.heap.size w V) := fun V hV => ⟨HR.out.1.below hV, HR.out.2.trans (hV.mono HR.out.2.size)⟩
        go_wp2_with (first | (at_builtin; refine app_piece rfl _ _ rfl w.heap.size _ r ⟨dk, dt, db, di, de⟩ rfl (HV.out _ (((Below.refl _ wr).alloc (Nat.le_refl _) _).alloc (by rw [World.size_alloc]; omega) _)).1 _ 1 rfl (heap_new2 wr _ _) (by omega) (HV.out _ (((Below.refl _ wr).alloc (Nat.le_refl _) _).alloc (by rw [World.size_alloc]; omega) _)).2.size ?_; intro v4 w4 hr4 hb4 _ _; have hbw4 : Below w.heap.size w w4 := (HV.out _ (((Below.refl _ wr).alloc (Nat.le_refl _) _).alloc (by rw [World.size_alloc]; omega) _)).2.trans hb4; obtain ⟨p4, cp4, e4, _, _⟩ := hr4.shape; simp only [List.length_append, List.length_cons, List.length_nil, Nat.zero_add] at e4; subst e4))
        exact ⟨⟨k + 1, r ++ [⟨dk, dt, db, di, de⟩], hlt, by go_num, HL2.out _ (.inr (.inr ⟨by simp [hk1, hk2], rfl⟩)), hr4, hbw4⟩, by simp [intOf]; omega⟩
      · obtain ⟨j, hj⟩ : ∃ j, k % ms.length = j := ⟨_, rfl⟩
        have hjl : j < ms.length := by rw [← hj]; exact Nat.mod_lt _ (by omega)
        obtain ⟨x, hx⟩ : ∃ x, ms[j]? = some x := ⟨_, List.getElem?_eq_getElem hjl⟩
        obtain ⟨_, b2, off2, rfl, m0, m1, m2, m3, m4⟩ := (HL.out.2.1.below hbw) j x hx
        have blt2 := World.block_lt_of_cell? _ _ m0
        have hxi := HL.out.2.2.2 x (List.mem_of_getElem? hx)
        have hjI : (k : Int) % (ms.length : Int) = (j : Int) := by rw [← hj]; rfl
        have q5 : (0 : Int) < ms.length := by omega
        have q6 : (j : Int) < ms.length := by omega
        have q7 : ¬ (ms.length : Int) = 0 := by omega
        have hpk := pk_bd x.i (n := 1001) (by omega)
        have KP : Hid (∀ W, Calls Tryd.prog 15 #[.int .i64 x.i, .int .i64 1001] W fun e w' => e = .returned (.int .i64 (pk x.i 1001)) ∧ w' = W) := fun W => pick_any x.i 1001 W hxi.1 hxi.2 (by omega) (by omega)
        obtain ⟨xk, xt, xb, xi, xe⟩ := x
        simp only at m0 m1 m2 m3 m4 hxi hpk KP
        generalize pk xi 1001 = P at *
        clear HI hid hrp hbw htk hd hur hx
        obtain ⟨dk, dt, db, di, de⟩ := d
        simp only at c0 c1 c2 c3 c4 ht HL2
        by_cases hk1 : dk = 1
        · subst hk1
          go_wp2_with (go_at_call 15; refine (KP.out _).mono ?_; rintro e w2 ⟨rfl, rfl⟩)
          obtain ⟨Wm, hWm⟩ : ∃ Wm, (wr.alloc (.cells #[.int .u8 6, .string ⟨#[]⟩, .int .i64 0, .int .i64 P, .bool xe] 26)).alloc (.cells #[.int .u8 xk, .string xt, .int .i64 xb, .int .i64 xi, .bool xe] 26) = Wm := ⟨_, rfl⟩
          rw [hWm]
          have hbm : Below wr.heap.size wr Wm := by rw [← hWm]; exact (((Below.refl _ wr).alloc (Nat.le_refl _) _).alloc (by rw [World.size_alloc]; omega) _)
          have hbx : Wm.heap[wr.heap.size]? = some (.cells #[.int .u8 6, .string ⟨#[]⟩, .int .i64 0, .int .i64 P, .bool xe] 26 (0, 0)) := by rw [← hWm]; exact alloc_at' (new_at _ _) _
          have hdm : Wm.cell? ⟨b, off + k * 5, none⟩ = some (.int .u8 1) ∧ Wm.cell? ⟨b, off + k * 5 + 1, none⟩ = some (.string dt) ∧ Wm.cell? ⟨b, off + k * 5 + 2, none⟩ = some (.int .i64 db) ∧ Wm.cell? ⟨b, off + k * 5 + 3, none⟩ = some (.int .i64 di) ∧ Wm.cell? ⟨b, off + k * 5 + 4, none⟩ = some (.bool de) := ⟨(hbm.cell (p := ⟨b, _, none⟩) blt).trans c0, (hbm.cell (p := ⟨b, _, none⟩) blt).trans c1, (hbm.cell (p := ⟨b, _, none⟩) blt).trans c2, (hbm.cell (p := ⟨b, _, none⟩) blt).trans c3, (hbm.cell (p := ⟨b, _, none⟩) blt).trans c4⟩
          obtain ⟨f0, f1, f2, f3, f4⟩ := hdm
          have g0 := blk_cell (k := 0) hbx rfl
          have g1 := blk_cell (k := 1) hbx rfl
          have g2 := blk_cell (k := 2) hbx rfl
          have g3 := blk_cell (k := 3) hbx rfl
          have g4 := blk_cell (k := 4) hbx rfl
          have HV : Hid (∀ V, Below Wm.heap.size Wm V → Rp w.heap.size V (.slice p r.length cp) r ∧ Below w.heap.size w V) := fun V hV => ⟨HR.out.1.below (hbm.trans (hV.mono hbm.size)), HR.out.2.trans ((hbm.trans (hV.mono hbm.size)).mono HR.out.2.size)⟩
          have bm := Nat.lt_of_lt_of_le blt hbm.size
          clear hWm hbm hbx c0 c1 c2 c3 c4
          go_region_law (refine step_row (by rfl) _ _ (by rfl) w.heap.size (.slice p r.length cp) r [⟨6, bE, 0, P, xe⟩, ⟨1, dt, db, di, de⟩, bg0, dK 7, dK 7] (by rfl) (HV.out _ (by first | exact ((Below.refl _ _).alloc (Nat.le_refl _) _).drew | exact ((Below.refl _ _).drew).alloc (Nat.le_refl _) _)).1 ⟨Wm.heap.size, 0, none⟩ 5 5 (by rfl) (by rfl) (by decide) (news_row _ _ _ (by rfl) _ (by first | exact new_at Wm _ | exact new_at Wm.drew _)) (by omega) (HV.out _ (by first | exact ((Below.refl _ _).alloc (Nat.le_refl _) _).drew | exact ((Below.refl _ _).drew).alloc (Nat.le_refl _) _)).2.size ?_; intro q cap2 w4 hr4 hb4)
          all_goals (
            have hbw4 : Below w.heap.size w w4 := (HV.out _ (by first | exact ((Below.refl _ _).alloc (Nat.le_refl _) _).drew | exact ((Below.refl _ _).drew).alloc (Nat.le_refl _) _)).2.trans hb4
            go_wp2_with fail
            go_roundw
            case rel => exact ⟨k + 1, r ++ [⟨6, bE, 0, P, xe⟩, ⟨1, dt, db, di, de⟩, bg0, dK 7, dK 7], hlt, by go_num, HL2.out _ (.inl ⟨P, xe, (by trivial), by simp [rtN]; omega, rfl⟩), hr4, hbw4⟩
            case measure => simp [intOf]; omega)
        by_cases hk2 : dk = 2
        · subst hk2
          go_wp2_with (go_at_call 15; refine (KP.out _).mono ?_; rintro e w2 ⟨rfl, rfl⟩)
          obtain ⟨Wm, hWm⟩ : ∃ Wm, (wr.alloc (.cells #[.int .u8 6, .string ⟨#[]⟩, .int .i64 0, .int .i64 P, .bool xe] 26)).alloc (.cells #[.int .u8 xk, .string xt, .int .i64 xb, .int .i64 xi, .bool xe] 26) = Wm := ⟨_, rfl⟩
          rw [hWm]
          have hbm : Below wr.heap.size wr Wm := by rw [← hWm]; exact (((Below.refl _ wr).alloc (Nat.le_refl _) _).alloc (by rw [World.size_alloc]; omega) _)
          have hbx : Wm.heap[wr.heap.size]? = some (.cells #[.int .u8 6, .string ⟨#[]⟩, .int .i64 0, .int .i64 P, .bool xe] 26 (0, 0)) := by rw [← hWm]; exact alloc_at' (new_at _ _) _
          have hdm : Wm.cell? ⟨b, off + k * 5, none⟩ = some (.int .u8 2) ∧ Wm.cell? ⟨b, off + k * 5 + 1, none⟩ = some (.string dt) ∧ Wm.cell? ⟨b, off + k * 5 + 2, none⟩ = some (.int .i64 db) ∧ Wm.cell? ⟨b, off + k * 5 + 3, none⟩ = some (.int .i64 di) ∧ Wm.cell? ⟨b, off + k * 5 + 4, none⟩ = some (.bool de) := ⟨(hbm.cell (p := ⟨b, _, none⟩) blt).trans c0, (hbm.cell (p := ⟨b, _, none⟩) blt).trans c1, (hbm.cell (p := ⟨b, _, none⟩) blt).trans c2, (hbm.cell (p := ⟨b, _, none⟩) blt).trans c3, (hbm.cell (p := ⟨b, _, none⟩) blt).trans c4⟩
          obtain ⟨f0, f1, f2, f3, f4⟩ := hdm
          have g0 := blk_cell (k := 0) hbx rfl
          have g1 := blk_cell (k := 1) hbx rfl
          have g2 := blk_cell (k := 2) hbx rfl
          have g3 := blk_cell (k := 3) hbx rfl
          have g4 := blk_cell (k := 4) hbx rfl
          have HV : Hid (∀ V, Below Wm.heap.size Wm V → Rp w.heap.size V (.slice p r.length cp) r ∧ Below w.heap.size w V) := fun V hV => ⟨HR.out.1.below (hbm.trans (hV.mono hbm.size)), HR.out.2.trans ((hbm.trans (hV.mono hbm.size)).mono HR.out.2.size)⟩
          have bm := Nat.lt_of_lt_of_le blt hbm.size
          clear hWm hbm hbx c0 c1 c2 c3 c4
          go_region_law (refine step_row (by rfl) _ _ (by rfl) w.heap.size (.slice p r.length cp) r [⟨6, bE, 0, P, xe⟩, ⟨2, dt, db, di, de⟩, bg0, dK 7, dK 7] (by rfl) (HV.out _ (by first | exact ((Below.refl _ _).alloc (Nat.le_refl _) _).drew | exact ((Below.refl _ _).drew).alloc (Nat.le_refl _) _)).1 ⟨Wm.heap.size, 0, none⟩ 5 5 (by rfl) (by rfl) (by decide) (news_row _ _ _ (by rfl) _ (by first | exact new_at Wm _ | exact new_at Wm.drew _)) (by omega) (HV.out _ (by first | exact ((Below.refl _ _).alloc (Nat.le_refl _) _).drew | exact ((Below.refl _ _).drew).alloc (Nat.le_refl _) _)).2.size ?_; intro q cap2 w4 hr4 hb4)
          all_goals (
            have hbw4 : Below w.heap.size w w4 := (HV.out _ (by first | exact ((Below.refl _ _).alloc (Nat.le_refl _) _).drew | exact ((Below.refl _ _).drew).alloc (Nat.le_refl _) _)).2.trans hb4
            go_wp2_with fail
            go_roundw
            case rel => exact ⟨k + 1, r ++ [⟨6, bE, 0, P, xe⟩, ⟨2, dt, db, di, de⟩, bg0, dK 7, dK 7], hlt, by go_num, HL2.out _ (.inr (.inl ⟨P, xe, (by trivial), by simp [rtN]; omega, rfl⟩)), hr4, hbw4⟩
            case measure => simp [intOf]; omega)
        have k1' : (dk == 1) = false := by simpa using hk1
        have k2' : (dk == 2) = false := by simpa using hk2
        have HV : Hid (∀ V, Below wr.heap.size wr V → Rp w.heap.size V (.slice p r.length cp) r ∧ Below w.heap.size w V) := fun V hV => ⟨HR.out.1.below hV, HR.out.2.trans (hV.mono HR.out.2.size)⟩
        go_wp2_with (first | (go_at_call 15; refine (KP.out _).mono ?_; rintro e w2 ⟨rfl, rfl⟩) | (at_builtin; refine app_piece rfl _ _ rfl w.heap.size _ r ⟨dk, dt, db, di, de⟩ rfl (HV.out _ ((((Below.refl _ wr).alloc (Nat.le_refl _) _).alloc (by rw [World.size_alloc]; omega) _).alloc (by rw [World.size_alloc, World.size_alloc]; omega) _)).1 _ 1 rfl (heap_new3 wr _ _ _) (by omega) (HV.out _ ((((Below.refl _ wr).alloc (Nat.le_refl _) _).alloc (by rw [World.size_alloc]; omega) _).alloc (by rw [World.size_alloc, World.size_alloc]; omega) _)).2.size ?_; intro v4 w4 hr4 hb4 _ _; have hbw4 : Below w.heap.size w w4 := (HV.out _ ((((Below.refl _ wr).alloc (Nat.le_refl _) _).alloc (by rw [World.size_alloc]; omega) _).alloc (by rw [World.size_alloc, World.size_alloc]; omega) _)).2.trans hb4; obtain ⟨p4, cp4, e4, _, _⟩ := hr4.shape; simp only [List.length_append, List.length_cons, List.length_nil, Nat.zero_add] at e4; subst e4))
        exact ⟨⟨k + 1, r ++ [⟨dk, dt, db, di, de⟩], hlt, by go_num, HL2.out _ (.inr (.inr ⟨by simp [hk1, hk2], rfl⟩)), hr4, hbw4⟩, by simp [intOf]; omega⟩
    · obtain rfl : k = l.length := by omega
      have q2 : ¬ ((l.length : Int) < l.length) := by omega
      rw [List.take_length] at hid hur
      obtain ⟨ao2, cp2, e2, _, hLr, _, _, _⟩ := Lay.row hrp (hid.size HL.out.2.2.1)
      simp only [Value.slice.injEq] at e2
      obtain ⟨rfl, _, rfl⟩ := e2
      have P2 : Hid (Calls Tryd.prog 10 #[.int .i64 n, .slice p r.length cp] wr fun e w' => e = .returned (.tuple #[.string S, .int .i64 Z]) ∧ Below w.heap.size w w') := by
        have := HP.out wr p r cp hbw hLr (by omega) (by rw [hur]; exact hU)
        rw [hid.prn, HSZ.out] at this
        exact this
      clear HI hid hrp hbw hLr HP
      go_wp2_with fail
      refine P2.out.mono ?_
      rintro e w2 ⟨rfl, hb2⟩
      go_wp2_with (first | (go_at_call 9; refine (HA.out _ hb2).mono ?_; rintro e w3 ⟨rfl, hb3⟩))
      go_ret
      exact ⟨rfl, hb3⟩
end Go.Proofs.YtcokccfbeonlnaaDoor
