import Derived.Test.YtcokccfbeonlnaaDoorYb
import Derived.BigQuiet
set_option linter.unusedVariables false
set_option linter.unusedSimpArgs false
namespace Go.Proofs.YtcokccfbeonlnaaDoor
open Go.RowKit

/-- Raw words, as a reader sees them. -/
def LayW (w : World) (ao : Option Addr) (l : List (Int × Int)) : Prop := ∀ j d, l[j]? = some d → ((-9223372036854775808 ≤ d.1 ∧ d.1 ≤ 9223372036854775807) ∧ (-9223372036854775808 ≤ d.2 ∧ d.2 ≤ 9223372036854775807)) ∧ ∃ b off, ao = some ⟨b, off, none⟩ ∧
  w.cell? ⟨b, off + j * 2, none⟩ = some (.int .i64 d.1) ∧ w.cell? ⟨b, off + j * 2 + 1, none⟩ = some (.int .i64 d.2)
theorem LayW.below {w w' : World} {ao : Option Addr} {l : List (Int × Int)} (h : LayW w ao l) (hb : Below w.heap.size w w') : LayW w' ao l := by
  intro j d hd
  obtain ⟨h0, b, off, h1, c0, c1⟩ := h j d hd
  exact ⟨h0, b, off, h1, (hb.cell (World.block_lt_of_cell? _ _ c0)).trans c0, (hb.cell (World.block_lt_of_cell? _ _ c1)).trans c1⟩
def wz (k : Nat) (x : Int × Int) : Wg := (wrd (1 + (pk x.1 14).toNat) k, (pk x.2 4).toNat)
def zsO (raw : List (Int × Int)) (k : Nat) : List Wg := (List.range k).map fun i => wz i (raw.getD i (0, 0))
theorem zsO_succ {raw : List (Int × Int)} {k : Nat} {x : Int × Int} (h : raw[k]? = some x) : zsO raw (k + 1) = zsO raw k ++ [wz k x] := by
  unfold zsO
  rw [List.range_succ, List.map_append, List.map_cons, List.map_nil, List.getD_eq_getElem?_getD, h]; rfl
theorem zsO_len (raw : List (Int × Int)) (k : Nat) : (zsO raw k).length = k := by simp [zsO]
theorem wz_ok (k : Nat) (x : Int × Int) : Wd (wz k x).1 ∧ (wz k x).2 ≤ 3 := by
  have h1 := pk_bd x.1 (n := 14) (by omega)
  have h2 := pk_bd x.2 (n := 4) (by omega)
  exact ⟨wrd_wd (by omega) (by omega), by show (pk x.2 4).toNat ≤ 3; omega⟩
theorem zsO_ok (raw : List (Int × Int)) (k : Nat) : Wgs (zsO raw k) := by
  intro y hy
  obtain ⟨i, _, rfl⟩ := List.mem_map.1 hy
  exact wz_ok _ _

set_option maxHeartbeats 2000000 in
set_option maxRecDepth 100000 in
theorem words_any (ao : Option Addr) (raw : List (Int × Int)) (cap : Nat) (w : World) (hL : LayW w ao raw) (hlen : raw.length ≤ 9223372036854775807) (K : Nat) (hK : K = min raw.length 300) :
    Calls Tryd.prog 16 #[.slice ao raw.length cap] w fun e w' => ∃ v4 v5, e = .returned (.tuple #[v4, v5]) ∧ ZR w.heap.size w' v4 v5 (zsO raw K) ∧ Below w.heap.size w w' := by
  have HL : Hid (LayW w ao raw) := hL
  have HK : Hid (K = min raw.length 300) := hK
  clear hL hK
  go_enter Tryd.func16, Tryd.ntmps16
  go_wp2_with fail
  go_loopw [4, 5, 6] (fun v4 v5 i wr => ∃ k : Nat, k ≤ raw.length ∧ k ≤ 300 ∧ i = .int .i64 k ∧ Hid (ZR w.heap.size wr v4 v5 (zsO raw k) ∧ Below w.heap.size w wr)) (fun _ _ i _ => raw.length - (intOf i).toNat)
  case atStart => exact ⟨0, Nat.zero_le _, Nat.zero_le _, rfl, ⟨World.ownsRow_nil _ _ _ _, World.ownsRow_nil _ _ _ _⟩, Below.refl _ _⟩
  case round =>
    obtain ⟨k, hk, hk3, rfl, HI⟩ := hrel
    obtain ⟨hz, hbw⟩ := HI.out
    have hzl := zsO_len raw k
    have h4 := hz.r4
    have h5 := hz.r5
    rw [hzl] at h4 h5
    obtain ⟨p4, cp4, e4, _, _⟩ := row_shp h4
    obtain ⟨p5, cp5, e5, _, _⟩ := row_shp h5
    subst e4 e5
    by_cases hlt : k < raw.length
    · have q1 : (k : Int) < raw.length := by omega
      have q0 : (0 : Int) ≤ k := by omega
      by_cases h300 : k < 300
      · have q2 : (k : Int) < 300 := by omega
        obtain ⟨x, hx⟩ : ∃ x, raw[k]? = some x := ⟨_, List.getElem?_eq_getElem hlt⟩
        obtain ⟨⟨⟨x1, x2⟩, x3, x4⟩, b, off, rfl, c0, c1⟩ := (HL.out.below hbw) k x hx
        have HC : Hid (∀ W, Below w.heap.size w W → W.cell? ⟨b, off + k * 2 + 1, none⟩ = some (.int .i64 x.2)) := fun W hW => by
          obtain ⟨_, b', off', e', _, c1'⟩ := (HL.out.below hW) k x hx
          simp only [Option.some.injEq, Addr.mk.injEq] at e'
          obtain ⟨rfl, rfl, _⟩ := e'
          exact c1'
        have hsc := zsO_succ hx
        have hp1 := pk_bd x.1 (n := 14) (by omega)
        have hp2 := pk_bd x.2 (n := 4) (by omega)
        have K1 : Hid (∀ W, Calls Tryd.prog 15 #[.int .i64 x.1, .int .i64 14] W fun e w' => e = .returned (.int .i64 (pk x.1 14)) ∧ w' = W) := fun W => pick_any x.1 14 W x1 x2 (by omega) (by omega)
        have K2 : Hid (∀ W, Calls Tryd.prog 15 #[.int .i64 x.2, .int .i64 4] W fun e w' => e = .returned (.int .i64 (pk x.2 4)) ∧ w' = W) := fun W => pick_any x.2 4 W x3 x4 (by omega) (by omega)
        have hw1 : wz k x = (wrd (1 + (pk x.1 14).toNat) k, (pk x.2 4).toNat) := rfl
        obtain ⟨m, hm⟩ : ∃ m : Nat, pk x.1 14 = m := ⟨(pk x.1 14).toNat, by omega⟩
        obtain ⟨g, hg⟩ : ∃ g : Nat, pk x.2 4 = g := ⟨(pk x.2 4).toNat, by omega⟩
        rw [hm] at K1 hp1 hw1
        rw [hg] at K2 hp2 hw1
        rw [Int.toNat_natCast, Int.toNat_natCast] at hw1
        have hmw : (1 : Int) + (m : Int) = ((1 + m : Nat) : Int) := by omega
        obtain ⟨wd, hwd⟩ : ∃ wd : ByteArray, ⟨(wrd (1 + m) k).toArray⟩ = wd := ⟨_, rfl⟩
        have KW : Hid (Calls Tryd.prog 30 #[.int .i64 (1 + (m : Int)), .int .i64 k] wr fun e w' => e = .returned (.string wd) ∧ Below wr.heap.size wr w') := by
          rw [hmw, ← hwd]; exact word_any (1 + m) k (by omega) (by omega) wr
        have HZ : Hid (wr.ownsRow w.heap.size 9 1 (.slice p4 k cp4) k (zt (zsO raw k)) ∧ wr.ownsRow w.heap.size 3 1 (.slice p5 k cp5) k (zg (zsO raw k)) ∧ Below w.heap.size w wr) := ⟨h4, h5, hbw⟩
        have HS : Hid (zsO raw (k + 1) = zsO raw k ++ [(wrd (1 + m) k, g)] ∧ (⟨(wrd (1 + m) k).toArray⟩ : ByteArray) = wd) := ⟨by rw [hsc, hw1], hwd⟩
        clear HI hz hbw hx hsc hw1 hwd hm hg hmw h4 h5 hzl c1
        obtain ⟨xa, xb⟩ := x
        simp only at c0 x1 x2 x3 x4 K1 K2 HC
        go_wp2_with (first | (go_at_call 15; refine (K1.out _).mono ?_; rintro e w2 ⟨rfl, rfl⟩; clear K1) | (go_at_call 30; refine KW.out.mono ?_; rintro e w3 ⟨rfl, hb3⟩; have HZ3 : Hid (∀ o, (w3.alloc o).ownsRow w.heap.size 9 1 (.slice p4 k cp4) k (zt (zsO raw k)) ∧ (w3.alloc o).ownsRow w.heap.size 3 1 (.slice p5 k cp5) k (zg (zsO raw k)) ∧ Below w.heap.size w (w3.alloc o)) := (fun o => ⟨row_kept HZ.out.1 (hb3.alloc hb3.size _), row_kept HZ.out.2.1 (hb3.alloc hb3.size _), HZ.out.2.2.trans ((hb3.alloc hb3.size _).mono HZ.out.2.2.size)⟩)) | (at_builtin; refine app_one rfl _ _ 38 9 (.string ⟨#[]⟩) (.string wd) 16 (by omega) Tryd.info9 Tryd.underlying38 rfl rfl rfl w.heap.size _ k (zt (zsO raw k)) rfl (HZ3.out _).1 w3.heap.size 1 rfl (new_at _ _) (by omega) (HZ3.out _).2.2.size ?_; intro v4 w4 hr4 hb4 hg4; have hbw4 : Below w.heap.size w w4 := (HZ3.out _).2.2.trans hb4; have hr5 := row_other (HZ3.out _).2.1 (HZ3.out _).1 (by decide) hg4; have c1' := HC.out w4 hbw4; obtain ⟨p4', cp4', rfl, _, _⟩ := row_shp hr4))
        have HZ4 : Hid (∀ o, (w4.alloc o).ownsRow w.heap.size 9 1 (.slice p4' (k + 1) cp4') (k + 1) (zt (zsO raw k) ++ [.string wd]) ∧ (w4.alloc o).ownsRow w.heap.size 3 1 (.slice p5 k cp5) k (zg (zsO raw k)) ∧ Below w.heap.size w (w4.alloc o)) := fun o => ⟨row_kept hr4 ((Below.refl _ _).alloc (Nat.le_refl _) _), row_kept hr5 ((Below.refl _ _).alloc (Nat.le_refl _) _), hbw4.alloc hbw4.size _⟩
        clear hr4 hr5 hb4 hg4 HZ3 KW HZ hb3
        refine (K2.out _).mono ?_
        rintro e w5 ⟨rfl, rfl⟩
        go_wp2_with (first | (at_builtin; refine app_one rfl _ _ 39 3 (.int .i64 0) (.int .i64 (g : Int)) 8 (by omega) Tryd.info3 Tryd.underlying39 rfl rfl rfl w.heap.size _ k (zg (zsO raw k)) rfl (HZ4.out _).2.1 w5.heap.size 1 rfl (new_at _ _) (by omega) (HZ4.out _).2.2.size ?_; intro v5 w6 hr6 hb6 hg6; have hbw6 : Below w.heap.size w w6 := (HZ4.out _).2.2.trans hb6; have hr7 := row_other (HZ4.out _).1 (HZ4.out _).2.1 (by decide) hg6; obtain ⟨p5', cp5', rfl, _, _⟩ := row_shp hr6))
        refine ⟨⟨k + 1, hlt, h300, by go_num, ?_, hbw6⟩, by simp [intOf]; omega⟩
        rw [HS.out.1]
        refine ⟨?_, ?_⟩
        · rw [List.length_append, zsO_len]
          have e : zt (zsO raw k ++ [(wrd (1 + m) k, g)]) = zt (zsO raw k) ++ [.string wd] := by rw [← HS.out.2]; simp [zt]
          rw [e]; exact hr7
        · rw [List.length_append, zsO_len]
          have e : zg (zsO raw k ++ [(wrd (1 + m) k, g)]) = zg (zsO raw k) ++ [.int .i64 (g : Int)] := by simp [zg]
          rw [e]; exact hr6
      · have q2 : ¬ (k : Int) < 300 := by omega
        obtain rfl : k = 300 := by omega
        have HM : Hid (K = 300) := by show _ = _; have := HK.out; omega
        have HE : Hid (ZR w.heap.size wr (.slice p4 300 cp4) (.slice p5 300 cp5) (zsO raw 300) ∧ Below w.heap.size w wr) := ⟨hz, hbw⟩
        clear HI hz hbw h4 h5 hzl
        go_wp2_with fail
        go_ret2
        exact ⟨_, _, rfl, by rw [HM.out]; exact HE.out.1, HE.out.2⟩
    · obtain rfl : k = raw.length := by omega
      have q1 : ¬ ((raw.length : Int) < raw.length) := by omega
      have HM : Hid (K = raw.length) := by show _ = _; have := HK.out; omega
      have HE : Hid (ZR w.heap.size wr (.slice p4 raw.length cp4) (.slice p5 raw.length cp5) (zsO raw raw.length) ∧ Below w.heap.size w wr) := ⟨hz, hbw⟩
      clear HI hz hbw h4 h5 hzl
      go_wp2_with fail
      go_ret2
      exact ⟨_, _, rfl, by rw [HM.out]; exact HE.out.1, HE.out.2⟩

/-! Words in lines, as the law lays them. -/
theorem cat_mk (a : ByteArray) (l x : List UInt8) (h : x = lsb a ++ l) : a ++ (⟨l.toArray⟩ : ByteArray) = ⟨x.toArray⟩ := by
  subst h; apply ls_inj; simp [lsb]
theorem zt_at {B : Nat} {W : World} {v4 v5 : Value} {zs : List Wg} (h : ZR B W v4 v5 zs) {k : Nat} {y : Wg} (hy : zs[k]? = some y) : ∃ b4 b5 c4 c5, v4 = .slice (some ⟨b4, 0, none⟩) zs.length c4 ∧ v5 = .slice (some ⟨b5, 0, none⟩) zs.length c5 ∧ W.cell? ⟨b4, k, none⟩ = some (.string ⟨y.1.toArray⟩) ∧ W.cell? ⟨b5, k, none⟩ = some (.int .i64 (y.2 : Int)) := by
  have hl := (List.getElem?_eq_some_iff.1 hy).1
  have g4 := h.r4
  have g5 := h.r5
  have c4 := fun b (hb : v4.ownBlock = some b) => g4.cells hb k (.string ⟨y.1.toArray⟩) (by simp [zt, hy])
  have c5 := fun b (hb : v5.ownBlock = some b) => g5.cells hb k (.int .i64 (y.2 : Int)) (by simp [zg, hy])
  rcases g4.2 with ⟨_, h0⟩ | ⟨b4, cp4, _, rfl, _⟩
  · omega
  rcases g5.2 with ⟨_, h0⟩ | ⟨b5, cp5, _, rfl, _⟩
  · omega
  have d4 := c4 b4 rfl
  have d5 := c5 b5 rfl
  rw [Addr.add_lit, Nat.zero_add] at d4 d5
  exact ⟨b4, b5, cp4, cp5, rfl, rfl, d4, d5⟩
end Go.Proofs.YtcokccfbeonlnaaDoor
