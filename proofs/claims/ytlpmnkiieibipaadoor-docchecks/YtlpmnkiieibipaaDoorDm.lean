import Derived.Test.YtlpmnkiieibipaaDoorDl
import Derived.Test.YtlpmnkiieibipaaDoorDk
set_option linter.unusedVariables false
set_option linter.unusedSimpArgs false
namespace Go.Proofs.YtlpmnkiieibipaaDoor
open Go.RowKit

theorem push_bytes (l : List UInt8) : ∀ s : ByteArray, (l.map (fun b : UInt8 => (b.toNat : Int))).foldl (fun r n => r.push (UInt8.ofNat n.toNat)) s = ⟨(s.data.toList ++ l).toArray⟩ := by
  induction l with
  | nil => intro s; simp
  | cons b l ih =>
    intro s
    rw [List.map_cons, List.foldl_cons, ih]
    simp
theorem conv_bytes (w : World) (B : Nat) (v : Value) (l : List UInt8) (hv : w.ownsRow B 5 1 v l.length (bc l)) : (convert 40 9 v).run Tryd.prog w = .ok (.string ⟨l.toArray⟩) w := by
  rcases hv.2 with ⟨rfl, h0⟩ | ⟨g, cp, cur, rfl, h2⟩
  · have e : l = [] := List.eq_nil_of_length_eq_zero h0
    rw [run_convert_bytes_string (P := Tryd.prog) w 40 9 5 _ _ _ Tryd.underlying40 Tryd.underlying5 Tryd.underlying9, e]
    rfl
  · rw [run_convert_bytes_string (P := Tryd.prog) w 40 9 5 _ _ _ Tryd.underlying40 Tryd.underlying5 Tryd.underlying9]
    have hload := run_loadCells_list (P := Tryd.prog) w ⟨g, 0, none⟩ (bc l) (hv.cells rfl)
    rw [bc_len] at hload
    rw [run_bytesToString (P := Tryd.prog) w ⟨g, 0, none⟩ l.length cp (l.map (fun b : UInt8 => (b.toNat : Int))) (by rw [hload]; simp [bc, List.map_map, Function.comp_def]), push_bytes]
    rfl


theorem lns_succ {l : List Dc} {k : Nat} {d : Dc} (h : l[k]? = some d) : lns (l.take (k + 1)) = lns (l.take k) ++ (lin d ++ [10]) := by
  obtain ⟨h1, h2⟩ := List.getElem?_eq_some_iff.1 h
  rw [List.take_succ_eq_append_getElem h1, lns_app, h2, lns_cons, lns_nil]

set_option maxHeartbeats 2000000 in
set_option maxRecDepth 100000 in
theorem print_any (ao : Option Addr) (l : List Dc) (cap : Nat) (w : World) (hL : Lay w ao l) (hn : l.length ≤ 9223372036854775807) (hG : Gl w) :
    Calls Tryd.prog 12 #[.slice ao l.length cap] w fun e w' => e = .returned (.tuple #[.string ⟨(prn l).1.toArray⟩, .int .i64 (prn l).2]) ∧ Below w.heap.size w w' := by
  have HC : Hid (Calls Tryd.prog 10 #[.slice ao l.length cap] w fun e w' => e = .returned (.tuple #[.int .i64 (chk l).1, .int .i64 (chk l).2]) ∧ Below w.heap.size w w') := check_any ao l cap w hL hn
  by_cases h0 : (chk l).1 = 0
  · obtain ⟨a1, a2, a3, a4⟩ := chk_ok h0
    rw [a4] at HC
    have HP : Hid (prn l = if 4194304 < (lns l).length then ([], 2) else (lns l, 0)) := by show _ = _; unfold prn; rw [if_neg (by rw [h0]; decide)]
    have HA : Hid (∀ d ∈ l, rt d = true) := a3
    have HL : Hid (Lay w ao l) := hL
    have HG : Hid (GlB w.heap.size w) := hG.glB
    clear h0 a2 a3 a4 hL hG
    go_enter Tryd.func12, Tryd.ntmps12
    go_wp2_with (go_at_call 10; refine HC.out.mono ?_; rintro e w1 ⟨rfl, hb1⟩)
    have HB1 : Hid (Below w.heap.size w w1) := hb1
    clear hb1
    go_loopw [6, 19] (fun b j wr => ∃ k : Nat, k ≤ l.length ∧ j = .int .i64 k ∧ (lns (l.take k)).length ≤ 4194304 ∧ Hid (Br w.heap.size wr b (lns (l.take k)) ∧ Below w.heap.size w wr)) (fun _ j _ => l.length - (intOf j).toNat)
    case atStart => exact ⟨0, by omega, rfl, by simp [lns], br_nil _ _, HB1.out⟩
    case round =>
      obtain ⟨k, hk, rfl, hle, HI⟩ := hrel
      by_cases hlt : k < l.length
      · have q1 : (k : Int) < l.length := by omega
        obtain ⟨d, hd⟩ : ∃ d, l[k]? = some d := ⟨_, List.getElem?_eq_getElem hlt⟩
        obtain ⟨ht, b, off, rfl, c0, c1, c2, c3, c4⟩ := (HL.out.below HI.out.2) k d hd
        have hrd := HA.out d (List.mem_of_getElem? hd)
        have HS : Hid (lns (l.take (k + 1)) = lns (l.take k) ++ (lin d ++ [10])) := lns_succ hd
        have hT := lns_take l (k + 1)
        obtain ⟨hr, hw⟩ := HI.out
        obtain ⟨m, hm⟩ : ∃ m, m = lns (l.take k) := ⟨_, rfl⟩
        rw [← hm] at hr hle HS
        obtain ⟨m1, hm1⟩ : ∃ m1, m1 = lns (l.take (k + 1)) := ⟨_, rfl⟩
        rw [← hm1] at HS hT
        have hll : m1.length ≤ 1000000000 := by
          rw [HS.out, List.length_append, List.length_append]
          have := lin_len hrd
          simp only [List.length_cons, List.length_nil]
          omega
        obtain ⟨p, cp, rfl, hc1, hc2⟩ := hr.shape
        obtain ⟨W, eW⟩ : ∃ W, W = wr.alloc (.cells #[.int .u8 d.k, .string d.t, .int .i64 d.b, .int .i64 d.i, .bool d.e] 36) := ⟨_, rfl⟩
        have hb2 : Below wr.heap.size wr W := by rw [eW]; exact (Below.refl _ _).alloc (Nat.le_refl _) _
        have hw2 : Below w.heap.size w W := hw.trans (hb2.mono hw.size)
        have HCl : Hid (Calls Tryd.prog 20 #[.slice p m.length cp, d.v] W fun e w' => ∃ v', e = .returned v' ∧ Br w.heap.size w' v' m1 ∧ Bk w.heap.size W w') := by
          rw [HS.out]
          exact line_any w.heap.size _ m d hrd W (Nat.le_trans hw.size hb2.size) (HG.out.on hw2) (hr.below hb2) (by omega)
        have HW : Hid (Below w.heap.size w W) := hw2
        have HM : Hid (m1 = lns (l.take (k + 1))) := hm1
        rw [eW] at HCl HW
        clear HI hr hw hd hrd HS hb2 hw2 eW hm hm1
        obtain ⟨dk, dt, db, di, de⟩ := d
        simp only [Dc.v] at HCl
        simp only at c0 c1 c2 c3 c4 ht HCl HW
        have hll2 : m1.length ≤ 9223372036854775807 := by omega
        by_cases hbig : 4194304 < m1.length
        · have q2 : (4194304 : Int) < m1.length := by omega
          have HQ : Hid (prn l = ([], 2)) := by show _ = _; rw [HP.out, if_pos (by omega)]
          go_wp2_with (go_at_call 20; refine HCl.out.mono ?_; rintro e w3 ⟨v3, rfl, hr3, hb3⟩; obtain ⟨p3, cp3, rfl, hc5, hc6⟩ := hr3.shape; have HR3 : Hid (Below w.heap.size w w3) := HW.out.trans hb3.bel; clear hr3 hb3)
          go_ret2
          rw [HQ.out]
          exact ⟨rfl, HR3.out⟩
        · have q2 : ¬ (4194304 : Int) < m1.length := by omega
          go_wp2_with (go_at_call 20; refine HCl.out.mono ?_; rintro e w3 ⟨v3, rfl, hr3, hb3⟩; obtain ⟨p3, cp3, rfl, hc5, hc6⟩ := hr3.shape; have HR3 : Hid (Br w.heap.size w3 (.slice p3 m1.length cp3) m1 ∧ Below w.heap.size w w3) := ⟨hr3, HW.out.trans hb3.bel⟩; clear hr3 hb3)
          have HE : Hid ((lns (l.take (k + 1))).length ≤ 4194304 ∧ Br w.heap.size w3 (.slice p3 m1.length cp3) (lns (l.take (k + 1)))) := ⟨by rw [← HM.out]; omega, by rw [← HM.out]; exact HR3.out.1⟩
          exact ⟨⟨k + 1, hlt, by go_num, HE.out.1, HE.out.2, HR3.out.2⟩, by simp [intOf]; omega⟩
      · obtain rfl : k = l.length := by omega
        have q1 : ¬ ((l.length : Int) < l.length) := by omega
        obtain ⟨hr, hw⟩ := HI.out
        rw [List.take_length] at hr hle
        have HQ : Hid (prn l = (lns l, 0)) := by show _ = _; rw [HP.out, if_neg (by omega)]
        obtain ⟨p, cp, rfl, hc1, hc2⟩ := hr.shape
        have hcv := conv_bytes wr _ _ _ hr
        have HW : Hid (Below w.heap.size w wr) := hw
        clear HI hr hw
        generalize (lns l).length = nn at *
        go_wp2_with fail
        go_ret2
        rw [HQ.out]
        exact ⟨rfl, HW.out⟩
  · have HP : Hid (prn l = ([], (chk l).1)) := by show _ = _; unfold prn; rw [if_pos h0]
    generalize (chk l).1 = e1 at *
    generalize (chk l).2 = e2 at *
    clear hL hG
    go_enter Tryd.func12, Tryd.ntmps12
    go_wp2_with (go_at_call 10; refine HC.out.mono ?_; rintro e w1 ⟨rfl, hb1⟩)
    go_ret2
    rw [HP.out]
    exact ⟨rfl, hb1⟩
end Go.Proofs.YtlpmnkiieibipaaDoor
