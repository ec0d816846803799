import Derived.Test.YtgjbkdnefbnclaaJoined
import Derived.Test.YtgjbkdnefbnclaaBack0
set_option linter.unusedVariables false
set_option linter.unusedSimpArgs false
namespace Go.Proofs.Ytgjbkdnefbnclaa
open Go.RowKit

theorem text_row (ao : Option Addr) (n cap : Nat) (zs : List Int) (w : World) (hn : n ≤ 2147483647) (hr : Row w ao n zs) :
    Calls Try.prog 19 #[.slice ao n cap] w fun e w' => e = .returned (.string (runesBytes (zs.map rn))) ∧ Below w.heap.size w w' := by
  by_cases h0 : n = 0
  · subst h0
    have e : zs = [] := List.eq_nil_of_length_eq_zero hr.1
    subst e
    exact text_nil ao cap w
  · obtain ⟨b, off, rfl, _⟩ := hr.2 0 (by omega)
    exact text_any b off n cap zs w hn hr.1 (fun j hj => hr.at j hj)

theorem count_row (s : ByteArray) (w : World) (hs : s.size ≤ 2147483647) :
    Calls Try.prog 16 #[.string s] w fun e w' => e = .returned (.int .i64 (P s).length) ∧ Below w.heap.size w w' := by
  refine (count_any s w (by unfold maxLen; omega)).mono ?_
  rintro e w' ⟨rfl, p, rfl⟩
  exact ⟨rfl, below_iter _ _ _⟩

set_option maxHeartbeats 400000 in
theorem back_big (s : ByteArray) (ao : Option Addr) (n cap : Nat) (w : World) (hs : s.size ≤ maxLen) (hn : n ≤ maxLen) (h : 268435455 < s.size ∨ 268435455 < n) :
    Calls Try.prog 6 #[.string s, .slice ao n cap] w fun e w' => e = .returned (.bool true) ∧ Below w.heap.size w w' := by
  unfold maxLen at hs hn
  by_cases h1 : 268435455 < s.size
  · go_enter Try.func6, Try.ntmps6
    go_wp2_with fail
    go_ret
    exact ⟨rfl, Below.refl _ _⟩
  · have h2 : 268435455 < n := by omega
    go_enter Try.func6, Try.ntmps6
    go_wp2_with fail
    go_ret
    exact ⟨rfl, Below.refl _ _⟩

set_option maxRecDepth 100000 in
set_option maxHeartbeats 1000000 in
theorem back_core (s t u : ByteArray) (n m cap : Nat) (vs : Bool) (ao : Option Addr) (xs zs : List Int) (w : World) (hs : s.size ≤ 268435455) (hm : m ≤ 268435455) (hn : n ≤ 268435455) (hr : Row w ao m zs)
    (kp : ∀ w, Calls Try.prog 14 #[.string s] w fun e w' => ∃ g, e = .returned (.slice (some ⟨g, 0, none⟩) n n) ∧ Row w' (some ⟨g, 0, none⟩) n xs ∧ Below w.heap.size w w')
    (kt : ∀ w g, Row w (some ⟨g, 0, none⟩) n xs → Calls Try.prog 19 #[.slice (some ⟨g, 0, none⟩) n n] w fun e w' => e = .returned (.string t) ∧ Below w.heap.size w w')
    (kvs : ∀ w, Calls Try.prog 17 #[.string s] w fun e w' => e = .returned (.bool vs) ∧ Below w.heap.size w w')
    (kvt : ∀ w, Calls Try.prog 17 #[.string t] w fun e w' => e = .returned (.bool true) ∧ Below w.heap.size w w')
    (kct : ∀ w, Calls Try.prog 16 #[.string t] w fun e w' => e = .returned (.int .i64 n) ∧ Below w.heap.size w w')
    (kcs : ∀ w, Calls Try.prog 16 #[.string s] w fun e w' => e = .returned (.int .i64 n) ∧ Below w.heap.size w w')
    (ku : ∀ w, Row w ao m zs → Calls Try.prog 19 #[.slice ao m cap] w fun e w' => e = .returned (.string u) ∧ Below w.heap.size w w')
    (kpu : ∀ w, Calls Try.prog 14 #[.string u] w fun e w' => ∃ g, e = .returned (.slice (some ⟨g, 0, none⟩) m m) ∧ Row w' (some ⟨g, 0, none⟩) m (zs.map rn) ∧ Below w.heap.size w w')
    (kvu : ∀ w, Calls Try.prog 17 #[.string u] w fun e w' => e = .returned (.bool true) ∧ Below w.heap.size w w')
    (heq : (t.toList == s.toList) = vs) :
    Calls Try.prog 6 #[.string s, .slice ao m cap] w fun e w' => e = .returned (.bool true) ∧ Below w.heap.size w w' := by
  have KP : Hid _ := kp
  have KT : Hid _ := kt
  have KVS : Hid _ := kvs
  have KVT : Hid _ := kvt
  have KCT : Hid _ := kct
  have KCS : Hid _ := kcs
  have KU : Hid _ := ku
  have KPU : Hid _ := kpu
  have KVU : Hid _ := kvu
  clear kp kt kvs kvt kct kcs ku kpu kvu
  have e0 : (vs != vs) = false := by simp
  have e1 : ((n : Int) != (n : Int)) = false := by simp
  have e2 : ((m : Int) != (m : Int)) = false := by simp
  have hd0 : decide (268435455 < (s.size : Int)) = false := by simp; omega
  have hd1 : decide (268435455 < (m : Int)) = false := by simp; omega
  go_enter Try.func6, Try.ntmps6
  go_wp2_with fail
  refine (KP.out _).mono ?_
  rintro e w1 ⟨g1, rfl, hr1, hb1⟩
  go_wp2_with fail
  refine (KT.out _ _ hr1).mono ?_
  rintro e w2 ⟨rfl, hb2⟩
  have hz1 := hb1.size
  have hz2 := hb2.size
  have hB2 : Below w.heap.size w w2 := hb1.trans (hb2.mono hz1)
  clear hb1 hb2 hr1 KP KT
  go_wp2_with fail
  refine (KVS.out _).mono ?_
  rintro e w3 ⟨rfl, hb3⟩
  have hz3 := hb3.size
  have hB3 : Below w.heap.size w w3 := hB2.trans (hb3.mono (by omega))
  clear hb3 hB2
  go_wp2_with fail
  refine (KVT.out _).mono ?_
  rintro e w4 ⟨rfl, hb4⟩
  have hz4 := hb4.size
  have hB4 : Below w.heap.size w w4 := hB3.trans (hb4.mono (by omega))
  clear hb4 hB3
  go_wp2_with fail
  refine (KCT.out _).mono ?_
  rintro e w5 ⟨rfl, hb5⟩
  have hz5 := hb5.size
  have hB5 : Below w.heap.size w w5 := hB4.trans (hb5.mono (by omega))
  clear hb5 hB4
  go_wp2_with fail
  refine (KCS.out _).mono ?_
  rintro e w6 ⟨rfl, hb6⟩
  have hz6 := hb6.size
  have hB6 : Below w.heap.size w w6 := hB5.trans (hb6.mono (by omega))
  clear hb6 hB5
  go_wp2_with fail
  refine (KU.out _ (hr.below hB6)).mono ?_
  rintro e w7 ⟨rfl, hb7⟩
  have hz7 := hb7.size
  have hB7 : Below w.heap.size w w7 := hB6.trans (hb7.mono (by omega))
  clear hb7 hB6
  go_wp2_with fail
  refine (KPU.out _).mono ?_
  rintro e w8 ⟨g8, rfl, hr8, hb8⟩
  have hz8 := hb8.size
  have hB8 : Below w.heap.size w w8 := hB7.trans (hb8.mono (by omega))
  clear hb8 hB7
  go_wp2_with fail
  refine (KVU.out _).mono ?_
  rintro e w9 ⟨rfl, hb9⟩
  have hz9 := hb9.size
  have hB9 : Below w.heap.size w w9 := hB8.trans (hb9.mono (by omega))
  have hr9 := hr8.below hb9
  have hr' := hr.below hB9
  clear hb9 hB8 hr8 KVS KVT KCT KCS KU KPU KVU hr e0 e1 e2
  go_wp2_with fail
  by_cases hm0 : m = 0
  · subst hm0
    refine wp_loop_rounds 1 ?_
    rw [rounds_succ]
    go_wp2_with fail
    refine (awake_any _).mono ?_
    rintro e w10 ⟨rfl, hb10⟩
    have hB10 : Below w.heap.size w w10 := hB9.trans (hb10.mono (by omega))
    go_wp2_with fail
    go_ret
    exact ⟨rfl, hB10⟩
  · obtain ⟨b, off, rfl, _⟩ := hr'.2 0 (by omega)
    go_loopw [8] (fun i wr => ∃ k : Nat, k ≤ m ∧ i = .int .i64 k ∧ wr = w9) (fun i _ => m - (intOf i).toNat)
    case atStart => exact ⟨0, Nat.zero_le _, rfl, rfl⟩
    case round =>
      obtain ⟨k, hk, rfl, rfl⟩ := hrel
      by_cases hlt : k < m
      · have c1 := hr'.at k hlt
        have c2 := hr9.at k hlt
        have ez : (zs.map rn).getD k 0 = rn (zs.getD k 0) := by
          have : k < zs.length := by rw [hr'.1]; exact hlt
          simp [List.getD, this]
        rw [ez, Nat.zero_add] at c2
        generalize zs.getD k 0 = z at *
        clear ez hr' hr9
        have R : (∃ k_1 : Nat, k_1 ≤ m ∧ Value.int IntKind.i64 (↑k + 1) = Value.int IntKind.i64 ↑k_1 ∧ True) ∧ m - (intOf (Value.int IntKind.i64 (↑k + 1))).toNat < m - (intOf (Value.int IntKind.i64 ↑k)).toNat := by
          refine ⟨⟨k + 1, hlt, by go_num, trivial⟩, ?_⟩
          simp [intOf]; omega
        have RR : Hid _ := R
        clear R
        have e3 : (z != z) = false := by simp
        unfold rn at c2
        by_cases q0 : z < 0
        · rw [if_pos (.inl q0)] at c2
          clear e3
          go_wp2_with fail
          exact RR.out
        · by_cases q1 : 1114111 < z
          · rw [if_pos (.inr (.inl q1))] at c2
            clear e3
            go_wp2_with fail
            exact RR.out
          · by_cases q2 : 55296 ≤ z
            · by_cases q3 : z ≤ 57343
              · rw [if_pos (.inr (.inr ⟨q2, q3⟩))] at c2
                clear e3
                go_wp2_with fail
                exact RR.out
              · rw [if_neg (by omega)] at c2
                go_wp2_with fail
                exact RR.out
            · rw [if_neg (by omega)] at c2
              go_wp2_with fail
              exact RR.out
      · go_wp2_with fail
        refine (awake_any _).mono ?_
        rintro e w10 ⟨rfl, hb10⟩
        have hB10 : Below w.heap.size w w10 := hB9.trans (hb10.mono (by omega))
        go_wp2_with fail
        go_ret
        exact ⟨rfl, hB10⟩

theorem rn_pt (n : Int) : ∃ c : Nat, rn n = (c : Int) ∧ pt c := by
  unfold rn
  split
  · exact ⟨65533, rfl, by unfold pt; omega⟩
  · exact ⟨n.toNat, by omega, by unfold pt; omega⟩

theorem rn_of_pt (c : Nat) (h : pt c) : rn (c : Int) = c := by
  unfold rn pt at *
  rw [if_neg (by omega)]

/-- The points of a list of numbers, as natural numbers. -/
def rnN (n : Int) : Nat := (rn n).toNat
theorem rnN_eq (n : Int) : ((rnN n : Nat) : Int) = rn n ∧ pt (rnN n) := by
  obtain ⟨c, h1, h2⟩ := rn_pt n
  unfold rnN
  rw [h1]
  exact ⟨by simp, by simpa using h2⟩

theorem map_rn (zs : List Int) : zs.map rn = (zs.map rnN).map (fun i : Nat => (i : Int)) := by
  rw [List.map_map]
  exact List.map_congr_left (fun z _ => (rnN_eq z).1.symm)

theorem map_rn_dp (s : ByteArray) (l : List Nat) : ((l.map (dp s)).map (fun i : Nat => (i : Int))).map rn = (l.map (dp s)).map (fun i : Nat => (i : Int)) := by
  rw [List.map_map, List.map_map, List.map_map]
  exact List.map_congr_left (fun z _ => rn_of_pt _ (dp_pt s z))

theorem toList_beq (t s : ByteArray) : (t.toList == s.toList) = decide (t = s) := by
  rw [ByteArray.toList_eq, ByteArray.toList_eq]
  by_cases h : t = s
  · subst h; simp
  · rw [decide_eq_false h]
    simp only [beq_eq_false_iff_ne, ne_eq]
    intro hh
    exact h (Go.WideShapes.bytes_inj hh)

theorem back_any (s : ByteArray) (ao : Option Addr) (m cap : Nat) (zs : List Int) (w : World) (hs : s.size ≤ 268435455) (hm : m ≤ 268435455) (hr : Row w ao m zs) :
    Calls Try.prog 6 #[.string s, .slice ao m cap] w fun e w' => e = .returned (.bool true) ∧ Below w.heap.size w w' := by
  have hP := P_len s
  have ht := rb_points ((P s).map (dp s)) (fun c hc => by obtain ⟨i, _, rfl⟩ := List.mem_map.1 hc; exact dp_pt s i)
  have hu := rb_points (zs.map rnN) (fun c hc => by obtain ⟨i, _, rfl⟩ := List.mem_map.1 hc; exact (rnN_eq i).2)
  have et : runesBytes (((P s).map (dp s)).map (fun i : Nat => (i : Int))) = rb ((P s).map (dp s)) := runes_rb _
  have eu : runesBytes (zs.map rn) = rb (zs.map rnN) := by rw [map_rn]; exact runes_rb _
  have zt : (rb ((P s).map (dp s))).size ≤ 2147483647 := by
    rw [← et]
    have := runesBytes_size_le (((P s).map (dp s)).map (fun i : Nat => (i : Int)))
    rw [List.length_map, List.length_map] at this
    omega
  have zu : (rb (zs.map rnN)).size ≤ 2147483647 := by
    rw [← eu]
    have := runesBytes_size_le (zs.map rn)
    have hl := hr.1
    rw [List.length_map] at this
    omega
  have lt : (P (rb ((P s).map (dp s)))).length = (P s).length := by have := congrArg List.length ht.1; simpa using this
  have lu : (P (rb (zs.map rnN))).length = m := by have := congrArg List.length hu.1; simp at this; rw [this, hr.1]
  have vt : vl (rb ((P s).map (dp s))) = true := ht.2
  have vu : vl (rb (zs.map rnN)) = true := hu.2
  refine back_core s (rb ((P s).map (dp s))) (rb (zs.map rnN)) (P s).length m cap (vl s) ao (((P s).map (dp s)).map (fun i : Nat => (i : Int))) zs w hs hm (by omega) hr
    (fun w => points_row s w (by omega)) (fun w g hr => ?_) (fun w => valid_any s w (by omega)) (fun w => ?_) (fun w => ?_) (fun w => count_row s w (by omega)) (fun w hr => ?_) (fun w => ?_) (fun w => ?_) ?_
  · have h := text_row (some ⟨g, 0, none⟩) (P s).length (P s).length _ w (by omega) hr
    rw [map_rn_dp, et] at h
    exact h
  · have h := valid_any (rb ((P s).map (dp s))) w zt
    rw [vt] at h
    exact h
  · have h := count_row (rb ((P s).map (dp s))) w zt
    rw [lt] at h
    exact h
  · have h := text_row ao m cap zs w (by omega) hr
    rw [eu] at h
    exact h
  · have h := points_row (rb (zs.map rnN)) w zu
    rw [lu, hu.1, ← map_rn] at h
    exact h
  · have h := valid_any (rb (zs.map rnN)) w zu
    rw [vu] at h
    exact h
  · rw [toList_beq]
    have := rb_iff s
    unfold vl
    cases hv : (P s).all (gd s) with
    | true => rw [decide_eq_true (this.2 hv)]
    | false => rw [decide_eq_false (fun h => by rw [this.1 h] at hv; cases hv)]
end Go.Proofs.Ytgjbkdnefbnclaa
