import Derived.Test.YtcokccfbeonlnaaDoorLb
import Derived.Test.YtcokccfbeonlnaaDoorGb2
import Derived.Deep.RegionWith
set_option linter.unusedVariables false
set_option linter.unusedSimpArgs false
namespace Go.Proofs.YtcokccfbeonlnaaDoor
open Go.RowKit

def anyF (l : List Dc) : Bool := l.any fun d => hasF d.t
theorem anyF_snoc (l : List Dc) (d : Dc) : anyF (l ++ [d]) = (anyF l || hasF d.t) := by simp [anyF]
theorem cat_snoc (l : List Dc) (d : Dc) : cat (l ++ [d]) = cat l ++ lsb d.t := by simp [cat]
theorem cat_len : ∀ l : List Dc, (cat l).length ≤ lsum l
  | [] => by simp [cat]
  | d :: l => by
    have := cat_len l
    rw [cat_cons, List.length_append, lsum_cons, ls_len]; omega
theorem lsum_take (l : List Dc) (k : Nat) : lsum (l.take k) ≤ lsum l := by
  unfold lsum
  have : (l.map fun d : Dc => d.t.size + 6).sum = ((l.take k).map fun d => d.t.size + 6).sum + ((l.drop k).map fun d => d.t.size + 6).sum := by
    rw [← List.sum_append, ← List.map_append, List.take_append_drop]
  omega
def hasP (t : ByteArray) (j : Nat) : Bool := decide ((10 : UInt8) ∈ (lsb t).take j)
theorem hasP_succ {t : ByteArray} {j : Nat} (h : j < t.size) : hasP t (j + 1) = (hasP t j || decide (t[j] = 10)) := by
  unfold hasP
  rw [List.take_add_one, at_ls' t j h]
  rw [Bool.eq_iff_iff, Bool.or_eq_true, decide_eq_true_eq, decide_eq_true_eq, decide_eq_true_eq, List.mem_append]
  constructor
  · rintro (h1 | h1)
    · exact .inl h1
    · right
      have : (10 : UInt8) = t[j] := by simpa using h1
      exact this.symm
  · rintro (h1 | h1)
    · exact .inl h1
    · right
      rw [h1]; exact List.mem_cons_self
theorem hasP_end (t : ByteArray) : hasP t t.size = hasF t := by
  unfold hasP hasF
  rw [List.take_of_length_le (by rw [ls_len]; exact Nat.le_refl _)]
  rfl

/-- What the law's last loop looks at. -/
theorem lines_at {S : ByteArray} (hnl : NL (lsb S)) (hnb : NB (lsb S)) {k : Nat} (h : k < S.size) :
    (S[k] = 32 → ∃ h' : k + 1 < S.size, S[k + 1] ≠ 10) ∧ (S[k] = 10 → k ≠ 0 ∧ (2 ≤ k → ∀ (h1 : k - 1 < S.size) (h2 : k - 2 < S.size), S[k - 1] = 10 → S[k - 2] ≠ 10)) := by
  constructor
  · intro e
    obtain ⟨c, h1, h2⟩ := hnb k (by rw [at_ls' S k h, e])
    have hlt : k + 1 < S.size := by have := (List.getElem?_eq_some_iff.1 h1).1; rw [ls_len] at this; exact this
    refine ⟨hlt, ?_⟩
    rw [at_ls' S _ hlt] at h1
    cases h1
    exact h2
  · intro e
    obtain ⟨h1, h2⟩ := hnl k (by rw [at_ls' S k h, e])
    refine ⟨h1, fun h3 g1 g2 e1 e2 => h2 ⟨h3, ?_, ?_⟩⟩
    · rw [at_ls' S _ g1, e1]
    · rw [at_ls' S _ g2, e2]

set_option maxHeartbeats 1000000 in
set_option maxRecDepth 100000 in
theorem lines_any (n : Int) (ao : Option Addr) (l : List Dc) (cap : Nat) (w : World) (hL : Lay w ao l) (hT : Tab w) (hlen : l.length ≤ 200000) (hs : lsum l ≤ 1048576) :
    Calls Tryd.prog 5 #[.int .i64 n, .slice ao l.length cap] w fun e w' => e = .returned (.bool true) ∧ Below w.heap.size w w' := by
  have hU : uds l ≤ 268435456 := by have := uds_lsum l; omega
  have HA : Hid (∀ W, Below w.heap.size w W → Calls Tryd.prog 9 #[] W fun e w' => e = .returned (.bool true) ∧ Below w.heap.size w w') := fun W hW => (awake_any W (hT.below hW)).mono fun e w' ⟨a1, a2⟩ => ⟨a1, hW.trans (a2.mono hW.size)⟩
  have HP := print_any n ao l cap w hL hT (by omega) hU
  have HL : Hid (Lay w ao l) := hL
  clear hL hT
  by_cases hz : (wprn n l).2 = 0
  · obtain ⟨hw, hf⟩ : wprn n l = (⟨(wout n.toNat l).toArray⟩, 0) ∧ frm 0 0 l = none := by
      unfold wprn at hz ⊢
      split at hz
      · exact absurd hz (by decide)
      · rename_i h1
        split at hz
        · exact absurd hz (by decide)
        · rename_i h2
          rw [if_neg h1, if_neg h2]
          exact ⟨rfl, by simpa using h2⟩
    have hrt := frm_rt l 0 0 hf
    rw [hw] at HP
    have hbd := (pst_bd (n := n.toNat) hrt l.length).out
    rw [pst_end] at hbd
    obtain ⟨S, hS⟩ : ∃ S : ByteArray, ⟨(wout n.toNat l).toArray⟩ = S := ⟨_, rfl⟩
    have hlS : lsb S = wout n.toNat l := by rw [← hS]; exact ls_mk _
    have hSs : S.size ≤ 268435456 := by rw [← ls_len, hlS]; omega
    simp only [hS] at HP
    have hbr : brf (lsb S) = brf (cat l) := by rw [hlS]; exact wout_brf hrt
    have HLN : Hid (anyF l = false → NL (lsb S) ∧ NB (lsb S)) := by
      intro ha
      rw [hlS]
      refine wout_nb (fun d hd => ⟨hrt d hd, ?_⟩)
      intro h10
      have : anyF l = true := by
        unfold anyF
        rw [List.any_eq_true]
        exact ⟨d, hd, by unfold hasF; exact decide_eq_true h10⟩
      rw [ha] at this; cases this
    obtain ⟨X, hX⟩ : ∃ X : ByteArray, ⟨(brf (cat l)).toArray⟩ = X := ⟨_, rfl⟩
    obtain ⟨C, hC⟩ : ∃ C : ByteArray, ⟨(cat l).toArray⟩ = C := ⟨_, rfl⟩
    have hCs : C.size ≤ 1048576 := by rw [← ls_len, ← hC, ls_mk]; have := cat_len l; omega
    have K : Hid (∀ t W, t = S ∨ t = C → Below w.heap.size w W → Calls Tryd.prog 13 #[.string t] W fun e w' => e = .returned (.string X) ∧ Below w.heap.size w w' ∧ Below W.heap.size W w') := by
      intro t W ht hW
      rcases ht with rfl | rfl
      · exact (bare_any t (by omega) W).mono fun e w' ⟨a1, a2⟩ => ⟨by rw [a1, hbr, hX], hW.trans (a2.mono hW.size), a2⟩
      · exact (bare_any t (by omega) W).mono fun e w' ⟨a1, a2⟩ => ⟨by rw [a1, ← hC, ls_mk, hX], hW.trans (a2.mono hW.size), a2⟩
    have HC : Hid (⟨(cat l).toArray⟩ = C) := hC
    clear hw hf hrt hbd hS hlS hbr hX hC hz
    go_enter Tryd.func5, Tryd.ntmps5
    go_wp2_with fail
    refine HP.mono ?_
    rintro e w1 ⟨rfl, hb1⟩
    have HB1 : Hid (Below w.heap.size w w1) := hb1
    clear hb1 HP
    go_wp2_with fail
    go_loopw [7, 8, 9] (fun v f i wr => ∃ (k : Nat) (b : Bool), k ≤ l.length ∧ i = .int .i64 k ∧ f = .bool b ∧ Hid (b = anyF (l.take k) ∧ Br w.heap.size wr v (cat (l.take k)) ∧ Below w.heap.size w wr)) (fun _ _ i _ => l.length - (intOf i).toNat)
    case atStart => exact ⟨0, false, Nat.zero_le _, rfl, rfl, rfl, br_nil _ _, HB1.out⟩
    case round =>
      obtain ⟨k, b, hk, rfl, rfl, HI⟩ := hrel
      obtain ⟨hbe, hr, hbw⟩ := HI.out
      obtain ⟨p, cp, rfl, hcp1, hcp2⟩ := hr.shape
      have hcl : (cat (l.take k)).length ≤ 1048576 := by have := cat_len (l.take k); have := lsum_take l k; omega
      by_cases hlt : k < l.length
      · have q1 : (k : Int) < l.length := by omega
        have q2 : (0 : Int) ≤ k := by omega
        obtain ⟨d, hd⟩ : ∃ d, l[k]? = some d := ⟨_, List.getElem?_eq_getElem hlt⟩
        obtain ⟨ht, ba, off, rfl, c0, c1, c2, c3, c4⟩ := (HL.out.below hbw) k d hd
        have htk : l.take (k + 1) = l.take k ++ [d] := by rw [List.take_add_one, hd]; rfl
        have hcl2 : (cat (l.take k)).length + d.t.size ≤ 1048576 := by
          have h1 := cat_len (l.take (k + 1))
          have h2 := lsum_take l (k + 1)
          rw [htk, cat_snoc, List.length_append, ls_len] at h1
          rw [htk] at h2
          omega
        have HR : Hid (Br w.heap.size wr (.slice p (cat (l.take k)).length cp) (cat (l.take k)) ∧ Below w.heap.size w wr ∧ b = anyF (l.take k)) := ⟨hr, hbw, hbe⟩
        have HTK : Hid (cat (l.take (k + 1)) = cat (l.take k) ++ lsb d.t ∧ anyF (l.take (k + 1)) = (anyF (l.take k) || hasF d.t)) := by rw [htk]; exact ⟨cat_snoc _ _, anyF_snoc _ _⟩
        obtain ⟨dk, t, db, di, de⟩ := d
        simp only at c1 ht hcl2 HTK
        clear HI hr hbw hbe hd htk c0 c2 c3 c4
        have hts : t.size ≤ 1048576 := by omega
        generalize hCL : cat (l.take k) = CL at *
        generalize hAL : anyF (l.take k) = AL at *
        have hsz : w.heap.size ≤ wr.heap.size := HR.out.2.1.size
        go_wp2_with fail
        obtain ⟨wq, eq⟩ : ∃ wq, wq = wr := ⟨wr, rfl⟩
        rw [← eq]
        go_loopw [8, 11] (fun f i wz => ∃ (j : Nat) (b2 : Bool), j ≤ t.size ∧ i = .int .i64 j ∧ f = .bool b2 ∧ Hid (b2 = (b || hasP t j)) ∧ wz = wq) (fun _ i _ => t.size - (intOf i).toNat)
        case atStart => exact ⟨0, b, Nat.zero_le _, rfl, rfl, by show _ = _; simp [hasP], rfl⟩
        case round =>
          obtain ⟨j, b2, hj, rfl, rfl, HJ, rfl⟩ := hrel
          subst eq
          by_cases hjt : j < t.size
          · have r1 : (j : Int) < t.size := by omega
            have r2 : (0 : Int) ≤ j := by omega
            obtain ⟨c, hc⟩ : ∃ c, t[j] = c := ⟨_, rfl⟩
            have hps := hasP_succ hjt
            rw [hc] at hps
            cases b2
            · by_cases h10 : c = 10
              · subst h10
                have HE : Hid (true = (b || hasP t (j + 1))) := by show _ = _; rw [hps]; simp
                clear HJ hps
                go_wp2_with fail
                exact ⟨⟨j + 1, true, hjt, by go_num, rfl, HE.out, by trivial⟩, by simp [intOf]; omega⟩
              · have n1 : ((c.toNat : Int) == 10) = false := u8_ne c 10 h10
                have HE : Hid (false = (b || hasP t (j + 1))) := by show _ = _; rw [hps, decide_eq_false h10, Bool.or_false]; exact HJ.out
                clear HJ hps
                go_wp2_with fail
                exact ⟨⟨j + 1, false, hjt, by go_num, rfl, HE.out, by trivial⟩, by simp [intOf]; omega⟩
            · have HE : Hid (true = (b || hasP t (j + 1))) := by
                show _ = _
                have := HJ.out
                rw [hps, ← Bool.or_assoc, ← this]; rfl
              clear HJ hps
              go_wp2_with fail
              exact ⟨⟨j + 1, true, hjt, by go_num, rfl, HE.out, by trivial⟩, by simp [intOf]; omega⟩
          · obtain rfl : j = t.size := by omega
            have r1 : ¬ ((t.size : Int) < t.size) := by omega
            have HE : Hid (b2 = anyF (l.take (k + 1))) := by show _ = _; rw [HTK.out.2, ← hasP_end, HJ.out, HR.out.2.2]
            clear HJ
            go_wp2_with (first | (at_builtin; refine app_str rfl _ _ rfl w.heap.size _ CL t rfl HR.out.1 rfl (by omega) hsz ?_; intro v' w' hr' hb'; have hbw' : Below w.heap.size w w' := HR.out.2.1.trans hb'.bel; obtain ⟨p', cp', e', _, _⟩ := hr'.shape; rw [List.length_append, ls_len] at e'; subst e'))
            exact ⟨⟨k + 1, b2, hlt, by go_num, rfl, HE.out, by rw [HTK.out.1]; exact hr', hbw'⟩, by simp [intOf]; omega⟩
      · obtain rfl : k = l.length := by omega
        have q1 : ¬ ((l.length : Int) < l.length) := by omega
        rw [List.take_length] at hbe hr hcl
        rw [List.take_length]
        have HCV : Hid (∀ W, Below wr.heap.size wr W → (convert 32 9 (.slice p (cat l).length cp)).run Tryd.prog W = .ok (.string C) W) := fun W hW => by
          rw [conv_bytes W w.heap.size _ _ (hr.below hW), HC.out]
        have HBW : Hid (∀ W, Below wr.heap.size wr W → Below w.heap.size w W) := fun W hW => hbw.trans (hW.mono hbw.size)
        have HAN : Hid (b = anyF l) := hbe
        have hcv0 := HCV.out wr.drew (Below.refl _ wr).drew
        clear HI hr hbw hbe
        go_wp2_with fail
        go_region_with (first | (go_at_call 13; refine (K.out _ _ (by first | exact .inl rfl | exact .inr rfl) (by first | assumption | exact HBW.out _ (Below.refl _ wr).drew)).mono ?_; rintro e w2 ⟨rfl, hb2, hbb2⟩; (try (have hcv2 := HCV.out _ ((Below.refl _ wr).drew.trans (hbb2.mono (Nat.le_refl _)))))))
        all_goals (
          have HB2 : Hid (Below w.heap.size w w2) := hb2
          clear hb2 hbb2
          cases b
          · obtain ⟨hnl, hnb⟩ := HLN.out HAN.out.symm
            have HN : Hid (NL (lsb S) ∧ NB (lsb S)) := ⟨hnl, hnb⟩
            clear hnl hnb HLN HAN HCV HBW K
            go_wp2_with fail
            go_loopw [12] (fun i wz => ∃ k : Nat, k ≤ S.size ∧ i = .int .i64 k ∧ Hid (Below w.heap.size w wz)) (fun i _ => S.size - (intOf i).toNat)
            case atStart => exact ⟨0, Nat.zero_le _, rfl, HB2.out⟩
            case round =>
              obtain ⟨k, hk, rfl, HZ⟩ := hrel
              by_cases hks : k < S.size
              · have r1 : (k : Int) < S.size := by omega
                have r2 : (0 : Int) ≤ k := by omega
                obtain ⟨g1, g2⟩ := lines_at HN.out.1 HN.out.2 hks
                obtain ⟨c, hc⟩ : ∃ c, S[k] = c := ⟨_, rfl⟩
                rw [hc] at g1 g2
                by_cases h32 : c = 32
                · obtain ⟨hk1, hne⟩ := g1 h32
                  subst h32
                  obtain ⟨c1, hc1⟩ : ∃ c1, S[k + 1] = c1 := ⟨_, rfl⟩
                  rw [hc1] at hne
                  have n1 : ((c1.toNat : Int) == 10) = false := u8_ne c1 10 hne
                  have r3 : ((k : Int) + 1 == S.size) = false := by rw [beq_eq_false_iff_ne]; omega
                  have r4 : (k : Int) + 1 < S.size := by omega
                  clear g1 g2
                  go_wp2_with fail
                  exact ⟨⟨k + 1, hks, by go_num, HZ.out⟩, by simp [intOf]; omega⟩
                have m1 : ((c.toNat : Int) == 32) = false := u8_ne c 32 h32
                clear g1
                by_cases h10 : c = 10
                · obtain ⟨hk0, g3⟩ := g2 h10
                  subst h10
                  have r5 : ((k : Int) == 0) = false := by rw [beq_eq_false_iff_ne]; omega
                  clear g2 h32
                  by_cases hend : k + 1 = S.size
                  · have r3 : ((k : Int) + 1 == S.size) = true := by rw [beq_iff_eq]; omega
                    by_cases hk2 : 2 ≤ k
                    · have r6 : (1 : Int) < k := by omega
                      obtain ⟨ka, hka⟩ : ∃ ka : Nat, k - 1 = ka := ⟨_, rfl⟩
                      obtain ⟨kb, hkb⟩ : ∃ kb : Nat, k - 2 = kb := ⟨_, rfl⟩
                      have ha : ka < S.size := by omega
                      have hb : kb < S.size := by omega
                      have eka : (k : Int) - 1 = ka := by omega
                      have ekb : (k : Int) - 2 = kb := by omega
                      have qa : (ka : Int) < S.size := by omega
                      have qb : (kb : Int) < S.size := by omega
                      have g4 := g3 hk2 (by omega) (by omega)
                      simp only [hka, hkb] at g4
                      obtain ⟨ca, hca⟩ : ∃ c, S[ka] = c := ⟨_, rfl⟩
                      obtain ⟨cb, hcb⟩ : ∃ c, S[kb] = c := ⟨_, rfl⟩
                      rw [hca, hcb] at g4
                      clear g3 hka hkb
                      by_cases ea : ca = 10
                      · have n2 : ((cb.toNat : Int) == 10) = false := u8_ne cb 10 (g4 ea)
                        subst ea
                        clear g4
                        go_wp2_with fail
                        exact ⟨⟨k + 1, hks, by go_num, HZ.out⟩, by simp [intOf]; omega⟩
                      · have n2 : ((ca.toNat : Int) == 10) = false := u8_ne ca 10 ea
                        clear g4
                        go_wp2_with fail
                        exact ⟨⟨k + 1, hks, by go_num, HZ.out⟩, by simp [intOf]; omega⟩
                    · have r6 : ¬ (1 : Int) < k := by omega
                      clear g3
                      go_wp2_with fail
                      exact ⟨⟨k + 1, hks, by go_num, HZ.out⟩, by simp [intOf]; omega⟩
                  · have r3 : ((k : Int) + 1 == S.size) = false := by rw [beq_eq_false_iff_ne]; omega
                    have r4 : (k : Int) + 1 < S.size := by omega
                    have hk1 : k + 1 < S.size := by omega
                    obtain ⟨c1, hc1⟩ : ∃ c1, S[k + 1] = c1 := ⟨_, rfl⟩
                    obtain ⟨b1, hb1⟩ : ∃ b1, ((c1.toNat : Int) == 10) = b1 := ⟨_, rfl⟩
                    by_cases hk2 : 2 ≤ k
                    · have r6 : (1 : Int) < k := by omega
                      obtain ⟨ka, hka⟩ : ∃ ka : Nat, k - 1 = ka := ⟨_, rfl⟩
                      obtain ⟨kb, hkb⟩ : ∃ kb : Nat, k - 2 = kb := ⟨_, rfl⟩
                      have ha : ka < S.size := by omega
                      have hb : kb < S.size := by omega
                      have eka : (k : Int) - 1 = ka := by omega
                      have ekb : (k : Int) - 2 = kb := by omega
                      have qa : (ka : Int) < S.size := by omega
                      have qb : (kb : Int) < S.size := by omega
                      have g4 := g3 hk2 (by omega) (by omega)
                      simp only [hka, hkb] at g4
                      obtain ⟨ca, hca⟩ : ∃ c, S[ka] = c := ⟨_, rfl⟩
                      obtain ⟨cb, hcb⟩ : ∃ c, S[kb] = c := ⟨_, rfl⟩
                      rw [hca, hcb] at g4
                      clear g3 hka hkb
                      by_cases ea : ca = 10
                      · have n2 : ((cb.toNat : Int) == 10) = false := u8_ne cb 10 (g4 ea)
                        subst ea
                        clear g4
                        go_wp2_with fail
                        exact ⟨⟨k + 1, hks, by go_num, HZ.out⟩, by simp [intOf]; omega⟩
                      · have n2 : ((ca.toNat : Int) == 10) = false := u8_ne ca 10 ea
                        clear g4
                        go_wp2_with fail
                        exact ⟨⟨k + 1, hks, by go_num, HZ.out⟩, by simp [intOf]; omega⟩
                    · have r6 : ¬ (1 : Int) < k := by omega
                      clear g3
                      go_wp2_with fail
                      exact ⟨⟨k + 1, hks, by go_num, HZ.out⟩, by simp [intOf]; omega⟩
                · have n1 : ((c.toNat : Int) == 10) = false := u8_ne c 10 h10
                  clear g2
                  by_cases hend : k + 1 = S.size
                  · have r3 : ((k : Int) + 1 == S.size) = true := by rw [beq_iff_eq]; omega
                    go_wp2_with fail
                    exact ⟨⟨k + 1, hks, by go_num, HZ.out⟩, by simp [intOf]; omega⟩
                  · have r3 : ((k : Int) + 1 == S.size) = false := by rw [beq_eq_false_iff_ne]; omega
                    have r4 : (k : Int) + 1 < S.size := by omega
                    have hk1 : k + 1 < S.size := by omega
                    obtain ⟨c1, hc1⟩ : ∃ c1, S[k + 1] = c1 := ⟨_, rfl⟩
                    obtain ⟨b1, hb1⟩ : ∃ b1, ((c1.toNat : Int) == 10) = b1 := ⟨_, rfl⟩
                    go_wp2_with fail
                    exact ⟨⟨k + 1, hks, by go_num, HZ.out⟩, by simp [intOf]; omega⟩
              · obtain rfl : k = S.size := by omega
                have r1 : ¬ ((S.size : Int) < S.size) := by omega
                go_wp2_with (go_at_call 9; refine (HA.out _ HZ.out).mono ?_; rintro e w5 ⟨rfl, hb5⟩)
                go_ret
                exact ⟨rfl, hb5⟩
          · go_wp2_with (go_at_call 9; refine (HA.out _ HB2.out).mono ?_; rintro e w5 ⟨rfl, hb5⟩)
            go_ret
            exact ⟨rfl, hb5⟩)
  · obtain ⟨Z, hw, hz2⟩ : ∃ Z, wprn n l = (⟨#[]⟩, Z) ∧ (Z != 0) = true := by
      unfold wprn at hz ⊢
      by_cases h1 : n < 1 ∨ 4096 < n
      · exact ⟨1, if_pos h1, rfl⟩
      · by_cases h2 : frm 0 0 l ≠ none
        · exact ⟨70, by rw [if_neg h1, if_pos h2], rfl⟩
        · exfalso; apply hz; rw [if_neg h1, if_neg h2]
    rw [hw] at HP
    have HP2 : Hid (Calls Tryd.prog 10 #[.int .i64 n, .slice ao l.length cap] w fun e w' => e = .returned (.tuple #[.string ⟨#[]⟩, .int .i64 Z]) ∧ Below w.heap.size w w') := HP
    clear HP hw hz
    go_enter Tryd.func5, Tryd.ntmps5
    go_wp2_with fail
    refine HP2.out.mono ?_
    rintro e w1 ⟨rfl, hb1⟩
    go_wp2_with (go_at_call 9; refine (HA.out _ hb1).mono ?_; rintro e w5 ⟨rfl, hb5⟩)
    go_ret
    exact ⟨rfl, hb5⟩
end Go.Proofs.YtcokccfbeonlnaaDoor
