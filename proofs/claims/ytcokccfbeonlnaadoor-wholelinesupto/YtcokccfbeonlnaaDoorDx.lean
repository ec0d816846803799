import Derived.Test.YtcokccfbeonlnaaDoorDw
set_option linter.unusedVariables false
set_option linter.unusedSimpArgs false
namespace Go.Proofs.YtcokccfbeonlnaaDoor
open Go.RowKit

theorem tl_inj {a b : ByteArray} (h : a.toList = b.toList) : a = b := by
  rw [Lib.toList_data, Lib.toList_data] at h
  exact ls_inj h

set_option maxHeartbeats 2000000 in
set_option maxRecDepth 100000 in
theorem same_any (ao bo : Option Addr) (a b : List Dc) (ca cb : Nat) (w : World) (hA : Lay w ao a) (hB : Lay w bo b) (ha : a.length ≤ 9223372036854775807) (hb : b.length ≤ 9223372036854775807) :
    Calls Tryd.prog 12 #[.slice ao a.length ca, .slice bo b.length cb] w fun e w' => e = .returned (.bool (decide (a = b))) ∧ Below w.heap.size w w' := by
  obtain ⟨r, hr⟩ : ∃ r, decide (a = b) = r := ⟨_, rfl⟩
  have HR : Hid (decide (a = b) = r) := hr
  rw [hr]
  clear hr
  by_cases hl : a.length = b.length
  · rw [← hl]
    have HLn : Hid (a.length = b.length) := hl
    clear hl hb
    have HA : Hid (Lay w ao a) := hA
    have HB : Hid (Lay w bo b) := hB
    clear hA hB
    go_enter Tryd.func12, Tryd.ntmps12
    go_wp2_with fail
    go_loopw [5] (fun i wr => ∃ k : Nat, k ≤ a.length ∧ i = .int .i64 k ∧ Hid ((∀ j, j < k → a[j]? = b[j]?) ∧ Below w.heap.size w wr)) (fun i _ => a.length - (intOf i).toNat)
    case atStart => exact ⟨0, by omega, rfl, fun j hj => by omega, Below.refl _ _⟩
    case round =>
      obtain ⟨k, hk, rfl, HI⟩ := hrel
      by_cases hlt : k < a.length
      · have q1 : (k : Int) < a.length := by omega
        have q3 : (0 : Int) ≤ k := by omega
        have hlt2 : k < b.length := by have := HLn.out; omega
        obtain ⟨d, hd⟩ : ∃ d, a[k]? = some d := ⟨_, List.getElem?_eq_getElem hlt⟩
        obtain ⟨d', hd'⟩ : ∃ d, b[k]? = some d := ⟨_, List.getElem?_eq_getElem hlt2⟩
        obtain ⟨_, ba, oa, rfl, c0, c1, c2, c3, c4⟩ := (HA.out.below HI.out.2) k d hd
        obtain ⟨_, bb, ob, rfl, e0, e1, e2, e3, e4⟩ := (HB.out.below HI.out.2) k d' hd'
        have HN : Hid (d ≠ d' → r = false) := fun h => by
          rw [← HR.out, decide_eq_false_iff_not]
          rintro rfl
          rw [hd] at hd'
          exact h (by cases hd'; rfl)
        have HE : Hid (d = d' → (∀ j, j < k + 1 → a[j]? = b[j]?)) := fun h j hj => by
          by_cases e : j = k
          · subst e; rw [hd, hd', h]
          · exact HI.out.1 j (by omega)
        have HW : Hid (Below w.heap.size w wr) := HI.out.2
        clear HI hd hd'
        by_cases hdd : d = d'
        · have HE' : Hid (∀ j, j < k + 1 → a[j]? = b[j]?) := HE.out hdd
          subst hdd
          clear HE HN
          obtain ⟨dk, dt, db, di, de⟩ := d
          simp only at c0 c1 c2 c3 c4 e0 e1 e2 e3 e4
          go_wp2_with fail
          go_quiet (fail)
          go_wp2_with fail
          exact ⟨⟨k + 1, hlt, by go_num, HE'.out, below_drewN HW.out _⟩, by simp [intOf]; omega⟩
        · have HF : Hid (r = false) := HN.out hdd
          have HD : Hid (d ≠ d') := hdd
          clear HE HN hdd
          obtain ⟨dk, dt, db, di, de⟩ := d
          obtain ⟨dk', dt', db', di', de'⟩ := d'
          simp only at c0 c1 c2 c3 c4 e0 e1 e2 e3 e4
          by_cases x0 : dk = dk'
          · subst x0
            by_cases x1 : dt = dt'
            · subst x1
              by_cases x2 : db = db'
              · subst x2
                by_cases x3 : di = di'
                · subst x3
                  by_cases x4 : de = de'
                  · subst x4
                    exact absurd rfl HD.out
                  · clear HD
                    have y4 : (de == de') = false := by simpa using x4
                    go_wp2_with fail
                    go_quiet (fail)
                    go_wp2_with fail
                    go_ret
                    rw [HF.out]
                    exact ⟨rfl, below_drewN HW.out _⟩
                · clear HD
                  have y3 : (di == di') = false := by simpa using x3
                  go_wp2_with fail
                  go_quiet (fail)
                  go_wp2_with fail
                  go_ret
                  rw [HF.out]
                  exact ⟨rfl, below_drewN HW.out _⟩
              · clear HD
                have y2 : (db == db') = false := by simpa using x2
                go_wp2_with fail
                go_quiet (fail)
                go_wp2_with fail
                go_ret
                rw [HF.out]
                exact ⟨rfl, below_drewN HW.out _⟩
            · clear HD
              have y1 := tl_false x1
              clear x1
              go_wp2_with fail
              go_quiet (fail)
              go_wp2_with fail
              go_ret
              rw [HF.out]
              exact ⟨rfl, below_drewN HW.out _⟩
          · clear HD
            have y0 : (dk == dk') = false := by simpa using x0
            go_wp2_with fail
            go_quiet (fail)
            go_wp2_with fail
            go_ret
            rw [HF.out]
            exact ⟨rfl, below_drewN HW.out _⟩
      · obtain rfl : k = a.length := by omega
        have q1 : ¬ ((a.length : Int) < a.length) := by omega
        have HT : Hid (r = true) := by
          show _ = _
          rw [← HR.out, decide_eq_true_eq]
          apply List.ext_getElem?
          intro j
          by_cases hj : j < a.length
          · exact HI.out.1 j hj
          · rw [List.getElem?_eq_none (by omega), List.getElem?_eq_none (by have := HLn.out; omega)]
        have HW : Hid (Below w.heap.size w wr) := HI.out.2
        clear HI
        go_wp2_with fail
        go_ret
        rw [HT.out]
        exact ⟨rfl, HW.out⟩
  · have q0 : ((a.length : Int) != b.length) = true := by
      have : ¬ (a.length : Int) = b.length := by omega
      simp [bne, this]
    have HF : Hid (r = false) := by
      show _ = _
      rw [← HR.out, decide_eq_false_iff_not]
      rintro rfl; exact hl rfl
    clear hA hB
    go_enter Tryd.func12, Tryd.ntmps12
    go_wp2_with fail
    go_ret
    rw [HF.out]
    exact ⟨rfl, Below.refl _ _⟩
end Go.Proofs.YtcokccfbeonlnaaDoor
