import Derived.Test.YtcokccfbeonlnaaDoorGa5
import Derived.Test.YtcokccfbeonlnaaDoorGa4
set_option linter.unusedVariables false
set_option linter.unusedSimpArgs false
namespace Go.Proofs.YtcokccfbeonlnaaDoor
open Go.RowKit

theorem Tryd.info26 : (Tryd.prog.info? 26).map (fun i => (i.zero, i.size, i.bytes)) = some (some (.agg #[.int .u8 0, .string ⟨#[]⟩, .int .i64 0, .int .i64 0, .bool false]), 5, 48) := by kernel_rfl
/-! A row of pieces of the call's own. -/
def Rp (B : Nat) (w : World) (v : Value) (l : List Dc) : Prop := w.ownsRow B 26 5 v l.length (dcs l)
theorem rp_nil (B : Nat) (w : World) : Rp B w (.slice none 0 0) [] := World.ownsRow_nil w B 26 5
theorem Rp.shape {B : Nat} {w : World} {v : Value} {l : List Dc} (h : Rp B w v l) : ∃ p cap, v = .slice p l.length cap ∧ l.length ≤ cap ∧ cap ≤ maxLen := by
  rcases h.2 with ⟨rfl, h0⟩ | ⟨b, cap, cur, rfl, _, h3, h4, h5, _⟩
  · exact ⟨none, 0, by rw [h0], by omega, Nat.zero_le _⟩
  · exact ⟨_, cap, rfl, h4, h5⟩
theorem Rp.own {B : Nat} {w : World} {v : Value} {l : List Dc} (h : Rp B w v l) : ∀ k, v.ownBlock = some k → B ≤ k := by
  intro k hk
  rcases h.2 with ⟨rfl, h0⟩ | ⟨b, cap, cur, rfl, hb, _⟩
  · cases hk
  · simp only [Value.ownBlock, Option.some.injEq] at hk
    omega
theorem Rp.below {B : Nat} {w w' : World} {v : Value} {l : List Dc} (h : Rp B w v l) (hb : Below w.heap.size w w') : Rp B w' v l := by
  refine ⟨h.1, ?_⟩
  rcases h.2 with h1 | ⟨g, cap, cur, rfl, h2, h3, h4⟩
  · exact .inl h1
  · exact .inr ⟨g, cap, cur, rfl, h2, blk_below h3 hb, h4⟩
theorem dcs_app (a b : List Dc) : dcs (a ++ b) = dcs a ++ dcs b := flat_append Dc.cs a b
theorem app_piece {W : World} {ops : Array Oper} {rest : List Oper} {o : Oper} {a : Act} {Q : Exit → Act → World → Prop} (hgd : o.guard = none) (s x : Operand)
    (ho : o.op = .call { callee := .builtin .append, args := #[s, x], argTypes := #[23, 23] }) (B : Nat) (v : Value) (l : List Dc) (d : Dc) (hs : a.eval s = v) (hr : Rp B W v l)
    (g c : Nat) (hx : a.eval x = .slice (some ⟨g, 0, none⟩) 1 c) (hg : W.heap[g]? = some (.cells #[.int .u8 d.k, .string d.t, .int .i64 d.b, .int .i64 d.i, .bool d.e] 26 (0, 0))) (hl : l.length ≤ 1000000000) (hB : B ≤ W.heap.size)
    (h : ∀ v' w', Rp B w' v' (l ++ [d]) → Below B W w' → W.grownBy w' v.ownBlock → (v'.ownBlock = v.ownBlock ∨ v'.ownBlock = some W.heap.size) → wpList Tryd.prog ops Q rest (a.put o.dst v') w') : wpList Tryd.prog ops Q (o :: rest) a W := by
  obtain ⟨i0, hi, hz0, hz1, hz2⟩ := info_parts Tryd.info26
  refine wpList_append_own_at (P := Tryd.prog) (w := W) hgd s x 23 ho B 26 i0 _ 5 48 Tryd.underlying23 hi hz0 hz1 hz2 rfl (by decide) v _ _ hs hr ⟨g, 0, none⟩ 1 c (dcs [d]) hx (by rw [dcs_len]; rfl) ?_ (dcs_one [d]) (by unfold maxLen; omega) (by omega) hB ?_
  · intro j u hu
    refine World.news_of_block hg j u ?_
    have e : dcs [d] = [.int .u8 d.k, .string d.t, .int .i64 d.b, .int .i64 d.i, .bool d.e] := by simp [dcs, flat, Dc.cs]
    rw [e] at hu
    simpa using hu
  · intro v' w' h1 h2 _ h4
    refine h v' w' ?_ ((Below.refl B W).grown h2 hB hr.own) h2 h4
    unfold Rp
    rw [List.length_append, dcs_app]
    exact h1
theorem heap_new2 (w : World) (o1 o2 : Obj) : ((w.alloc o1).alloc o2).heap[w.heap.size + 1]? = some o2 := by
  have := heap_new (w.alloc o1) o2
  rwa [World.size_alloc] at this
theorem rt_size {d : Dc} (h : rt d = true) : d.t.size ≤ 9223372036854775807 := by
  cases rt_of h with
  | text t hq => have := (rtT_len hq).2; show t.size ≤ _; omega
  | brk n hq => exact Nat.zero_le _
  | beg n e hq => exact Nat.zero_le _
  | blank => exact Nat.zero_le _
  | hard => exact Nat.zero_le _
  | empty => exact Nat.zero_le _
  | «end» => exact Nat.zero_le _

end Go.Proofs.YtcokccfbeonlnaaDoor
set_option linter.unusedVariables false
set_option linter.unusedSimpArgs false
namespace Go.Proofs.YtcokccfbeonlnaaDoor
open Go.RowKit

theorem tl_inj {a b : ByteArray} (h : a.toList = b.toList) : a = b := by
  rw [Lib.toList_data, Lib.toList_data] at h
  exact ls_inj h

set_option maxHeartbeats 2000000 in
set_option maxRecDepth 100000 in
theorem same_any (ao bo : Option Addr) (a b : List Dc) (ca cb : Nat) (w : World) (hA : Lay w ao a) (hB : Lay w bo b) (ha : a.length ≤ 9223372036854775807) (hb : b.length ≤ 9223372036854775807) :
    Calls Tryd.prog 12 #[.slice ao a.length ca, .slice bo b.length cb] w fun e w' => e = .returned (.bool (decide (a = b))) ∧ Below w.heap.size w w' := by
  obtain ⟨r, hr⟩ : ∃ r, decide (a = b) = r := ⟨_, rfl⟩
  have HR : Hid (decide (a = b) = r) := hr
  rw [hr]
  clear hr
  by_cases hl : a.length = b.length
  · rw [← hl]
    have HLn : Hid (a.length = b.length) := hl
    clear hl hb
    have HA : Hid (Lay w ao a) := hA
    have HB : Hid (Lay w bo b) := hB
    clear hA hB
    go_enter Tryd.func12, Tryd.ntmps12
    go_wp2_with fail
    go_loopw [5] (fun i wr => ∃ k : Nat, k ≤ a.length ∧ i = .int .i64 k ∧ Hid ((∀ j, j < k → a[j]? = b[j]?) ∧ Below w.heap.size w wr)) (fun i _ => a.length - (intOf i).toNat)
    case atStart => exact ⟨0, by omega, rfl, fun j hj => by omega, Below.refl _ _⟩
    case round =>
      obtain ⟨k, hk, rfl, HI⟩ := hrel
      by_cases hlt : k < a.length
      · have q1 : (k : Int) < a.length := by omega
        have q3 : (0 : Int) ≤ k := by omega
        have hlt2 : k < b.length := by have := HLn.out; omega
        obtain ⟨d, hd⟩ : ∃ d, a[k]? = some d := ⟨_, List.getElem?_eq_getElem hlt⟩
        obtain ⟨d', hd'⟩ : ∃ d, b[k]? = some d := ⟨_, List.getElem?_eq_getElem hlt2⟩
        obtain ⟨_, ba, oa, rfl, c0, c1, c2, c3, c4⟩ := (HA.out.below HI.out.2) k d hd
        obtain ⟨_, bb, ob, rfl, e0, e1, e2, e3, e4⟩ := (HB.out.below HI.out.2) k d' hd'
        have HN : Hid (d ≠ d' → r = false) := fun h => by
          rw [← HR.out, decide_eq_false_iff_not]
          rintro rfl
          rw [hd] at hd'
          exact h (by cases hd'; rfl)
        have HE : Hid (d = d' → (∀ j, j < k + 1 → a[j]? = b[j]?)) := fun h j hj => by
          by_cases e : j = k
          · subst e; rw [hd, hd', h]
          · exact HI.out.1 j (by omega)
        have HW : Hid (Below w.heap.size w wr) := HI.out.2
        clear HI hd hd'
        by_cases hdd : d = d'
        · have HE' : Hid (∀ j, j < k + 1 → a[j]? = b[j]?) := HE.out hdd
          subst hdd
          clear HE HN
          obtain ⟨dk, dt, db, di, de⟩ := d
          simp only at c0 c1 c2 c3 c4 e0 e1 e2 e3 e4
          go_wp2_with fail
          go_quiet (fail)
          go_wp2_with fail
          exact ⟨⟨k + 1, hlt, by go_num, HE'.out, below_drewN HW.out _⟩, by simp [intOf]; omega⟩
        · have HF : Hid (r = false) := HN.out hdd
          have HD : Hid (d ≠ d') := hdd
          clear HE HN hdd
          obtain ⟨dk, dt, db, di, de⟩ := d
          obtain ⟨dk', dt', db', di', de'⟩ := d'
          simp only at c0 c1 c2 c3 c4 e0 e1 e2 e3 e4
          by_cases x0 : dk = dk'
          · subst x0
            by_cases x1 : dt = dt'
            · subst x1
              by_cases x2 : db = db'
              · subst x2
                by_cases x3 : di = di'
                · subst x3
                  by_cases x4 : de = de'
                  · subst x4
                    exact absurd rfl HD.out
                  · clear HD
                    have y4 : (de == de') = false := by simpa using x4
                    go_wp2_with fail
                    go_quiet (fail)
                    go_wp2_with fail
                    go_ret
                    rw [HF.out]
                    exact ⟨rfl, below_drewN HW.out _⟩
                · clear HD
                  have y3 : (di == di') = false := by simpa using x3
                  go_wp2_with fail
                  go_quiet (fail)
                  go_wp2_with fail
                  go_ret
                  rw [HF.out]
                  exact ⟨rfl, below_drewN HW.out _⟩
              · clear HD
                have y2 : (db == db') = false := by simpa using x2
                go_wp2_with fail
                go_quiet (fail)
                go_wp2_with fail
                go_ret
                rw [HF.out]
                exact ⟨rfl, below_drewN HW.out _⟩
            · clear HD
              have y1 := tl_false x1
              clear x1
              go_wp2_with fail
              go_quiet (fail)
              go_wp2_with fail
              go_ret
              rw [HF.out]
              exact ⟨rfl, below_drewN HW.out _⟩
          · clear HD
            have y0 : (dk == dk') = false := by simpa using x0
            go_wp2_with fail
            go_quiet (fail)
            go_wp2_with fail
            go_ret
            rw [HF.out]
            exact ⟨rfl, below_drewN HW.out _⟩
      · obtain rfl : k = a.length := by omega
        have q1 : ¬ ((a.length : Int) < a.length) := by omega
        have HT : Hid (r = true) := by
          show _ = _
          rw [← HR.out, decide_eq_true_eq]
          apply List.ext_getElem?
          intro j
          by_cases hj : j < a.length
          · exact HI.out.1 j hj
          · rw [List.getElem?_eq_none (by omega), List.getElem?_eq_none (by have := HLn.out; omega)]
        have HW : Hid (Below w.heap.size w wr) := HI.out.2
        clear HI
        go_wp2_with fail
        go_ret
        rw [HT.out]
        exact ⟨rfl, HW.out⟩
  · have q0 : ((a.length : Int) != b.length) = true := by
      have : ¬ (a.length : Int) = b.length := by omega
      simp [bne, this]
    have HF : Hid (r = false) := by
      show _ = _
      rw [← HR.out, decide_eq_false_iff_not]
      rintro rfl; exact hl rfl
    clear hA hB
    go_enter Tryd.func12, Tryd.ntmps12
    go_wp2_with fail
    go_ret
    rw [HF.out]
    exact ⟨rfl, Below.refl _ _⟩
end Go.Proofs.YtcokccfbeonlnaaDoor
set_option linter.unusedVariables false
set_option linter.unusedSimpArgs false
namespace Go.Proofs.YtcokccfbeonlnaaDoor
open Go.RowKit

/-! Rows that are as long as what came in. -/
theorem app_row {W : World} {ops : Array Oper} {rest : List Oper} {o : Oper} {a : Act} {Q : Exit → Act → World → Prop} (hgd : o.guard = none) (s x : Operand)
    (ho : o.op = .call { callee := .builtin .append, args := #[s, x], argTypes := #[23, 23] }) (B : Nat) (v : Value) (l ds : List Dc) (hs : a.eval s = v) (hr : Rp B W v l)
    (ad : Addr) (m c : Nat) (hx : a.eval x = .slice (some ad) m c) (hm : ds.length = m) (hg : ∀ j u, (dcs ds)[j]? = some u → W.cell? (ad.add j) = some u) (hl : (l.length + ds.length) * 48 ≤ 140737488355328) (hB : B ≤ W.heap.size)
    (h : ∀ v' w', Rp B w' v' (l ++ ds) → Below B W w' → wpList Tryd.prog ops Q rest (a.put o.dst v') w') : wpList Tryd.prog ops Q (o :: rest) a W := by
  subst hm
  obtain ⟨i0, hi, hz0, hz1, hz2⟩ := info_parts Tryd.info26
  refine wpList_append_own_at (P := Tryd.prog) (w := W) hgd s x 23 ho B 26 i0 _ 5 48 Tryd.underlying23 hi hz0 hz1 hz2 rfl (by decide) v _ _ hs hr ad ds.length c (dcs ds) hx (by rw [dcs_len]) hg (dcs_one ds) (by unfold maxLen; omega) hl hB ?_
  intro v' w' h1 h2 _ h4
  refine h v' w' ?_ ((Below.refl B W).grown h2 hB hr.own)
  unfold Rp
  rw [List.length_append, dcs_app]
  exact h1

def m99 : Dc := ⟨99, bE, 0, 0, false⟩
theorem rp_some {B : Nat} {w : World} {v : Value} {l : List Dc} {d : Dc} (h : Rp B w v (l ++ [d])) : ∃ g c, v = .slice (some ⟨g, 0, none⟩) (l.length + 1) c ∧ l.length + 1 ≤ c ∧ c ≤ 9223372036854775807 := by
  rcases h.2 with ⟨_, h0⟩ | ⟨g, cap, cur, rfl, _, _, h4, h5, _⟩
  · rw [List.length_append] at h0; simp at h0
  · rw [List.length_append] at h4 ⊢
    exact ⟨g, cap, rfl, h4, h5⟩
/-- What the law has lent, in any world behind. -/
structure DSt (w W : World) (g c : Nat) (l : List Dc) : Prop where
  bel : Below w.heap.size w W
  row : Rp w.heap.size W (.slice (some ⟨g, 0, none⟩) (l.length + 1) c) (l ++ [m99])
theorem DSt.below {w W W' : World} {g c : Nat} {l : List Dc} (h : DSt w W g c l) (hb : Below W.heap.size W W') : DSt w W' g c l :=
  ⟨h.bel.trans (hb.mono h.bel.size), h.row.below hb⟩
theorem DSt.lay {w W : World} {g c : Nat} {l : List Dc} (h : DSt w W g c l) (ht : ∀ d ∈ l, d.t.size ≤ 9223372036854775807) : Lay W (some ⟨g, 0, none⟩) l := by
  obtain ⟨ao, cap, hv, _, hL, _, _, _⟩ := Lay.row h.row (fun d hd => by
    rcases List.mem_append.1 hd with h | h
    · exact ht d h
    · simp at h; subst h; exact Nat.zero_le _)
  simp only [Value.slice.injEq] at hv
  obtain ⟨rfl, _, rfl⟩ := hv
  intro j d hd
  refine hL j d ?_
  have := (List.getElem?_eq_some_iff.1 hd).1
  rw [List.getElem?_append_left this]
  exact hd
theorem DSt.mark {w W : World} {g c : Nat} {l : List Dc} (h : DSt w W g c l) (ht : ∀ d ∈ l, d.t.size ≤ 9223372036854775807) : W.cell? ⟨g, l.length * 5, none⟩ = some (.int .u8 99) := by
  obtain ⟨ao, cap, hv, _, hL, _, _, _⟩ := Lay.row h.row (fun d hd => by
    rcases List.mem_append.1 hd with h | h
    · exact ht d h
    · simp at h; subst h; exact Nat.zero_le _)
  simp only [Value.slice.injEq] at hv
  obtain ⟨rfl, _, rfl⟩ := hv
  obtain ⟨_, b, off, e, c0, _⟩ := hL l.length m99 (by simp)
  cases e
  rw [Nat.zero_add] at c0
  exact c0

end Go.Proofs.YtcokccfbeonlnaaDoor
set_option linter.unusedVariables false
set_option linter.unusedSimpArgs false
namespace Go.Proofs.YtcokccfbeonlnaaDoor
open Go.RowKit

/-! A row of bytes of the call's own. -/
def Br (B : Nat) (w : World) (v : Value) (l : List UInt8) : Prop := w.ownsRow B 5 1 v l.length (bc l)
theorem br_nil (B : Nat) (w : World) : Br B w (.slice none 0 0) [] := World.ownsRow_nil w B 5 1
theorem Br.shape {B : Nat} {w : World} {v : Value} {l : List UInt8} (h : Br B w v l) : ∃ p cap, v = .slice p l.length cap ∧ l.length ≤ cap ∧ cap ≤ maxLen := by
  rcases h.2 with ⟨rfl, h0⟩ | ⟨b, cap, cur, rfl, _, h3, h4, h5, _⟩
  · exact ⟨none, 0, by rw [h0], by omega, Nat.zero_le _⟩
  · exact ⟨_, cap, rfl, h4, h5⟩
theorem Br.own {B : Nat} {w : World} {v : Value} {l : List UInt8} (h : Br B w v l) : ∀ k, v.ownBlock = some k → B ≤ k := by
  intro k hk
  rcases h.2 with ⟨rfl, h0⟩ | ⟨b, cap, cur, rfl, hb, _⟩
  · cases hk
  · simp only [Value.ownBlock, Option.some.injEq] at hk
    omega
theorem Br.below {B : Nat} {w w' : World} {v : Value} {l : List UInt8} (h : Br B w v l) (hb : Below w.heap.size w w') : Br B w' v l := by
  refine ⟨h.1, ?_⟩
  rcases h.2 with h1 | ⟨g, cap, cur, rfl, h2, h3, h4⟩
  · exact .inl h1
  · exact .inr ⟨g, cap, cur, rfl, h2, blk_below h3 hb, h4⟩
theorem below_of_grown {B : Nat} {w w' : World} {v : Value} {l : List UInt8} (h : Br B w v l) (hg : w.grownBy w' v.ownBlock) (hB : B ≤ w.heap.size) : Below B w w' :=
  (Below.refl B w).grown hg hB h.own

/-- Nothing below B has turned, and no block but rows of bytes. -/
structure Bw5 (B : Nat) (w w' : World) : Prop where
  bel : Below B w w'
  oth : Lib.OthersKept 5 none w w'
theorem Bw5.refl (B : Nat) (w : World) : Bw5 B w w := ⟨Below.refl _ _, Lib.OthersKept.refl _ _ _⟩
theorem Bw5.trans {B : Nat} {a b c : World} (h : Bw5 B a b) (k : Bw5 B b c) : Bw5 B a c := ⟨h.bel.trans k.bel, h.oth.trans k.oth⟩
theorem Bw5.of_below {B : Nat} {w w' : World} (h : Below w.heap.size w w') (hB : B ≤ w.heap.size) : Bw5 B w w' :=
  ⟨h.mono hB, fun k o hk _ _ => (h.block k (Array.getElem?_eq_some_iff.1 hk).1).trans hk⟩
theorem Bw5.of_grown {B : Nat} {w w' : World} {v : Value} {l : List UInt8} (h : Br B w v l) (hg : w.grownBy w' v.ownBlock) (hB : B ≤ w.heap.size) : Bw5 B w w' := by
  refine ⟨below_of_grown h hg hB, fun k o hk _ ho => ?_⟩
  refine (hg.block k (Array.getElem?_eq_some_iff.1 hk).1 ?_).trans hk
  intro e
  rcases h.2 with ⟨rfl, _⟩ | ⟨b, cap, cur, rfl, _, h3, _⟩
  · cases e
  · simp only [Value.ownBlock, Option.some.injEq] at e
    subst e
    rw [hk] at h3
    cases h3
    exact ho _ _ rfl
theorem Bw5.alloc {B : Nat} {a w : World} (h : Bw5 B a w) (hB : B ≤ a.heap.size) (o : Obj) : Bw5 B a (w.alloc o) := h.trans (Bw5.of_below ((Below.refl _ _).alloc (Nat.le_refl _) _) (Nat.le_trans hB h.bel.size))
theorem Bw5.drew {B : Nat} {a w : World} (h : Bw5 B a w) : Bw5 B a w.drew := ⟨h.bel.drew, h.oth.drew⟩
theorem Bw5.blk {B : Nat} {w w' : World} (h : Bw5 B w w') {g : Nat} {cs : Array Value} {T : TypeId} {f : Nat × Nat} (hg : w.heap[g]? = some (.cells cs T f)) (hT : T ≠ 5) : w'.heap[g]? = some (.cells cs T f) :=
  h.oth g _ hg (by simp) (fun c fz e => by cases e; exact hT rfl)


/-- Bytes behind a row of the call's own. -/
theorem app_bytes {W : World} {ops : Array Oper} {rest : List Oper} {o : Oper} {a : Act} {Q : Exit → Act → World → Prop} (hgd : o.guard = none) (s x : Operand)
    (ho : o.op = .call { callee := .builtin .append, args := #[s, x], argTypes := #[32, 32] }) (B : Nat) (v : Value) (l new : List UInt8) (hs : a.eval s = v) (hr : Br B W v l)
    (g m c : Nat) (hx : a.eval x = .slice (some ⟨g, 0, none⟩) m c) (hm : new.length = m) (hg : W.heap[g]? = some (.cells (bc new).toArray 5 (0, 0))) (hl : l.length + new.length ≤ 1073741824) (hB : B ≤ W.heap.size)
    (h : ∀ v' w', Br B w' v' (l ++ new) → Bw5 B W w' → wpList Tryd.prog ops Q rest (a.put o.dst v') w') : wpList Tryd.prog ops Q (o :: rest) a W := by
  subst hm
  obtain ⟨i0, hi, hz0, hz1, hz2⟩ := info_parts Tryd.info5
  refine wpList_append_own_at (P := Tryd.prog) (w := W) hgd s x 32 ho B 5 i0 (.int .u8 0) 1 1 Tryd.underlying32 hi hz0 hz1 hz2 rfl (by decide) v _ _ hs hr ⟨g, 0, none⟩ new.length c (bc new) hx (by rw [bc_len]; omega) ?_ (bc_one new) (by unfold maxLen; omega) (by omega) hB ?_
  · intro j u hu
    exact World.news_of_block hg j u (by simpa using hu)
  · intro v' w' h1 h2 _ _
    refine h v' w' ?_ (Bw5.of_grown hr h2 hB)
    unfold Br
    rw [List.length_append, bc_app]
    exact h1
theorem app_str {W : World} {ops : Array Oper} {rest : List Oper} {o : Oper} {a : Act} {Q : Exit → Act → World → Prop} (hgd : o.guard = none) (s x : Operand)
    (ho : o.op = .call { callee := .builtin .append, args := #[s, x], argTypes := #[32, 9] }) (B : Nat) (v : Value) (l : List UInt8) (t : ByteArray) (hs : a.eval s = v) (hr : Br B W v l)
    (hx : a.eval x = .string t) (hl : l.length + t.size ≤ 1073741824) (hB : B ≤ W.heap.size)
    (h : ∀ v' w', Br B w' v' (l ++ lsb t) → Bw5 B W w' → wpList Tryd.prog ops Q rest (a.put o.dst v') w') : wpList Tryd.prog ops Q (o :: rest) a W := by
  obtain ⟨i0, hi, hz0, hz1, hz2⟩ := info_parts Tryd.info5
  refine wpList_append_string_at (P := Tryd.prog) (w := W) hgd s x 32 9 ho B 5 i0 Tryd.underlying32 Tryd.underlying9 hi hz0 hz1 hz2 v _ _ hs hr t hx (by unfold maxLen; omega) (by omega) hB ?_
  intro v' w' h1 h2 _
  refine h v' w' ?_ (Bw5.of_grown hr h2 hB)
  unfold Br
  rw [List.length_append, bc_app, ls_len]
  exact h1
/-- The same at a step of a region that draws its order. -/
theorem step_bytes {W : World} {ops : Array Oper} {o : Oper} {a : Act} {K : Act → World → Prop} {Q : Exit → Act → World → Prop} {E : Prop} (hgd : o.guard = none) (s x : Operand)
    (ho : o.op = .call { callee := .builtin .append, args := #[s, x], argTypes := #[32, 32] }) (B : Nat) (v : Value) (l new : List UInt8) (hs : a.eval s = v) (hr : Br B W v l)
    (g m c : Nat) (hx : a.eval x = .slice (some ⟨g, 0, none⟩) m c) (hm : new.length = m) (h0 : 0 < new.length) (hg : W.heap[g]? = some (.cells (bc new).toArray 5 (0, 0))) (hl : l.length + new.length ≤ 1073741824) (hB : B ≤ W.heap.size)
    (h : ∀ g cap w', Br B w' (.slice (some ⟨g, 0, none⟩) (l.length + m) cap) (l ++ new) → Bw5 B W w' → K (a.put o.dst (.slice (some ⟨g, 0, none⟩) (l.length + m) cap)) w') : if Region.wanted o (yielded ops a.tmps) = true then Oper.wp Tryd.prog o a W K Q else E := by
  subst hm
  obtain ⟨i0, hi, hz0, hz1, hz2⟩ := info_parts Tryd.info5
  refine step_append_lies (P := Tryd.prog) W hgd s x 32 ho B 5 i0 (.int .u8 0) 1 1 Tryd.underlying32 hi hz0 hz1 hz2 rfl (by decide) v _ _ hs hr ⟨g, 0, none⟩ new.length c (bc new) hx (by rw [bc_len]; omega) ?_ (bc_one new) h0 (by unfold maxLen; omega) (by omega) hB _ rfl ?_
  · intro j u hu
    exact World.news_of_block hg j u (by simpa using hu)
  · intro g' cap w' h1 h2 _ _
    refine h g' cap w' ?_ (Bw5.of_grown hr h2 hB)
    unfold Br
    rw [List.length_append, bc_app]
    exact h1
end Go.Proofs.YtcokccfbeonlnaaDoor
