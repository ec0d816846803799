import Derived.Test.YtmjhfabdbajchaaGreatDoorHa4
import Derived.Test.YtmjhfabdbajchaaGreatDoorG7
import Derived.Laws.AppendOwnNone
import Derived.Test.YtmjhfabdbajchaaGreatDoorHa9
import Derived.Test.YtmjhfabdbajchaaGreatDoorG8
import Derived.Test.YtmjhfabdbajchaaGreatDoorHb3
set_option linter.unusedVariables false
set_option linter.unusedSimpArgs false
namespace Go.Proofs.YtmjhfabdbajchaaGreatDoor
open Go.RowKit

/-- Pieces that came in, nil or not, behind a row of one's own. -/
theorem app_lay {W : World} {ops : Array Oper} {rest : List Oper} {o : Oper} {a : Act} {Q : Exit → Act → World → Prop} (hgd : o.guard = none) (s x : Operand)
    (ho : o.op = .call { callee := .builtin .append, args := #[s, x], argTypes := #[42, 42] }) (B : Nat) (v : Value) (l ds : List Dc) (hs : a.eval s = v) (hr : Rp B W v l)
    (ao : Option Addr) (c : Nat) (hx : a.eval x = .slice ao ds.length c) (hL : Lay W ao ds) (hn : ao = none → ds.length = 0) (hl : (l.length + ds.length) * 48 ≤ 140737488355328) (hB : B ≤ W.heap.size)
    (h : ∀ v' w', Rp B w' v' (l ++ ds) → Below B W w' → wpList Tryz.prog ops Q rest (a.put o.dst v') w') : wpList Tryz.prog ops Q (o :: rest) a W := by
  cases ao with
  | none =>
    obtain rfl : ds = [] := List.eq_nil_of_length_eq_zero (hn rfl)
    obtain ⟨i0, hi, hz0, hz1, hz2⟩ := info_parts Tryz.info37
    refine wpList_plain hgd fun K hK => ?_
    have hrun : (Builtin.append_ #[42, 42] o.type #[v, .slice none 0 c]).run Tryz.prog W = .ok v W := by
      rcases hr.2 with ⟨rfl, h0⟩ | ⟨g, cap, cur, rfl, _, _, hnc, _⟩
      · simp [Builtin.append_, run_underlying Tryz.underlying42, sizeOf, typeInfo, hi, Builtin.lenOf, Builtin.firstCells, h0]
      · simp [Builtin.append_, run_underlying Tryz.underlying42, sizeOf, typeInfo, hi, Builtin.lenOf, Builtin.firstCells, hnc, storeCells]
    unfold Oper.wp
    simp [execOp, ho, resolve, invoke, builtin, hs, hx, hrun, Result.andThen]
    exact hK _ _ (h v W (by rw [List.append_nil]; exact hr) (Below.refl _ _))
  | some ad => exact app_row hgd s x ho B v l ds hs hr ad ds.length c hx rfl hL.cells hl hB h
theorem clf_snoc : ∀ (l : List Dc) (o : Nat) (d : Dc), clf o (l ++ [d]) = if rt d = true ∧ ¬ (d.k = 7 ∧ (clf o l).2 = 0) then ((clf o l).1 ++ [d], dn d.k (clf o l).2) else clf o l
  | [], o, d => by
    show clf o [d] = if rt d = true ∧ ¬ (d.k = 7 ∧ o = 0) then ([d], dn d.k o) else ([], o)
    simp only [clf]
  | x :: l, o, d => by
    rw [List.cons_append, clf, clf]
    split
    · rw [clf_snoc l (dn x.k o) d]
      split <;> rfl
    · exact clf_snoc l o d
theorem clf_len : ∀ (l : List Dc) (o : Nat), (clf o l).1.length ≤ l.length ∧ (clf o l).2 ≤ o + l.length
  | [], o => ⟨Nat.le_refl _, by simp [clf]⟩
  | d :: r, o => by
    rw [clf]
    split
    · obtain ⟨h1, h2⟩ := clf_len r (dn d.k o)
      have e : dn d.k o ≤ o + 1 := by unfold dn; split; omega; split <;> omega
      simp only [List.length_cons]; omega
    · obtain ⟨h1, h2⟩ := clf_len r o
      simp only [List.length_cons]; omega
/-- A row of pieces beside one that stands. -/
structure Two9 (B : Nat) (w W : World) (va vo : Value) (all out : List Dc) : Prop where
  ra : Rp B W va all
  ro : Rp B W vo out
  ne : vo.ownBlock = none ∨ vo.ownBlock ≠ va.ownBlock
  be : Below w.heap.size w W
theorem Two9.below {B : Nat} {w W W' : World} {va vo : Value} {all out : List Dc} (h : Two9 B w W va vo all out) (hb : Below W.heap.size W W') : Two9 B w W' va vo all out := ⟨h.ra.below hb, h.ro.below hb, h.ne, h.be.trans (hb.mono h.be.size)⟩
theorem Two9.grow {B : Nat} {w W w' : World} {va vo vo' : Value} {all out out' : List Dc} (h : Two9 B w W va vo all out) (hB : B = w.heap.size) (hr : Rp B w' vo' out') (hg : W.grownBy w' vo.ownBlock) (hbb : Below B W w') (hat : vo'.ownBlock = vo.ownBlock ∨ vo'.ownBlock = some W.heap.size) : Two9 B w w' va vo' all out' := by
  refine ⟨?_, hr, ?_, h.be.trans (by rw [← hB]; exact hbb)⟩
  · refine World.ownsRow.kept h.ra hg ?_
    rcases h.ne with e | e
    · rw [e]
      rcases h.ra.2 with ⟨rfl, _⟩ | ⟨q, c, cur, rfl, _⟩
      · exact .inl rfl
      · exact .inr (by simp [Value.ownBlock])
    · exact .inr (fun e2 => e e2.symm)
  · rcases hat with e | e
    · rw [e]; exact h.ne
    · right
      rw [e]
      intro e2
      have := (World.ownsRow.lt h.ra _ e2.symm).2
      omega

set_option maxHeartbeats 4000000 in
set_option maxRecDepth 100000 in
theorem closed_any (ao bo : Option Addr) (l m : List Dc) (cap bcap : Nat) (W : World) (hL : Lay W ao l) (hM : Lay W bo m) (hn1 : ao = none → l.length = 0) (hn2 : bo = none → m.length = 0) (hlen : l.length + m.length ≤ 10000000) :
    Calls Tryz.prog 13 #[.slice ao l.length cap, .slice bo m.length bcap] W fun e w' => ∃ v, e = .returned v ∧ Rp W.heap.size w' v (clo (l ++ m)) ∧ Below W.heap.size W w' := by
  have hts : ∀ d ∈ l ++ m, d.t.size ≤ 9223372036854775807 := fun d hd => by
    rcases List.mem_append.1 hd with h | h
    · obtain ⟨j, hj⟩ := List.getElem?_of_mem h; exact (hL j d hj).1
    · obtain ⟨j, hj⟩ := List.getElem?_of_mem h; exact (hM j d hj).1
  have HM : Hid (∀ V, Below W.heap.size W V → Lay V bo m) := fun V hV => hM.below hV
  have HL : Hid (Lay W ao l) := hL
  obtain ⟨A, hA⟩ : ∃ A, l ++ m = A := ⟨_, rfl⟩
  have hAl : A.length ≤ 10000000 := by rw [← hA, List.length_append]; exact hlen
  rw [hA] at hts ⊢
  have HTS : Hid (∀ d ∈ A, d.t.size ≤ 9223372036854775807) := hts
  have HA : Hid (l ++ m = A) := hA
  clear hL hM hts hA
  go_enter Tryz.func13, Tryz.ntmps13
  go_wp2_with (at_builtin; refine app_lay rfl _ _ rfl W.heap.size (.slice none 0 0) [] l rfl (rp_nil _ _) ao cap rfl HL.out hn1 (by simp only [List.length_nil]; omega) (Nat.le_refl _) ?_)
  intro v1 w1 hr1 hb1
  obtain ⟨p1, c1, rfl, _, _⟩ := hr1.shape
  have H1 : Hid (Rp W.heap.size w1 (.slice p1 l.length c1) l ∧ Below W.heap.size W w1) := ⟨hr1, hb1⟩
  clear hr1 hb1
  go_wp2_with (at_builtin; refine app_lay rfl _ _ rfl W.heap.size (.slice p1 l.length c1) l m rfl H1.out.1 bo bcap rfl (HM.out _ H1.out.2) hn2 (by omega) H1.out.2.size ?_)
  intro v2 w2 hr2 hb2
  rw [HA.out] at hr2
  obtain ⟨p2, c2, rfl, _, _⟩ := hr2.shape
  have H2 : Hid (Two9 W.heap.size W w2 (.slice p2 A.length c2) (.slice none 0 0) A []) := ⟨hr2, rp_nil _ _, .inl rfl, H1.out.2.trans hb2⟩
  clear hr2 hb2 H1
  go_wp2_with fail
  go_loopw [6, 7, 8] (fun vo o i wr => ∃ (k dp : Nat), k ≤ A.length ∧ o = .int .i64 dp ∧ i = .int .i64 k ∧ dp ≤ k ∧ Hid ((clf 0 (A.take k)).2 = dp ∧ Two9 W.heap.size W wr (.slice p2 A.length c2) vo A (clf 0 (A.take k)).1)) (fun _ _ i _ => A.length - (intOf i).toNat)
  case atStart => exact ⟨0, 0, Nat.zero_le _, rfl, rfl, Nat.le_refl _, rfl, H2.out⟩
  case round =>
    obtain ⟨k, dp, hk, rfl, rfl, hdk, HI⟩ := hrel
    obtain ⟨hdp, h2⟩ := HI.out
    have hol : (clf 0 (A.take k)).1.length ≤ 10000000 := by have := (clf_len (A.take k) 0).1; rw [List.length_take] at this; omega
    obtain ⟨O, hO⟩ : ∃ O, (clf 0 (A.take k)).1 = O := ⟨_, rfl⟩
    rw [hO] at h2 hol
    obtain ⟨po, co, rfl, _, _⟩ := h2.ro.shape
    by_cases hlt : k < A.length
    · have q1 : (k : Int) < A.length := by omega
      have q2 : (0 : Int) ≤ k := by omega
      obtain ⟨d, hd⟩ : ∃ d, A[k]? = some d := ⟨_, List.getElem?_eq_getElem hlt⟩
      have htk : A.take (k + 1) = A.take k ++ [d] := by rw [List.take_add_one, hd]; rfl
      have hsn := clf_snoc (A.take k) 0 d
      rw [← htk, hdp] at hsn
      obtain ⟨ao2, cap2, hv, _, hLA, _, _, _⟩ := Lay.row h2.ra HTS.out
      simp only [Value.slice.injEq] at hv
      obtain ⟨rfl, _, rfl⟩ := hv
      obtain ⟨ht, b, off, rfl, c0', c1', c2', c3', c4'⟩ := hLA k d hd
      have HR : Hid (∀ V, Calls Tryz.prog 25 #[.agg #[.int .u8 d.k, .string d.t, .int .i64 d.b, .int .i64 d.i, .bool d.e]] V fun e w' => e = .returned (.bool (rt d)) ∧ Below V.heap.size V w') := fun V => rright_any d ht V
      have hcl0 : clf 0 (A.take k) = (O, dp) := by rw [← hO, ← hdp]
      rw [hcl0] at hsn
      have HSN : Hid (clf 0 (A.take (k + 1)) = if rt d = true ∧ ¬ (d.k = 7 ∧ dp = 0) then (O ++ [d], dn d.k dp) else (O, dp)) := hsn
      have HT : Hid (∀ V, Below wr.heap.size wr V → Two9 W.heap.size W V (.slice (some ⟨b, off, none⟩) A.length c2) (.slice po O.length co) A O) := fun V hV => h2.below hV
      have HC : Hid (∀ V, Below wr.heap.size wr V → V.cell? ⟨b, off + k * 5, none⟩ = some (.int .u8 d.k) ∧ V.cell? ⟨b, off + k * 5 + 1, none⟩ = some (.string d.t) ∧ V.cell? ⟨b, off + k * 5 + 2, none⟩ = some (.int .i64 d.b) ∧ V.cell? ⟨b, off + k * 5 + 3, none⟩ = some (.int .i64 d.i) ∧ V.cell? ⟨b, off + k * 5 + 4, none⟩ = some (.bool d.e)) := fun V hV => ⟨(hV.cell (World.block_lt_of_cell? _ _ c0')).trans c0', (hV.cell (World.block_lt_of_cell? _ _ c1')).trans c1', (hV.cell (World.block_lt_of_cell? _ _ c2')).trans c2', (hV.cell (World.block_lt_of_cell? _ _ c3')).trans c3', (hV.cell (World.block_lt_of_cell? _ _ c4')).trans c4'⟩
      obtain ⟨rr, hrr⟩ : ∃ rr, rt d = rr := ⟨_, rfl⟩
      rw [hrr] at HR HSN
      clear HI h2 hd htk hsn hLA hcl0 hO hdp hrr ht
      obtain ⟨dk, dt, db, di, de⟩ := d
      simp only at c0' c1' c2' c3' c4' HR HSN HC
      cases rr with
      | false =>
        have HS : Hid (clf 0 (A.take (k + 1)) = (O, dp)) := by show _ = _; rw [HSN.out, if_neg (by simp)]
        clear HSN
        go_wp2_with (go_at_call 25; refine (HR.out _).mono ?_; rintro e w3 ⟨rfl, hb3⟩; have T3 : Hid (Two9 W.heap.size W w3 (.slice (some ⟨b, off, none⟩) A.length c2) (.slice po O.length co) A O) := HT.out _ hb3; obtain ⟨x0, x1, x2, x3, x4⟩ := HC.out _ hb3; have HC3 : Hid (∀ o, (w3.alloc o).cell? ⟨b, off + k * 5, none⟩ = some (.int .u8 dk)) := (fun o => (HC.out _ (hb3.trans (((Below.refl _ w3).alloc (Nat.le_refl _) o).mono hb3.size))).1); clear hb3)
        exact ⟨⟨k + 1, dp, hlt, rfl, by go_num, by omega, by show _ ∧ _; rw [HS.out]; exact ⟨rfl, T3.out⟩⟩, by simp [intOf]; omega⟩
      | true =>
        by_cases h6 : dk = 6
        · subst h6
          have HS : Hid (clf 0 (A.take (k + 1)) = (O ++ [⟨6, dt, db, di, de⟩], dp + 1)) := by show _ = _; rw [HSN.out, if_pos ⟨rfl, by simp⟩]; rfl
          clear HSN
          go_wp2_with (first | (go_at_call 25; refine (HR.out _).mono ?_; rintro e w3 ⟨rfl, hb3⟩; have T3 : Hid (Two9 W.heap.size W w3 (.slice (some ⟨b, off, none⟩) A.length c2) (.slice po O.length co) A O) := HT.out _ hb3; obtain ⟨x0, x1, x2, x3, x4⟩ := HC.out _ hb3; have HC3 : Hid (∀ o, (w3.alloc o).cell? ⟨b, off + k * 5, none⟩ = some (.int .u8 6)) := (fun o => (HC.out _ (hb3.trans (((Below.refl _ w3).alloc (Nat.le_refl _) o).mono hb3.size))).1); clear hb3) | (at_builtin; refine app_piece rfl _ _ rfl W.heap.size _ O ⟨6, dt, db, di, de⟩ rfl (T3.out.below ((Below.refl _ w3).alloc (Nat.le_refl _) _)).ro _ 1 rfl (new_at w3 _) (by omega) (T3.out.below ((Below.refl _ w3).alloc (Nat.le_refl _) _)).be.size ?_; intro v4 w4 hr4 hb4 hg4 hat4; have T4 : Hid (Two9 W.heap.size W w4 (.slice (some ⟨b, off, none⟩) A.length c2) v4 A (O ++ [⟨6, dt, db, di, de⟩])) := (T3.out.below ((Below.refl _ w3).alloc (Nat.le_refl _) _)).grow rfl hr4 hg4 hb4 hat4; clear hr4 hb4 hg4 hat4))
          exact ⟨⟨k + 1, dp + 1, hlt, by first | rfl | go_num, by go_num, by omega, by show _ ∧ _; rw [HS.out]; exact ⟨rfl, T4.out⟩⟩, by simp [intOf]; omega⟩
        by_cases h7 : dk = 7
        · subst h7
          by_cases hz : dp = 0
          · subst hz
            have HS : Hid (clf 0 (A.take (k + 1)) = (O, 0)) := by show _ = _; rw [HSN.out, if_neg (by simp)]
            clear HSN
            go_wp2_with (go_at_call 25; refine (HR.out _).mono ?_; rintro e w3 ⟨rfl, hb3⟩; have T3 : Hid (Two9 W.heap.size W w3 (.slice (some ⟨b, off, none⟩) A.length c2) (.slice po O.length co) A O) := HT.out _ hb3; obtain ⟨x0, x1, x2, x3, x4⟩ := HC.out _ hb3; have HC3 : Hid (∀ o, (w3.alloc o).cell? ⟨b, off + k * 5, none⟩ = some (.int .u8 7)) := (fun o => (HC.out _ (hb3.trans (((Below.refl _ w3).alloc (Nat.le_refl _) o).mono hb3.size))).1); clear hb3)
            exact ⟨⟨k + 1, 0, hlt, rfl, by go_num, by omega, by show _ ∧ _; rw [HS.out]; exact ⟨rfl, T3.out⟩⟩, by simp [intOf]; omega⟩
          · obtain ⟨dq, rfl⟩ : ∃ dq, dp = dq + 1 := ⟨dp - 1, by omega⟩
            have HS : Hid (clf 0 (A.take (k + 1)) = (O ++ [⟨7, dt, db, di, de⟩], dq)) := by show _ = _; rw [HSN.out, if_pos ⟨rfl, by simp⟩]; rfl
            have q5 : ((dq : Int) + 1 == 0) = false := by simp; omega
            have q6 : ¬ ((dq : Int) + 1 = 0) := by omega
            clear HSN
            go_wp2_with (first | (go_at_call 25; refine (HR.out _).mono ?_; rintro e w3 ⟨rfl, hb3⟩; have T3 : Hid (Two9 W.heap.size W w3 (.slice (some ⟨b, off, none⟩) A.length c2) (.slice po O.length co) A O) := HT.out _ hb3; obtain ⟨x0, x1, x2, x3, x4⟩ := HC.out _ hb3; have HC3 : Hid (∀ o, (w3.alloc o).cell? ⟨b, off + k * 5, none⟩ = some (.int .u8 7)) := (fun o => (HC.out _ (hb3.trans (((Below.refl _ w3).alloc (Nat.le_refl _) o).mono hb3.size))).1); clear hb3) | (at_builtin; refine app_piece rfl _ _ rfl W.heap.size _ O ⟨7, dt, db, di, de⟩ rfl (T3.out.below ((Below.refl _ w3).alloc (Nat.le_refl _) _)).ro _ 1 rfl (new_at w3 _) (by omega) (T3.out.below ((Below.refl _ w3).alloc (Nat.le_refl _) _)).be.size ?_; intro v4 w4 hr4 hb4 hg4 hat4; have T4 : Hid (Two9 W.heap.size W w4 (.slice (some ⟨b, off, none⟩) A.length c2) v4 A (O ++ [⟨7, dt, db, di, de⟩])) := (T3.out.below ((Below.refl _ w3).alloc (Nat.le_refl _) _)).grow rfl hr4 hg4 hb4 hat4; clear hr4 hb4 hg4 hat4))
            exact ⟨⟨k + 1, dq, hlt, by first | rfl | go_num, by go_num, by omega, by show _ ∧ _; rw [HS.out]; exact ⟨rfl, T4.out⟩⟩, by simp [intOf]; omega⟩
        have k6 : (dk == 6) = false := by simpa using h6
        have k7 : (dk == 7) = false := by simpa using h7
        have edn : dn dk dp = dp := by unfold dn; rw [if_neg h6, if_neg h7]
        have HS : Hid (clf 0 (A.take (k + 1)) = (O ++ [⟨dk, dt, db, di, de⟩], dp)) := by show _ = _; rw [HSN.out, if_pos ⟨rfl, fun h => h7 h.1⟩, edn]
        clear HSN
        go_wp2_with (first | (go_at_call 25; refine (HR.out _).mono ?_; rintro e w3 ⟨rfl, hb3⟩; have T3 : Hid (Two9 W.heap.size W w3 (.slice (some ⟨b, off, none⟩) A.length c2) (.slice po O.length co) A O) := HT.out _ hb3; obtain ⟨x0, x1, x2, x3, x4⟩ := HC.out _ hb3; have HC3 : Hid (∀ o, (w3.alloc o).cell? ⟨b, off + k * 5, none⟩ = some (.int .u8 dk)) := (fun o => (HC.out _ (hb3.trans (((Below.refl _ w3).alloc (Nat.le_refl _) o).mono hb3.size))).1); clear hb3) | (at_builtin; refine app_piece rfl _ _ rfl W.heap.size _ O ⟨dk, dt, db, di, de⟩ rfl (T3.out.below ((Below.refl _ w3).alloc (Nat.le_refl _) _)).ro _ 1 rfl (new_at w3 _) (by omega) (T3.out.below ((Below.refl _ w3).alloc (Nat.le_refl _) _)).be.size ?_; intro v4 w4 hr4 hb4 hg4 hat4; have T4 : Hid (Two9 W.heap.size W w4 (.slice (some ⟨b, off, none⟩) A.length c2) v4 A (O ++ [⟨dk, dt, db, di, de⟩])) := (T3.out.below ((Below.refl _ w3).alloc (Nat.le_refl _) _)).grow rfl hr4 hg4 hb4 hat4; clear hr4 hb4 hg4 hat4))
        exact ⟨⟨k + 1, dp, hlt, by first | rfl | go_num, by go_num, by omega, by show _ ∧ _; rw [HS.out]; exact ⟨rfl, T4.out⟩⟩, by simp [intOf]; omega⟩
    · obtain rfl : k = A.length := by omega
      have q1 : ¬ ((A.length : Int) < A.length) := by omega
      rw [List.take_length] at hdp hO
      have HCLO : Hid (clo A = O ++ List.replicate dp (dK 7)) := by show _ = _; unfold clo; rw [hO, hdp]
      have H3 : Hid (Rp W.heap.size wr (.slice po O.length co) O ∧ Below W.heap.size W wr) := ⟨h2.ro, h2.be⟩
      clear HI h2 hdp hO
      go_wp2_with fail
      obtain ⟨wq, eq⟩ : ∃ wq, wq = wr := ⟨wr, rfl⟩
      rw [← eq] at H3 ⊢
      clear eq
      go_loopw [6, 7] (fun vo o wz => ∃ (j : Nat), j ≤ dp ∧ o = .int .i64 ((dp - j : Nat) : Int) ∧ Hid (Rp W.heap.size wz vo (O ++ List.replicate j (dK 7)) ∧ Below W.heap.size W wz)) (fun _ o _ => (intOf o).toNat)
      case atStart => exact ⟨0, Nat.zero_le _, rfl, by simpa using H3.out.1, H3.out.2⟩
      case round =>
        obtain ⟨j, hj, rfl, HJ⟩ := hrel
        obtain ⟨x, hx⟩ : ∃ x, dp - j = x := ⟨_, rfl⟩
        rw [hx]
        obtain ⟨pj, cj, ej, _, _⟩ := HJ.out.1.shape
        have hjl : (O ++ List.replicate j (dK 7)).length = O.length + j := by simp
        rw [hjl] at ej
        subst ej
        by_cases h0 : x = 0
        · subst h0
          have ejd : j = dp := by omega
          subst ejd
          have HE : Hid (Rp W.heap.size wr (.slice pj (O.length + j) cj) (clo A) ∧ Below W.heap.size W wr) := by show _ ∧ _; rw [HCLO.out]; exact HJ.out
          clear HJ
          go_wp2_with fail
          go_ret
          exact ⟨_, rfl, HE.out⟩
        · have q4 : (0 : Int) < x := by omega
          have HA2 : Hid (∀ V, Below wr.heap.size wr V → Rp W.heap.size V (.slice pj (O.length + j) cj) (O ++ List.replicate j (dK 7)) ∧ Below W.heap.size W V) := fun V hV => ⟨HJ.out.1.below hV, HJ.out.2.trans (hV.mono HJ.out.2.size)⟩
          have hrs : (O ++ List.replicate j (dK 7)) ++ [dK 7] = O ++ List.replicate (j + 1) (dK 7) := by rw [List.append_assoc, List.replicate_succ']
          have HRS : Hid ((O ++ List.replicate j (dK 7)) ++ [dK 7] = O ++ List.replicate (j + 1) (dK 7)) := hrs
          clear HJ hrs
          go_wp2_with (first | (at_builtin; refine app_piece rfl _ _ rfl W.heap.size _ (O ++ List.replicate j (dK 7)) (dK 7) rfl (HA2.out _ ((Below.refl _ wr).alloc (Nat.le_refl _) _)).1 _ 1 rfl (new_at wr _) (by rw [hjl]; omega) (HA2.out _ ((Below.refl _ wr).alloc (Nat.le_refl _) _)).2.size ?_; intro v4 w4 hr4 hb4 _ _; have hbw4 : Below W.heap.size W w4 := (HA2.out _ ((Below.refl _ wr).alloc (Nat.le_refl _) _)).2.trans hb4))
          exact ⟨⟨j + 1, by omega, by simp only [Value.int.injEq, true_and]; omega, by rw [HRS.out] at hr4; exact hr4, hbw4⟩, by simp [intOf]; omega⟩
end Go.Proofs.YtmjhfabdbajchaaGreatDoor
set_option linter.unusedVariables false
set_option linter.unusedSimpArgs false
namespace Go.Proofs.YtmjhfabdbajchaaGreatDoor
open Go.RowKit

/-- What the statements want of the code's printer: what stands for it, and a contract for each of its functions. -/
structure Ctr (R : (Nat → Prop) → World → Nat → Nat → S9 → Prop) : Prop where
  sub : ∀ S S' W g N s, R S W g N s → (∀ k, k < W.heap.size → S k → S' k) → R S' W g N s
  oth : ∀ S T W W' g N s, R S W g N s → Kp T W W' → (∀ k, k < W.heap.size → S k → ¬ T k) → R S W' g N s
  bad : ∀ (n : Int) W, n < 1 ∨ 4096 < n → Tab W → Calls Tryz.prog 10 #[.int .i64 n] W fun e w' => e = .returned (.tuple #[.pointer none, .int .i64 1]) ∧ Below W.heap.size W w'
  new : ∀ S (n : Nat) W, 1 ≤ n → n ≤ 4096 → Nw S W.heap.size → Tab W → Calls Tryz.prog 10 #[.int .i64 (n : Int)] W fun e w' => ∃ g, e = .returned (.tuple #[.pointer (some ⟨g, 0, none⟩), .int .i64 0]) ∧ R S w' g n s90 ∧ Below W.heap.size W w'
  put : ∀ S W g N s d T C, R S W g N s → Nw S W.heap.size → Tab W → N ≤ 4096 → Bud s T C → d.t.size ≤ 9223372036854775807 → T + ud d ≤ 268435456 → C + 1 ≤ 100000000 → Calls Tryz.prog 15 #[.pointer (some ⟨g, 0, none⟩), .agg #[.int .u8 d.k, .string d.t, .int .i64 d.b, .int .i64 d.i, .bool d.e]] W fun e w' => e = .returned (.tuple #[.string ⟨(s.told (s.put N d).1).toArray⟩, .int .i64 (s.put N d).2]) ∧ R S w' g N (s.put N d).1 ∧ Kp S W w'
  close : ∀ S W g N s T C, R S W g N s → Nw S W.heap.size → Tab W → N ≤ 4096 → Bud s T C → T ≤ 268435456 → C ≤ 100000000 → Calls Tryz.prog 17 #[.pointer (some ⟨g, 0, none⟩)] W fun e w' => e = .returned (.tuple #[.string ⟨(s.told (s.close N).1).toArray⟩, .int .i64 (s.close N).2]) ∧ R S w' g N (s.close N).1 ∧ Kp S W w'
  held : ∀ S W g N s, R S W g N s → s.wt.length ≤ 100000000 → Tab W → Calls Tryz.prog 16 #[.pointer (some ⟨g, 0, none⟩)] W fun e w' => e = .returned (.int .i64 (s.wt.length : Nat)) ∧ Below W.heap.size W w'

/-- A printer that a statement made behind the world W0: its blocks are those of the label 1. -/
structure A9 (R : (Nat → Prop) → World → Nat → Nat → S9 → Prop) (W0 W : World) (own : Nat → Nat) (g N : Nat) (s : S9) : Prop where
  en : En own W
  lo : ∀ k, k < W0.heap.size → own k = 0
  be : Below W0.heap.size W0 W
  rr : R (fun k => own k = 1) W g N s
section
variable {R : (Nat → Prop) → World → Nat → Nat → S9 → Prop} {W0 W : World} {own : Nat → Nat} {g N : Nat} {s : S9}
theorem A9.below (hC : Ctr R) (h : A9 R W0 W own g N s) {W' : World} (hb : Below W.heap.size W W') : A9 R W0 W' own g N s :=
  ⟨h.en.below hb, h.lo, h.be.trans (hb.mono h.be.size), hC.oth _ (fun _ => False) _ _ _ _ _ h.rr (Kp.of_below hb) (fun _ _ _ h => h)⟩
def Lab (own : Nat → Nat) (W w' : World) : Nat → Nat := fun k => if k < W.heap.size then own k else if k < w'.heap.size then 1 else 0
/-- Behind a call on the printer. -/
theorem A9.next (hC : Ctr R) (h : A9 R W0 W own g N s) {w' : World} {s' : S9} (hr : R (fun k => own k = 1 ∨ W.heap.size ≤ k) w' g N s') (hk : Kp (fun k => own k = 1 ∨ W.heap.size ≤ k) W w') : A9 R W0 w' (Lab own W w') g N s' ∧ Sd own (Lab own W w') W w' := by
  have hf : Fr 1 own (Lab own W w') W w' := ⟨hk.os, hk.tape, hk.output, hk.size, fun k hl hn => hk.block k hl (fun e => by rcases e with e | e; exact hn e; omega), fun k hl => if_pos hl⟩
  have hn : Nf (Lab own W w') w' := fun k hl => by
    have := hk.size
    unfold Lab
    rw [if_neg (by omega), if_neg (by omega)]
  refine ⟨⟨h.en.fr (by decide) hn hf, fun k hl => ?_, ?_, ?_⟩, fun k hl h0 => ⟨hf.block k hl (by rw [h0]; decide), (hf.old k hl).trans h0⟩⟩
  · rw [hf.old k (Nat.lt_of_lt_of_le hl h.be.size)]; exact h.lo k hl
  · exact h.be.trans ⟨hk.os, hk.tape, hk.output, hk.size, fun k hl => hf.block k (Nat.lt_of_lt_of_le hl h.be.size) (by rw [h.lo k hl]; decide)⟩
  · refine hC.sub _ _ _ _ _ _ hr (fun k hl e => ?_)
    show Lab own W w' k = 1
    unfold Lab
    by_cases hw : k < W.heap.size
    · rw [if_pos hw]
      rcases e with e | e
      · exact e
      · omega
    · rw [if_neg hw, if_pos hl]
theorem A9.rS (hC : Ctr R) (h : A9 R W0 W own g N s) : R (fun k => own k = 1 ∨ W.heap.size ≤ k) W g N s := hC.sub _ _ _ _ _ _ h.rr (fun k _ e => .inl e)
theorem nwS (own : Nat → Nat) (W : World) : Nw (fun k => own k = 1 ∨ W.heap.size ≤ k) W.heap.size := fun k hk => .inr hk
theorem A9.put (hC : Ctr R) (h : A9 R W0 W own g N s) (hN : N ≤ 4096) {T C : Nat} (hb : Bud s T C) (d : Dc) (hd : d.t.size ≤ 9223372036854775807) (hT : T + ud d ≤ 268435456) (hCC : C + 1 ≤ 100000000) :
    Calls Tryz.prog 15 #[.pointer (some ⟨g, 0, none⟩), .agg #[.int .u8 d.k, .string d.t, .int .i64 d.b, .int .i64 d.i, .bool d.e]] W fun e w' => e = .returned (.tuple #[.string ⟨(s.told (s.put N d).1).toArray⟩, .int .i64 (s.put N d).2]) ∧ ∃ own', A9 R W0 w' own' g N (s.put N d).1 ∧ Sd own own' W w' := by
  refine (hC.put _ W g N s d T C (h.rS hC) (nwS own W) h.en.tab hN hb hd hT hCC).mono ?_
  rintro e w' ⟨rfl, h1, h2⟩
  exact ⟨rfl, _, h.next hC h1 h2⟩
theorem A9.close (hC : Ctr R) (h : A9 R W0 W own g N s) (hN : N ≤ 4096) {T C : Nat} (hb : Bud s T C) (hT : T ≤ 268435456) (hCC : C ≤ 100000000) :
    Calls Tryz.prog 17 #[.pointer (some ⟨g, 0, none⟩)] W fun e w' => e = .returned (.tuple #[.string ⟨(s.told (s.close N).1).toArray⟩, .int .i64 (s.close N).2]) ∧ ∃ own', A9 R W0 w' own' g N (s.close N).1 ∧ Sd own own' W w' := by
  refine (hC.close _ W g N s T C (h.rS hC) (nwS own W) h.en.tab hN hb hT hCC).mono ?_
  rintro e w' ⟨rfl, h1, h2⟩
  exact ⟨rfl, _, h.next hC h1 h2⟩
theorem A9.held (hC : Ctr R) (h : A9 R W0 W own g N s) (hl : s.wt.length ≤ 100000000) : Calls Tryz.prog 16 #[.pointer (some ⟨g, 0, none⟩)] W fun e w' => e = .returned (.int .i64 (s.wt.length : Nat)) ∧ A9 R W0 w' own g N s ∧ Below W.heap.size W w' := by
  refine (hC.held _ W g N s h.rr hl h.en.tab).mono ?_
  rintro e w' ⟨rfl, h1⟩
  exact ⟨rfl, h.below hC h1, h1⟩
/-- A row of the statement's own has grown. -/
theorem A9.grown (hC : Ctr R) (h : A9 R W0 W own g N s) {w' : World} {row : Option Nat} (hg : W.grownBy w' row) (hT0 : Tab W0) (hrow : ∀ k, row = some k → own k = 0 ∧ W0.heap.size ≤ k) : A9 R W0 w' own g N s := by
  have hbe : Below W0.heap.size W0 w' := h.be.grown hg h.be.size (fun k e => (hrow k e).2)
  refine ⟨⟨fun k hk => h.en.nf k (Nat.le_trans hg.size hk), hT0.below hbe, h.en.z⟩, h.lo, hbe, hC.oth _ _ _ _ _ _ _ h.rr (Kp.of_grown hg) (fun k _ e1 e2 => ?_)⟩
  have := (hrow k e2.symm).1
  rw [e1] at this; cases this
end
/-- The printer is made. -/
theorem new9 {R : (Nat → Prop) → World → Nat → Nat → S9 → Prop} (hC : Ctr R) (n : Nat) (h1 : 1 ≤ n) (h2 : n ≤ 4096) (W0 W : World) (hT : Tab W0) (hb : Below W0.heap.size W0 W) : Calls Tryz.prog 10 #[.int .i64 (n : Int)] W fun e w' => ∃ g own, e = .returned (.tuple #[.pointer (some ⟨g, 0, none⟩), .int .i64 0]) ∧ A9 R W0 w' own g n s90 ∧ (∀ k, k < W.heap.size → own k = 0) ∧ Below W.heap.size W w' := by
  refine (hC.new (fun k => W.heap.size ≤ k) n W h1 h2 (fun k hk => hk) (hT.below hb)).mono ?_
  rintro e w' ⟨g, rfl, hr, hbw⟩
  have hs := hb.size
  have hw := hbw.size
  refine ⟨g, fun k => if k < W.heap.size then 0 else if k < w'.heap.size then 1 else 0, rfl, ⟨⟨fun k hk => ?_, (hT.below hb).below hbw, ?_⟩, fun k hk => if_pos (by omega), hb.trans (hbw.mono hs), ?_⟩, fun k hk => if_pos hk, hbw⟩
  · show (if k < W.heap.size then 0 else if k < w'.heap.size then 1 else 0) = 0
    rw [if_neg (by omega), if_neg (by omega)]
  · exact if_pos (Nat.lt_of_lt_of_le hT.pos hs)
  · refine hC.sub _ _ _ _ _ _ hr (fun k hl e => ?_)
    show (if k < W.heap.size then 0 else if k < w'.heap.size then 1 else 0) = 1
    rw [if_neg (by omega), if_pos hl]
theorem Bud.zero : Bud s90 0 0 := ⟨0, bp0, Nat.le_refl _, rfl, Nat.le_refl _⟩
end Go.Proofs.YtmjhfabdbajchaaGreatDoor
set_option linter.unusedVariables false
set_option linter.unusedSimpArgs false
namespace Go.Proofs.YtmjhfabdbajchaaGreatDoor
open Go.RowKit

theorem Bud.mono {s : S9} {T C T' C' : Nat} (h : Bud s T C) (h1 : T ≤ T') (h2 : C ≤ C') : Bud s T' C' := by
  obtain ⟨U, a, b, c, d⟩ := h
  exact ⟨U, a, by omega, c, by omega⟩
theorem text9_any (t : ByteArray) (W : World) : Calls Tryz.prog 18 #[.string t] W fun e w' => e = .returned (.agg #[.int .u8 1, .string t, .int .i64 0, .int .i64 0, .bool false]) ∧ Below W.heap.size W w' := by
  have hx1 := new_at W (.cells #[.int .u8 0, .string ⟨#[]⟩, .int .i64 0, .int .i64 0, .bool false] 37)
  have hb : ∀ o, Below W.heap.size W (W.alloc o) := fun o => (Below.refl _ _).alloc (Nat.le_refl _) _
  go_enter Tryz.func18, Tryz.ntmps18
  go_wp2_with fail
  obtain ⟨X, hX⟩ : ∃ X, W.alloc (.cells #[.int .u8 1, .string t, .int .i64 0, .int .i64 0, .bool false] 37) = X := ⟨_, rfl⟩
  have hxb : X.heap[W.heap.size]? = some (.cells #[.int .u8 1, .string t, .int .i64 0, .int .i64 0, .bool false] 37 (0, 0)) := by rw [← hX]; exact new_at _ _
  have hbx : Below W.heap.size W X := by rw [← hX]; exact hb _
  rw [hX]
  have m0 := blk_cell (k := 0) hxb rfl
  have m1 := blk_cell (k := 1) hxb rfl
  have m2 := blk_cell (k := 2) hxb rfl
  have m3 := blk_cell (k := 3) hxb rfl
  have m4 := blk_cell (k := 4) hxb rfl
  refine bodyPost_ret (v := .agg #[.int .u8 1, .string t, .int .i64 0, .int .i64 0, .bool false]) (by simp [results, Tryz.f18, go_sem, m0, m1, m2, m3, m4]) rfl ?_
  exact ⟨rfl, hbx⟩
theorem s9k_bud : ∀ k, k ≤ 5 → Bud (s9k k) (k * 2000) k
  | 0, _ => Bud.zero
  | k + 1, hk => by
    obtain ⟨d, hd⟩ : ∃ d, aw9[k]? = some d := ⟨_, List.getElem?_eq_getElem (show k < aw9.length by show k < 5; omega)⟩
    rw [s9k_succ hd]
    refine (Bud.put (s9k_bud k (by omega)) d).mono ?_ (Nat.le_refl _)
    have h5 : k < 5 := by omega
    have : ud d ≤ 2000 := by
      match k, h5 with
      | 0, _ => cases hd; decide +kernel
      | 1, _ => cases hd; decide +kernel
      | 2, _ => cases hd; decide +kernel
      | 3, _ => cases hd; decide +kernel
      | 4, _ => cases hd; decide +kernel
    omega
theorem aw9_rt (k : Nat) (d : Dc) (h : aw9[k]? = some d) : d.t.size ≤ 3 ∧ ud d ≤ 2000 := by
  have hk : k < 5 := (List.getElem?_eq_some_iff.1 h).1
  match k, hk with
  | 0, _ => cases h; decide +kernel
  | 1, _ => cases h; decide +kernel
  | 2, _ => cases h; decide +kernel
  | 3, _ => cases h; decide +kernel
  | 4, _ => cases h; decide +kernel
theorem s9a_close : (s9a.close 10).1 = s9a := by
  unfold S9.close
  have h1 : s9a.cl = false := by decide +kernel
  have h2 : 0 < s9a.dp := by decide +kernel
  rw [if_neg (by rw [h1]; simp), if_pos h2]
theorem s9c_put : (s9c.put 10 (dT [97])).1 = s9c := by
  unfold S9.put
  have h1 : s9c.cl = true := by decide +kernel
  rw [if_pos h1]

/-- The printer of the examples, and the pieces that are put. -/
def K9 (R : (Nat → Prop) → World → Nat → Nat → S9 → Prop) (W V : World) (g bl : Nat) (s : S9) : Prop := ∃ own, A9 R W V own g 10 s ∧ V.heap[bl]? = some (.cells (dcs aw9).toArray 37 (0, 0)) ∧ own bl = 0
section
variable {R : (Nat → Prop) → World → Nat → Nat → S9 → Prop} {W V : World} {g bl : Nat} {s : S9}
theorem K9.below (hC : Ctr R) (h : K9 R W V g bl s) {V' : World} (hb : Below V.heap.size V V') : K9 R W V' g bl s := by
  obtain ⟨own, h1, h2, h3⟩ := h
  exact ⟨own, h1.below hC hb, blk_below h2 hb, h3⟩
theorem K9.put (hC : Ctr R) (h : K9 R W V g bl s) {T C : Nat} (hb : Bud s T C) (d : Dc) (hd : d.t.size ≤ 9223372036854775807) (hT : T + ud d ≤ 268435456) (hCC : C + 1 ≤ 100000000) :
    Calls Tryz.prog 15 #[.pointer (some ⟨g, 0, none⟩), .agg #[.int .u8 d.k, .string d.t, .int .i64 d.b, .int .i64 d.i, .bool d.e]] V fun e w' => e = .returned (.tuple #[.string ⟨(s.told (s.put 10 d).1).toArray⟩, .int .i64 (s.put 10 d).2]) ∧ K9 R W w' g bl (s.put 10 d).1 := by
  obtain ⟨own, h1, h2, h3⟩ := h
  refine (h1.put hC (by decide) hb d hd hT hCC).mono ?_
  rintro e w' ⟨rfl, own', a1, a2⟩
  obtain ⟨b1, b2⟩ := a2 bl (blk_lt h2) h3
  exact ⟨rfl, own', a1, b1.trans h2, b2⟩
theorem K9.close (hC : Ctr R) (h : K9 R W V g bl s) {T C : Nat} (hb : Bud s T C) (hT : T ≤ 268435456) (hCC : C ≤ 100000000) :
    Calls Tryz.prog 17 #[.pointer (some ⟨g, 0, none⟩)] V fun e w' => e = .returned (.tuple #[.string ⟨(s.told (s.close 10).1).toArray⟩, .int .i64 (s.close 10).2]) ∧ K9 R W w' g bl (s.close 10).1 := by
  obtain ⟨own, h1, h2, h3⟩ := h
  refine (h1.close hC (by decide) hb hT hCC).mono ?_
  rintro e w' ⟨rfl, own', a1, a2⟩
  obtain ⟨b1, b2⟩ := a2 bl (blk_lt h2) h3
  exact ⟨rfl, own', a1, b1.trans h2, b2⟩
theorem K9.held (hC : Ctr R) (h : K9 R W V g bl s) (hl : s.wt.length ≤ 100000000) : Calls Tryz.prog 16 #[.pointer (some ⟨g, 0, none⟩)] V fun e w' => e = .returned (.int .i64 (s.wt.length : Nat)) ∧ K9 R W w' g bl s := by
  obtain ⟨own, h1, h2, h3⟩ := h
  refine (h1.held hC hl).mono ?_
  rintro e w' ⟨rfl, a1, a2⟩
  exact ⟨rfl, own, a1, blk_below h2 a2, h3⟩
end
theorem s9a_bud : Bud s9a 12000 6 := (Bud.put (s9k_bud 5 (by decide)) (dT [99, 99, 99])).mono (by decide +kernel) (by decide)
theorem s9b_bud : Bud s9b 12000 7 := (Bud.put s9a_bud (dK 7)).mono (by decide +kernel) (by decide)
theorem cls_bud (N : Nat) {dp T C : Nat} {cl : Bool} : ∀ (v : List Dc) (p : Pr), Bud ⟨p, v, dp, cl⟩ T C → Bud ⟨cls N p v, [], dp, cl⟩ T C
  | [], p, h => h
  | d :: r, p, h => by
    rw [cls]
    exact cls_bud N r _ (h.step N _).2.2.2.2
theorem Bud.close {N : Nat} {s : S9} {T C : Nat} (h : Bud s T C) : Bud (s.close N).1 T C := by
  unfold S9.close
  split
  · exact h
  · split
    · exact h
    · exact cls_bud N s.wt s.pr (cl := true) h
theorem s9c_bud : Bud s9c 12000 7 := s9b_bud.close

set_option maxHeartbeats 4000000 in
set_option maxRecDepth 100000 in
theorem awake9_any {R : (Nat → Prop) → World → Nat → Nat → S9 → Prop} (hC : Ctr R) (W : World) (hT : Tab W) : Calls Tryz.prog 9 #[] W fun e w' => e = .returned (.bool true) ∧ Below W.heap.size W w' := by
  have HC : Hid (Ctr R) := hC
  have HT : Hid (Tab W) := hT
  clear hC hT
  go_enter Tryz.func9, Tryz.ntmps9
  go_wp2_with fail
  refine (new9 HC.out 10 (by decide) (by decide) W W HT.out (Below.refl _ _)).mono ?_
  rintro e w1 ⟨g, own, rfl, hA1, _, _⟩
  have H1 : Hid (A9 R W w1 own g 10 s90) := hA1
  clear hA1
  go_wp2_with fail
  refine (text9_any _ w1).mono ?_
  rintro e w2 ⟨rfl, hb2⟩
  have H2 : Hid (A9 R W w2 own g 10 s90) := H1.out.below HC.out hb2
  clear hb2 H1
  go_wp2_with fail
  refine (text9_any _ w2).mono ?_
  rintro e w3 ⟨rfl, hb3⟩
  have H3 : Hid (A9 R W w3 own g 10 s90) := H2.out.below HC.out hb3
  clear hb3 H2
  go_wp2_with fail
  obtain ⟨w4, hw4⟩ : ∃ w4, w3.alloc (.cells #[.int .u8 6, .string ⟨#[]⟩, .int .i64 0, .int .i64 2, .bool false, .int .u8 1, .string ⟨#[97, 97, 97]⟩, .int .i64 0, .int .i64 0, .bool false, .int .u8 3, .string ⟨#[]⟩, .int .i64 1, .int .i64 0, .bool false, .int .u8 1, .string ⟨#[98, 98, 98]⟩, .int .i64 0, .int .i64 0, .bool false, .int .u8 3, .string ⟨#[]⟩, .int .i64 1, .int .i64 0, .bool false] 37) = w4 := ⟨_, rfl⟩
  rw [hw4]
  have H4 : Hid (K9 R W w4 g w3.heap.size s90) := by
    refine ⟨own, H3.out.below HC.out (by rw [← hw4]; exact (Below.refl _ _).alloc (Nat.le_refl _) _), ?_, H3.out.en.nf _ (Nat.le_refl _)⟩
    rw [← hw4]
    exact new_at _ _
  obtain ⟨bl, hbl⟩ : ∃ bl, w3.heap.size = bl := ⟨_, rfl⟩
  rw [hbl] at H4 ⊢
  clear hw4 H3 hbl
  go_loopw [4] (fun i wr => ∃ (k : Nat), k ≤ 5 ∧ i = .int .i64 k ∧ Hid (K9 R W wr g bl (s9k k))) (fun i _ => 5 - (intOf i).toNat)
  case atStart => exact ⟨0, Nat.zero_le _, rfl, H4.out⟩
  case round =>
    obtain ⟨k, hk, rfl, HI⟩ := hrel
    by_cases hlt : k < 5
    · have q1 : (k : Int) < 5 := by omega
      have q2 : (0 : Int) ≤ k := by omega
      obtain ⟨d, hd⟩ : ∃ d, aw9[k]? = some d := ⟨_, List.getElem?_eq_getElem (show k < aw9.length from hlt)⟩
      obtain ⟨t1, t2, t3⟩ := aw9_a k d hd
      obtain ⟨r1, r2⟩ := aw9_rt k d hd
      have es := s9k_succ hd
      have hbk := s9k_bud k hk
      obtain ⟨own2, _, hxb, _⟩ := HI.out
      have c : ∀ j u, d.cs[j]? = some u → wr.cell? ⟨bl, k * 5 + j, none⟩ = some u := fun j u hu => blk_cell hxb (by
        have := flat_at Dc.cs 5 Dc.cs_len aw9 k j d u hd hu
        simpa [dcs] using this)
      have c0 := c 0 _ rfl
      have c1 := c 1 _ rfl
      have c2 := c 2 _ rfl
      have c3 := c 3 _ rfl
      have c4 := c 4 _ rfl
      rw [Nat.add_zero] at c0
      have HP : Hid (Calls Tryz.prog 15 #[.pointer (some ⟨g, 0, none⟩), .agg #[.int .u8 d.k, .string d.t, .int .i64 d.b, .int .i64 d.i, .bool d.e]] wr fun e w' => e = .returned (.tuple #[.string ⟨#[]⟩, .int .i64 0]) ∧ Hid (K9 R W w' g bl (s9k (k + 1)))) := by
        have := K9.put HC.out HI.out hbk d (by omega) (by omega) (by omega)
        rw [t1, t2] at this
        rw [es]
        exact this
      have HH : Hid (∀ V, Hid (K9 R W V g bl (s9k (k + 1))) → Calls Tryz.prog 16 #[.pointer (some ⟨g, 0, none⟩)] V fun e w' => e = .returned (.int .i64 ((k : Int) + 1)) ∧ Hid (K9 R W w' g bl (s9k (k + 1)))) := fun V hV => by
        have := K9.held HC.out hV.out (by rw [es, t3]; omega)
        rw [es, t3] at this
        rw [es]
        exact this
      clear HI hd t1 t2 t3 r1 r2 es hbk hxb c
      obtain ⟨dk, dt, db, di, de⟩ := d
      simp only at c0 c1 c2 c3 c4 HP
      go_wp2_with (first | (go_at_call 15; refine HP.out.mono ?_; rintro e w5 ⟨rfl, HK5⟩) | (go_at_call 16; refine (HH.out _ HK5).mono ?_; rintro e w6 ⟨rfl, HK6⟩))
      exact ⟨⟨k + 1, hlt, by go_num, HK6.out⟩, by simp [intOf]; omega⟩
    · obtain rfl : k = 5 := by omega
      have KT : Hid (∀ t V, Calls Tryz.prog 18 #[.string t] V fun e w' => e = .returned (.agg #[.int .u8 1, .string t, .int .i64 0, .int .i64 0, .bool false]) ∧ Below V.heap.size V w') := text9_any
      clear H4
      go_wp2_with fail
      refine (KT.out _ _).mono ?_
      rintro e w5 ⟨rfl, hb5⟩
      have H5 := K9.put HC.out (HI.out.below HC.out hb5) (s9k_bud 5 (by decide)) (dT [99, 99, 99]) (by decide) (by decide +kernel) (by decide)
      rw [aw9_b.1, show ((s9k 5).put 10 (dT [99, 99, 99])).1 = s9a from rfl, aw9_b.2.1] at H5
      clear hb5 HI
      go_wp2_with fail
      refine H5.mono ?_
      rintro e w6 ⟨rfl, h6⟩
      have H6 := K9.close HC.out h6 s9a_bud (by decide) (by decide)
      rw [aw9_c.1, s9a_close] at H6
      clear h6 H5
      go_wp2_with fail
      refine H6.mono ?_
      rintro e w7 ⟨rfl, h7⟩
      have H7 := K9.put HC.out h7 s9a_bud (dK 7) (by decide) (by decide +kernel) (by decide)
      rw [aw9_c.2.1, show (s9a.put 10 (dK 7)).1 = s9b from rfl, aw9_c.2.2.1] at H7
      clear h7 H6
      go_wp2_with fail
      refine H7.mono ?_
      rintro e w8 ⟨rfl, h8⟩
      have H8 := K9.close HC.out h8 s9b_bud (by decide) (by decide)
      rw [aw9_c.2.2.2.1, show (s9b.close 10).1 = s9c from rfl, aw9_c.2.2.2.2.1] at H8
      clear h8 H7
      go_wp2_with fail
      refine H8.mono ?_
      rintro e w9 ⟨rfl, h9⟩
      have HK9 : Hid (K9 R W w9 g bl s9c) := h9
      clear h9 H8
      go_wp2_with fail
      refine (KT.out _ _).mono ?_
      rintro e w10 ⟨rfl, hb10⟩
      have H10 := K9.put HC.out (HK9.out.below HC.out hb10) s9c_bud (dT [97]) (by decide) (by decide +kernel) (by decide)
      rw [aw9_c.2.2.2.2.2.2, s9c_put] at H10
      clear hb10 HK9
      go_wp2_with fail
      refine H10.mono ?_
      rintro e w11 ⟨rfl, h11⟩
      have H11 := K9.held HC.out h11 (by rw [aw9_c.2.2.2.2.2.1]; decide)
      rw [aw9_c.2.2.2.2.2.1] at H11
      clear h11 H10
      go_wp2_with (go_at_call 16; refine H11.mono ?_; rintro e w12 ⟨rfl, h12⟩; have HK12 : Hid (K9 R W w12 g bl s9c) := h12; clear h12 H11)
      go_ret
      obtain ⟨_, h13, _, _⟩ := HK12.out
      exact ⟨rfl, h13.be⟩
end Go.Proofs.YtmjhfabdbajchaaGreatDoor
set_option linter.unusedVariables false
set_option linter.unusedSimpArgs false
namespace Go.Proofs.YtmjhfabdbajchaaGreatDoor
open Go.RowKit

theorem names9_any {R : (Nat → Prop) → World → Nat → Nat → S9 → Prop} (hC : Ctr R) (W : World) (hT : Tab W) : Calls Tryz.prog 3 #[] W fun e w' => e = .returned (.bool true) ∧ Below W.heap.size W w' := by
  have KA := awake9_any hC W hT
  clear hC hT
  go_enter Tryz.func3, Tryz.ntmps3
  go_wp2_with (go_at_call 9; refine KA.mono ?_; rintro e w1 ⟨rfl, hb1⟩)
  go_ret
  exact ⟨rfl, hb1⟩
/-- What the statements want where there is no printer. -/
structure CtrNil : Prop where
  put : ∀ (d : Dc) W, Calls Tryz.prog 15 #[.pointer none, .agg #[.int .u8 d.k, .string d.t, .int .i64 d.b, .int .i64 d.i, .bool d.e]] W fun e w' => e = .returned (.tuple #[.string ⟨#[]⟩, .int .i64 3]) ∧ Below W.heap.size W w'
  close : ∀ W, Calls Tryz.prog 17 #[.pointer none] W fun e w' => e = .returned (.tuple #[.string ⟨#[]⟩, .int .i64 3]) ∧ Below W.heap.size W w'
  held : ∀ W, Calls Tryz.prog 16 #[.pointer none] W fun e w' => e = .returned (.int .i64 0) ∧ Below W.heap.size W w'
theorem nil9_any {R : (Nat → Prop) → World → Nat → Nat → S9 → Prop} (hC : Ctr R) (hN : CtrNil) (d : Dc) (W : World) (hT : Tab W) : Calls Tryz.prog 8 #[.agg #[.int .u8 d.k, .string d.t, .int .i64 d.b, .int .i64 d.i, .bool d.e]] W fun e w' => e = .returned (.bool true) ∧ Below W.heap.size W w' := by
  have HT : Hid (Tab W) := hT
  have KA : Hid (∀ V, Below W.heap.size W V → Calls Tryz.prog 9 #[] V fun e w' => e = .returned (.bool true) ∧ Below W.heap.size W w') := fun V hV => (awake9_any hC V (HT.out.below hV)).mono fun e w' ⟨a, b⟩ => ⟨a, hV.trans (b.mono hV.size)⟩
  have KP : Hid (∀ V, Below W.heap.size W V → Calls Tryz.prog 15 #[.pointer none, .agg #[.int .u8 d.k, .string d.t, .int .i64 d.b, .int .i64 d.i, .bool d.e]] V fun e w' => e = .returned (.tuple #[.string ⟨#[]⟩, .int .i64 3]) ∧ Below W.heap.size W w') := fun V hV => (hN.put d V).mono fun e w' ⟨a, b⟩ => ⟨a, hV.trans (b.mono hV.size)⟩
  have KC : Hid (∀ V, Below W.heap.size W V → Calls Tryz.prog 17 #[.pointer none] V fun e w' => e = .returned (.tuple #[.string ⟨#[]⟩, .int .i64 3]) ∧ Below W.heap.size W w') := fun V hV => (hN.close V).mono fun e w' ⟨a, b⟩ => ⟨a, hV.trans (b.mono hV.size)⟩
  have KH : Hid (∀ V, Below W.heap.size W V → Calls Tryz.prog 16 #[.pointer none] V fun e w' => e = .returned (.int .i64 0) ∧ Below W.heap.size W w') := fun V hV => (hN.held V).mono fun e w' ⟨a, b⟩ => ⟨a, hV.trans (b.mono hV.size)⟩
  have HAL : Hid (∀ o, Below W.heap.size W (W.alloc o)) := fun o => (Below.refl _ _).alloc (Nat.le_refl _) _
  clear hC hN hT
  obtain ⟨dk, dt, db, di, de⟩ := d
  simp only at KP ⊢
  go_enter Tryz.func8, Tryz.ntmps8
  go_wp2_with (first | (go_at_call 15; refine (KP.out _ (by first | exact HAL.out _ | exact Below.refl _ _)).mono ?_; rintro e w1 ⟨rfl, hb1⟩) | (go_at_call 17; refine (KC.out _ hb1).mono ?_; rintro e w2 ⟨rfl, hb2⟩) | (go_at_call 9; refine (KA.out _ hb2).mono ?_; rintro e w3 ⟨rfl, hb3⟩) | (go_at_call 16; refine (KH.out _ hb3).mono ?_; rintro e w4 ⟨rfl, hb4⟩))
  go_ret
  exact ⟨rfl, hb4⟩
end Go.Proofs.YtmjhfabdbajchaaGreatDoor
set_option linter.unusedVariables false
set_option linter.unusedSimpArgs false
namespace Go.Proofs.YtmjhfabdbajchaaGreatDoor
open Go.RowKit

theorem snew_bad (n : Int) (h : n < 1 ∨ 4096 < n) (W : World) : Calls Tryz.prog 10 #[.int .i64 n] W fun e w' => e = .returned (.tuple #[.pointer none, .int .i64 1]) ∧ Below W.heap.size W w' := by
  by_cases h1 : n < 1
  · have q1 : decide (n < 1) = true := by simpa using h1
    go_enter Tryz.func10, Tryz.ntmps10
    go_wp2_with fail
    go_ret2
    exact ⟨rfl, Below.refl _ _⟩
  · have q1 : decide (n < 1) = false := by simpa using h1
    have q2 : decide (4096 < n) = true := by simp; omega
    go_enter Tryz.func10, Tryz.ntmps10
    go_wp2_with fail
    go_ret2
    exact ⟨rfl, Below.refl _ _⟩
def cs0 : CS := ⟨0, 0, [], [], fun _ => none, pr0⟩
set_option maxHeartbeats 1000000 in
theorem snew_any (n : Nat) (h1 : 1 ≤ n) (h2 : n ≤ 4096) (W : World) : Calls Tryz.prog 10 #[.int .i64 (n : Int)] W fun e w' => ∃ g qa qb gs, e = .returned (.tuple #[.pointer (some ⟨g, 0, none⟩), .int .i64 0]) ∧ (W.heap.size ≤ qa ∧ qa < qb ∧ qb < gs ∧ gs < g) ∧ w'.heap[g]? = some (.cells #[.bool false, .int .i64 0, .int .i64 0, .pointer (some ⟨qa, 0, none⟩), .int .i64 0, .pointer (some ⟨qb, 0, none⟩), .int .i64 0, .int .i64 (n : Int), .pointer (some ⟨gs, 0, none⟩), .int .i64 0, .bool false, .bool false, .slice none 0 0, .bool false] 67 (0, 0)) ∧
    w'.heap[qa]? = some (.cells #[.int .i64 2097152, .slice none 0 0, .int .i64 0, .int .i64 0] 133 (0, 0)) ∧ w'.heap[qb]? = some (.cells #[.int .i64 2097152, .slice none 0 0, .int .i64 0, .int .i64 0] 133 (0, 0)) ∧ w'.heap[gs]? = some (.cells (sk false 0 0 (.slice none 0 0) (.slice none 0 0)) 105 (0, 0)) ∧ Below W.heap.size W w' := by
  have q1 : decide ((n : Int) < 1) = false := by simp; omega
  have q2 : decide (4096 < (n : Int)) = false := by simp; omega
  have q3 : ¬ ((n : Int) < 1) := by omega
  have q4 : ¬ (4096 < (n : Int)) := by omega
  have HN : Hid (∀ w, Calls Tryz.prog 19 #[] w fun e w' => ∃ q, e = .returned (.agg #[.pointer (some ⟨q, 0, none⟩), .int .i64 0]) ∧ w.heap.size ≤ q ∧ w'.heap[q]? = some (.cells #[.int .i64 2097152, .slice none 0 0, .int .i64 0, .int .i64 0] 133 (0, 0)) ∧ Below w.heap.size w w') := newRow_any
  have HP : Hid (∀ w, Calls Tryz.prog 20 #[.int .i64 (n : Int)] w fun e w' => ∃ q, e = .returned (.agg #[.int .i64 n, .pointer (some ⟨q, 0, none⟩), .int .i64 0, .bool false, .bool false, .slice none 0 0, .bool false]) ∧ w.heap.size ≤ q ∧ w'.heap[q]? = some (.cells (sk false 0 0 (.slice none 0 0) (.slice none 0 0)) 105 (0, 0)) ∧ Below w.heap.size w w') := newPage_any n
  generalize hK : sk false 0 0 (.slice none 0 0) (.slice none 0 0) = K at *
  go_enter Tryz.func10, Tryz.ntmps10
  go_wp2_with fail
  refine (HN.out _).mono ?_
  rintro e w1 ⟨qa, rfl, a1, a2, a3⟩
  have HA : Hid (W.heap.size ≤ qa ∧ w1.heap[qa]? = some (.cells #[.int .i64 2097152, .slice none 0 0, .int .i64 0, .int .i64 0] 133 (0, 0)) ∧ Below W.heap.size W w1) := ⟨a1, a2, a3⟩
  clear a1 a2 a3
  go_wp2_with fail
  refine (HN.out _).mono ?_
  rintro e w2 ⟨qb, rfl, a1, a2, a3⟩
  have HB : Hid (w1.heap.size ≤ qb ∧ w2.heap[qb]? = some (.cells #[.int .i64 2097152, .slice none 0 0, .int .i64 0, .int .i64 0] 133 (0, 0)) ∧ Below w1.heap.size w1 w2) := ⟨a1, a2, a3⟩
  clear a1 a2 a3
  go_wp2_with fail
  refine (HP.out _).mono ?_
  rintro e w3 ⟨gs, rfl, a1, a2, a3⟩
  have HC : Hid (w2.heap.size ≤ gs ∧ w3.heap[gs]? = some (.cells K 105 (0, 0)) ∧ Below w2.heap.size w2 w3) := ⟨a1, a2, a3⟩
  clear a1 a2 a3
  go_wp2_with fail
  go_ret2
  obtain ⟨a1, a2, a3⟩ := HA.out
  obtain ⟨b1, b2, b3⟩ := HB.out
  obtain ⟨c1, c2, c3⟩ := HC.out
  have la := blk_lt a2
  have lb := blk_lt b2
  have lc := blk_lt c2
  have hal := (Below.refl w3.heap.size w3).alloc (Nat.le_refl _) (.cells #[.bool false, .int .i64 0, .int .i64 0, .pointer (some ⟨qa, 0, none⟩), .int .i64 0, .pointer (some ⟨qb, 0, none⟩), .int .i64 0, .int .i64 (n : Int), .pointer (some ⟨gs, 0, none⟩), .int .i64 0, .bool false, .bool false, .slice none 0 0, .bool false] 67)
  have s1 := a3.size
  have s2 := b3.size
  have s3 := c3.size
  refine ⟨w3.heap.size, qa, qb, gs, rfl, ⟨a1, by omega, by omega, lc⟩, new_at _ _, (hal.block qa (by omega)).trans ((c3.block qa (by omega)).trans ((b3.block qa la).trans a2)), (hal.block qb (by omega)).trans ((c3.block qb lb).trans b2), (hal.block gs lc).trans c2, ?_⟩
  exact ((a3.trans (b3.mono s1)).trans (c3.mono (by omega))).trans (hal.mono (by omega))
theorem Fz.kp {own own' : Nat → Nat} {W w' : World} {S : Nat → Prop} (h : Fz own own' W w') (hS : ∀ k, k < W.heap.size → own k ≠ 0 → S k) : Kp S W w' :=
  ⟨h.os, h.tape, h.output, h.size, fun k hk hn => (h.blk k hk (Decidable.byContradiction fun e => hn (hS k hk e))).1⟩
/-- The printer's state, whatever lies in the table. -/
structure S0 (own : Nat → Nat) (W : World) (g N gs qh qw : Nat) (v : Value) (csh csw : List (Nat × List Nat)) (c : CS) : Prop where
  nf : Nf own W
  z : own 1 = 0
  lab : own g = 2
  blk : W.heap[g]? = some (.cells (pg9 (hdr qh qw c) N gs c.pr.bl v c.pr.en) 67 (0, 0))
  ar : W.ownsRow 0 61 3 v c.pr.ar.length (flat bk9 c.pr.ar.reverse) ∧ ∀ k, v.ownBlock = some k → own k = 2
  sk : SK own 1 W gs c.pr.sk
  rh : Rw9 own 0 W qh csh
  hl : fl csh = c.hl
  rw : Rw9 own 1 W qw csw
  wl : fl csw = c.wl
  pm : ∀ b x, c.m b = some x → W.heap[b]? = some (.cells (pxc x) 123 (0, 0)) ∧ own b = 5
section
variable {own : Nat → Nat} {W : World} {g N gs qh qw : Nat} {v : Value} {csh csw : List (Nat × List Nat)} {c : CS}
theorem S0.st (h : S0 own W g N gs qh qw v csh csw c) (hT : Tab W) : ST own W g N gs qh qw v csh csw c := ⟨⟨h.nf, hT, h.z⟩, h.lab, h.blk, h.ar, h.sk, h.rh, h.hl, h.rw, h.wl, h.pm⟩
theorem ST.s0 (h : ST own W g N gs qh qw v csh csw c) : S0 own W g N gs qh qw v csh csw c := ⟨h.en.nf, h.en.z, h.lab, h.blk, h.ar, h.sk, h.rh, h.hl, h.rw, h.wl, h.pm⟩
theorem S0.kept {w' : World} (h : S0 own W g N gs qh qw v csh csw c) (hf : FrP (fun i => i = 0) own own W w') : S0 own w' g N gs qh qw v csh csw c := by
  refine ⟨h.nf.below hf.size, h.z, h.lab, (hf.block g (blk_lt h.blk) (by rw [h.lab]; omega)).trans h.blk, rowP hf (by omega) h.ar, h.sk.keptP hf (by omega), h.rh.kept hf (fun i hi e => by unfold Lr at hi; omega), h.hl, h.rw.kept hf (fun i hi e => by unfold Lr at hi; omega), h.wl, fun b x hb => ?_⟩
  obtain ⟨a1, a2⟩ := h.pm b x hb
  exact ⟨(hf.block b (blk_lt a1) (by rw [a2]; omega)).trans a1, a2⟩
end
/-- The code's printer, as the statements see it. -/
def Rc (S : Nat → Prop) (W : World) (g N : Nat) (s : S9) : Prop :=
  (s.cl = false ∧ ∃ own gs qh qw v csh csw c rl l, S0 own W g N gs qh qw v csh csw c ∧ (∀ k, k < W.heap.size → own k ≠ 0 → S k) ∧ c.wl = rl.reverse ∧ WI c.m c.tot c.hl rl s.wt s.dp ∧ c.op = s.dp ∧ c.pr = cutP s.pr ∧ Sin N l s ∧ Fe s.pr s.wt)
  ∨ (s.cl = true ∧ s.wt = [] ∧ W.heap[g]? = some (.cells dn9 67 (0, 0)) ∧ S g)
theorem T9.rc {own : Nat → Nat} {W w' : World} {g N : Nat} {c' : CS} {S : Nat → Prop} (h : T9 own W w' g N c') (hS : ∀ k, k < W.heap.size → own k ≠ 0 → S k) (hn : Nw S W.heap.size) {s' : S9} (hcl : s'.cl = false) (hw : ∃ rl', c'.wl = rl'.reverse ∧ WI c'.m c'.tot c'.hl rl' s'.wt s'.dp) (hop : c'.op = s'.dp) (hpr : c'.pr = cutP s'.pr) {l : List Dc} (hsin : Sin N l s') (hfe : Fe s'.pr s'.wt) : Rc S w' g N s' ∧ Kp S W w' := by
  obtain ⟨o, gs, qh, qw, v, csh, csw, k1, k2⟩ := h
  obtain ⟨rl', w1, w2⟩ := hw
  refine ⟨.inl ⟨hcl, o, gs, qh, qw, v, csh, csw, c', rl', l, k1.s0, fun k hk hne => ?_, w1, w2, hop, hpr, hsin, hfe⟩, k2.kp hS⟩
  rcases Nat.lt_or_ge k W.heap.size with hl | hl
  · exact hS k hl (fun e => hne (k2.blk k hl e).2)
  · exact hn k hl
theorem told_same {s : S9} : (⟨(s.told s).toArray⟩ : ByteArray) = ⟨#[]⟩ := by rw [told_self]
theorem rc_below {S : Nat → Prop} {W w' : World} {g N : Nat} {s : S9} (h : Rc S W g N s) (hb : Below W.heap.size W w') : Rc S w' g N s := by
  rcases h with ⟨h1, own, gs, qh, qw, v, csh, csw, c, rl, l, h2, h3, h4⟩ | ⟨h1, h2, h3, h4⟩
  · refine .inl ⟨h1, own, gs, qh, qw, v, csh, csw, c, rl, l, h2.kept (FrP.of_below hb), fun k hk hne => ?_, h4⟩
    rcases Nat.lt_or_ge k W.heap.size with hl | hl
    · exact h3 k hl hne
    · exact absurd (h2.nf k hl) hne
  · exact .inr ⟨h1, h2, blk_below h3 hb, h4⟩
/-- THE INTERFACE, of the code that landed. -/
theorem ctr9 : Ctr Rc := by
  refine ⟨?_, ?_, ?_, ?_, ?_, ?_, ?_⟩
  · intro S S' W g N s h hs
    rcases h with ⟨h1, own, gs, qh, qw, v, csh, csw, c, rl, l, h2, h3, h4⟩ | ⟨h1, h2, h3, h4⟩
    · exact .inl ⟨h1, own, gs, qh, qw, v, csh, csw, c, rl, l, h2, fun k hk hne => hs k hk (h3 k hk hne), h4⟩
    · exact .inr ⟨h1, h2, h3, hs g (blk_lt h3) h4⟩
  · intro S T W W' g N s h hk hd
    rcases h with ⟨h1, own, gs, qh, qw, v, csh, csw, c, rl, l, h2, h3, h4⟩ | ⟨h1, h2, h3, h4⟩
    · have hf : FrP (fun i => i = 0) own own W W' := ⟨hk.os, hk.tape, hk.output, hk.size, fun k hl hne => hk.block k hl (fun e => hd k hl (h3 k hl hne) e), fun _ _ _ => rfl⟩
      refine .inl ⟨h1, own, gs, qh, qw, v, csh, csw, c, rl, l, h2.kept hf, fun k hl hne => ?_, h4⟩
      rcases Nat.lt_or_ge k W.heap.size with hl2 | hl2
      · exact h3 k hl2 hne
      · exact absurd (h2.nf k hl2) hne
    · exact .inr ⟨h1, h2, (hk.block g (blk_lt h3) (fun e => hd g (blk_lt h3) h4 e)).trans h3, h4⟩
  · intro n W h _
    exact snew_bad n h W
  · intro S n W h1 h2 hS hT
    refine (snew_any n h1 h2 W).mono ?_
    rintro e w' ⟨g, qa, qb, gs, rfl, ⟨l1, l2, l3, l4⟩, b1, b2, b3, b4, hb⟩
    refine ⟨g, rfl, .inl ⟨rfl, fun k => if k = g then 2 else if k = gs then 1 else if k = qa then 3 else if k = qb then 4 else 0, gs, qa, qb, .slice none 0 0, [], [], cs0, [], [], ⟨fun k hk => ?_, ?_, if_pos rfl, b1, ⟨World.ownsRow_nil _ _ _ _, fun k h => by cases h⟩, ?_, ?_, rfl, ?_, rfl, fun b x hx => by cases hx⟩, fun k hk hne => ?_, rfl, wi0 0, rfl, rfl, sin0 n, fe0 _⟩, hb⟩
    · have := blk_lt b1
      show (if k = g then 2 else if k = gs then 1 else if k = qa then 3 else if k = qb then 4 else 0) = 0
      rw [if_neg (by omega), if_neg (by omega), if_neg (by omega), if_neg (by omega)]
    · have := hT.pos
      show (if 1 = g then 2 else if 1 = gs then 1 else if 1 = qa then 3 else if 1 = qb then 4 else 0) = 0
      rw [if_neg (by omega), if_neg (by omega), if_neg (by omega), if_neg (by omega)]
    · refine ⟨?_, .slice none 0 0, .slice none 0 0, [], [], b4, ⟨World.ownsRow_nil _ _ _ _, fun k h => by cases h⟩, ⟨World.ownsRow_nil _ _ _ _, fun k h => by cases h⟩, Nat.zero_le _, rfl, Nat.le_refl _, fun x h => by cases h⟩
      show (if gs = g then 2 else if gs = gs then 1 else _) = 1
      rw [if_neg (by omega), if_pos rfl]
    · refine ⟨by omega, ⟨.slice none 0 0, [], 0, ⟨b2, ?_, by omega, by omega, by simp, .inl ⟨rfl, rfl, rfl⟩, ⟨by simp, fun i hi => absurd hi (by simp)⟩⟩⟩, fun x hx => (nomatch hx), fun x hx => (by simp at hx), List.nodup_nil⟩
      show (if qa = g then 2 else if qa = gs then 1 else if qa = qa then 3 else _) = 3
      rw [if_neg (by omega), if_neg (by omega), if_pos rfl]
    · refine ⟨by omega, ⟨.slice none 0 0, [], 0, ⟨b3, ?_, by omega, by omega, by simp, .inl ⟨rfl, rfl, rfl⟩, ⟨by simp, fun i hi => absurd hi (by simp)⟩⟩⟩, fun x hx => (nomatch hx), fun x hx => (by simp at hx), List.nodup_nil⟩
      show (if qb = g then 2 else if qb = gs then 1 else if qb = qa then 3 else if qb = qb then 4 else 0) = 4
      rw [if_neg (by omega), if_neg (by omega), if_neg (by omega), if_pos rfl]
    · have hne' : (if k = g then 2 else if k = gs then 1 else if k = qa then 3 else if k = qb then 4 else 0) ≠ 0 := hne
      refine hS k ?_
      by_cases e1 : k = g
      · omega
      · by_cases e2 : k = gs
        · omega
        · by_cases e3 : k = qa
          · omega
          · by_cases e4 : k = qb
            · omega
            · rw [if_neg e1, if_neg e2, if_neg e3, if_neg e4] at hne'
              exact absurd rfl hne'
  · intro S W g N s d T C hR hS hT hN hb hds hTT hCC
    have hR0 := hR
    rcases hR with ⟨h1, own, gs, qh, qw, v, csh, csw, c, rl, l, h2, h3, h4, h5, h6, h7, h8, h9⟩ | ⟨h1, h2, h3, h4⟩
    · have hst := h2.st hT
      by_cases hg : rt d = true ∧ ¬ (d.k = 7 ∧ s.dp = 0)
      · have hg' : rt d = true ∧ ¬ (d.k = 7 ∧ c.op = 0) := by rw [h6]; exact hg
        have e2 : (s.put N d).2 = 0 := by unfold S9.put; rw [if_neg (by rw [h1]; simp), if_pos hg]
        have ecl : (s.put N d).1.cl = false := by unfold S9.put; rw [if_neg (by rw [h1]; simp), if_pos hg]
        rw [e2]
        refine (sput_good hst d hds hg' h4 h5 h6 h7 hb hTT hCC hN h8 h9).mono ?_
        rintro e w' ⟨rfl, c', t1, t2, t3, t4, t5, t6⟩
        exact ⟨rfl, t1.rc h3 hS ecl t2 t3 t4 t5 t6⟩
      · have hg' : ¬ (rt d = true ∧ ¬ (d.k = 7 ∧ c.op = 0)) := by rw [h6]; exact hg
        have e2 : s.put N d = (s, 70) := by unfold S9.put; rw [if_neg (by rw [h1]; simp), if_neg hg]
        rw [e2]
        refine (sput_bad hst d hds hg').mono ?_
        rintro e w' ⟨rfl, hbl⟩
        exact ⟨by rw [told_same], rc_below hR0 hbl, Kp.of_below hbl⟩
    · have e2 : s.put N d = (s, 4) := by unfold S9.put; rw [if_pos h1]
      rw [e2]
      refine (sput_done d g W (blk_cell h3 rfl)).mono ?_
      rintro e w' ⟨rfl, hbl⟩
      exact ⟨by rw [told_same], rc_below hR0 hbl, Kp.of_below hbl⟩
  · intro S W g N s T C hR hS hT hN hb hTT hCC
    have hR0 := hR
    rcases hR with ⟨h1, own, gs, qh, qw, v, csh, csw, c, rl, l, h2, h3, h4, h5, h6, h7, h8, h9⟩ | ⟨h1, h2, h3, h4⟩
    · have hst := h2.st hT
      by_cases h0 : s.dp = 0
      · have e2 : s.close N = (⟨cls N s.pr s.wt, [], s.dp, true⟩, 0) := by unfold S9.close; rw [if_neg (by rw [h1]; simp), if_neg (by omega)]
        have e3 : (s.close N).2 = 0 := by rw [e2]
        rw [e3]
        refine (sclose_good hst h4 h5 h6 h0 h7 hb hTT hCC hN h8 h9).mono ?_
        rintro e w' ⟨rfl, hbk, own', hz⟩
        refine ⟨rfl, .inr ⟨by rw [e2], by rw [e2], hbk, h3 g (blk_lt h2.blk) (by rw [h2.lab]; omega)⟩, hz.kp h3⟩
      · have e2 : s.close N = (s, 70) := by unfold S9.close; rw [if_neg (by rw [h1]; simp), if_pos (by omega)]
        rw [e2]
        refine (sclose_open hst (by omega)).mono ?_
        rintro e w' ⟨rfl, rfl⟩
        exact ⟨by rw [told_same], hR0, Kp.refl _ _⟩
    · have e2 : s.close N = (s, 4) := by unfold S9.close; rw [if_pos h1]
      rw [e2]
      refine (sclose_done g W (blk_cell h3 rfl)).mono ?_
      rintro e w' ⟨rfl, rfl⟩
      exact ⟨by rw [told_same], hR0, Kp.refl _ _⟩
  · intro S W g N s hR _ hT
    rcases hR with ⟨h1, own, gs, qh, qw, v, csh, csw, c, rl, l, h2, h3, h4, h5, h6, h7, h8, h9⟩ | ⟨h1, h2, h3, h4⟩
    · have hst := h2.st hT
      have := sheld_any g _ W hst.c4
      rw [h5.hi.len] at this
      refine this.mono ?_
      rintro e w' ⟨rfl, rfl⟩
      exact ⟨rfl, Below.refl _ _⟩
    · rw [h2]
      refine (sheld_any g 0 W (blk_cell h3 rfl)).mono ?_
      rintro e w' ⟨rfl, rfl⟩
      exact ⟨rfl, Below.refl _ _⟩
theorem ctrNil9 : CtrNil := ⟨fun d W => sput_nil d W, fun W => sclose_nil W, fun W => (sheld_nil W).mono fun e w' ⟨a, b⟩ => ⟨a, by rw [b]; exact Below.refl _ _⟩⟩
end Go.Proofs.YtmjhfabdbajchaaGreatDoor
