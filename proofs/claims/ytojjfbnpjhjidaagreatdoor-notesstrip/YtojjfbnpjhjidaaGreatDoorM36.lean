import Derived.RangeFuncOwn
import Derived.RangeFuncNested
import Derived.RangeFuncBound
import Derived.RangeFuncCalls
import Derived.RangeFuncLeaves
import Derived.Shelf.Abstract
import Derived.Shelf.RegionOpen
import Derived.OwnWalkIn
import Derived.TacticsInMore
import Derived.LoopNIn
import Derived.LoopIn
import Derived.Test.YtojjfbnpjhjidaaGreatDoorM34
set_option linter.unusedVariables false
set_option linter.unusedSimpArgs false
namespace Go.Proofs.YtojjfbnpjhjidaaGreatDoor
open Go.RowKit Go.Shelf
attribute [local go_sem] Oper.semAt_some
def Goes (F : Fence) (n : Nat) (P : Program) (gf : Nat) (lb : Array Value) (it : Nat → Array Value) (N : Nat) (G : World → Prop) : Prop :=
  ∀ (l : Nat) (J : Nat → World → Prop) (W : World), (∀ j W, J j W → G W) → AbidesFrom W.heap.size J → (∀ j W1, j < N → J j W1 → YieldAt F (n - 1) P l (it j) W1 fun e W' => e = .returned (.bool true) ∧ J (j + 1) W') → J 0 W →
    CallsIn F n P gf (#[.func (.yield l) #[] #[]] ++ lb) W fun e W' => (∃ v, e = .returned v) ∧ J N W'
theorem wpIn_goes {F : Fence} {n : Nat} {P : Program} {g : Operand} {ps : Array Tmp} {assign body : Code} {Q : Exit → Act → World → Prop} {a : Act} {w : World} (hro : F.round = none) (h1 : 1 ≤ n) {gf : Nat} {lb : Array Value} (hg : a.eval g = .func (.func gf) #[] lb) (hF : F.fn gf)
    (eg : ∀ args w, (callFunc gf args).run P w = .ok (.enter gf args) w) {it : Nat → Array Value} {N : Nat} {G : World → Prop} (hit : Goes F (n - 1) P gf lb it N G) (hps : ∀ j, (it j).size = ps.size)
    (I : Nat → World → Prop) (hI : OwnFrom w.heap.size I) (hG : ∀ j W, I j W → G W) (h0 : I 0 w) (Ax : Nat → Act → World → Prop) (hAx : ∀ j a', OwnFrom w.heap.size (fun (_ : Unit) W => Ax j a' W))
    (hassign : ∀ (l j : Nat) (W : World) (K : Act → World → Prop), j < N → I j W → (∀ a' W', KeepsFrom w.heap.size W W' → I j W' → Ax j a' W' → K a' W') →
      assign.wpIn (F.inRound l) (n - 1 - 1) P (Exit.then K (fun _ _ _ => False)) { tmps := (ps.zip (it j)).foldl (fun t (p, v) => t.setIfInBounds p v) a.tmps, defers := [] } W)
    (hbody : ∀ (l j : Nat) (a' : Act) (W : World), j < N → I j W → Ax j a' W → body.wpIn (F.inRound l) (n - 1 - 1) P (fun e _ W' => e = .normal ∧ KeepsFrom w.heap.size W W' ∧ I (j + 1) W') a' W)
    (hdone : ∀ (D : Nat) (W : World), w.heap.size ≤ D → I N W → W.heap[D]? = some (.deferred (some [])) → Q .normal { a with defers := { target := .collected D, args := #[] } :: a.defers } W) :
    (Code.rangeFunc g ps assign body).wpIn F n P Q a w := by
  refine wpIn_rangeFunc fun fn hfn => ?_
  rw [hro]
  obtain ⟨L, hL⟩ : ∃ L : LoopState → Loop, ∀ st, L st = { state := st, pending := none, fn, tmps := a.tmps, params := ps, assign, body, defers := w.heap.size } := ⟨_, fun _ => rfl⟩
  have hent := run_enterLoop_outer (P := P) (w := w) fn a.tmps ps assign body
  rw [← hL] at hent
  obtain ⟨V, hV⟩ : ∃ V, (w.alloc (.deferred (some []))).alloc (.loop (L .ready)) = V := ⟨_, rfl⟩
  rw [hV] at hent
  have e1 : (w.alloc (.deferred (some []))).heap.size = w.heap.size + 1 := World.size_alloc _ _
  have vr : V.heap[w.heap.size + 1]? = some (.loop (L .ready)) := by rw [← hV, ← e1]; exact new_at _ _
  have vd : V.heap[w.heap.size]? = some (.deferred (some [])) := by rw [← hV]; exact alloc_at' (new_at _ _) _
  have vs : w.heap.size + 2 ≤ V.heap.size := by rw [← hV, World.size_alloc, e1]; exact Nat.le_refl _
  have vi : I 0 V := by rw [← hV]; exact hI.alloc _ (hI.alloc _ h0)
  refine ⟨w.heap.size + 1, _, V, { target := .fn (.func gf) lb, args := #[.func (.yield (w.heap.size + 1)) #[] #[]] }, V, gf, #[.func (.yield (w.heap.size + 1)) #[] #[]] ++ lb, V, hent, ?_, ?_, ?_, fun _ => h1, ?_⟩
  · simp only [resolve, hg]; simp [go_sem]
  · intro f' hf'; simp [Target.leads] at hf'; subst hf'; exact hF
  · simp [invoke, go_sem, eg]
  refine (hit (w.heap.size + 1) (fun j W => I j W ∧ W.heap[w.heap.size + 1]? = some (.loop (L .ready)) ∧ W.heap[w.heap.size]? = some (.deferred (some []))) V (fun j W h => hG j W h.1) ?_ ?_ ⟨vi, vr, vd⟩).mono ?_
  · intro j A B row hs hgr hr
    refine ⟨hI j A B row hs.1 hgr fun r e => ?_, (grownBy_keeps hgr (fun r e => (hr r e).2) hs.2.1 rfl).trans hs.2.1, (grownBy_keeps hgr (fun r e => (hr r e).2) hs.2.2 rfl).trans hs.2.2⟩
    obtain ⟨hb, o, ho, hw⟩ := hr r e
    exact ⟨by omega, o, ho, Obj.not_cells_of_walk hw⟩
  · rintro j W hj ⟨hi, hr, hd⟩
    have hy := run_yield (P := P) (args := it j) hr (by rw [hL]; exact hps j)
    rw [hL] at hy
    refine ⟨fn, _, assign, body, hy, roundIn_of_wpIn hfn (hassign _ j W _ hj hi ?_)⟩
    intro a' W' hk hi' hax
    have hr' := hk.same _ _ (by omega) hr rfl
    have hd' := hk.same _ _ (Nat.le_refl _) hd rfl
    have hlt := blk_lt hr'
    refine ⟨_, run_beginRound hr' (by rw [hL]), ?_⟩
    obtain ⟨W2, hW2⟩ : ∃ W2, W'.putObj (w.heap.size + 1) (.loop { L .ready with state := .busy }) = W2 := ⟨_, rfl⟩
    have r2 : W2.heap[w.heap.size + 1]? = some (.loop { L .ready with state := .busy }) := by rw [← hW2]; exact World.putObj_heap_same hlt
    have d2 : W2.heap[w.heap.size]? = some (.deferred (some [])) := by rw [← hW2]; exact (World.putObj_heap_other (by omega)).trans hd'
    have i2 : I j W2 := by rw [← hW2]; exact hI.putObj _ hi' (by omega) hr' rfl
    have x2 : Ax j a' W2 := by rw [← hW2]; exact (hAx j a').putObj (s := ()) _ hax (by omega) hr' rfl
    rw [hW2]
    refine wpIn_mono (hbody _ j a' W2 hj i2 x2) ?_
    rintro e a3 W3 ⟨rfl, hk3, i3⟩
    have r3 := hk3.same _ _ (by omega) r2 rfl
    have d3 := hk3.same _ _ (Nat.le_refl _) d2 rfl
    have hend := run_endRound (P := P) none r3
    rw [hL] at hend
    refine ⟨_, _, hend, rfl, hI.putObj _ i3 (by omega) r3 rfl, ?_, (World.putObj_heap_other (by omega)).trans d3⟩
    rw [World.putObj_heap_same (blk_lt r3), hL]
    rfl
  · rintro e W ⟨⟨v, rfl⟩, hi, hr, hd⟩
    have hend := run_endLoop (P := P) hr (by rw [hL]; simp)
    rw [hL] at hend
    exact ⟨none, _, hend, hdone _ _ (Nat.le_refl _) (hI.putObj _ hi (by omega) hr rfl) ((World.putObj_heap_other (by omega)).trans hd)⟩
theorem ko_below {w w' : World} (h : Below w.heap.size w w') : KeepsOthers w w' := ⟨h.size, fun k o hk _ => (h.block k (blk_lt hk)).trans hk⟩
theorem ko_kp {S : Nat → Prop} {w w' : World} (h : Kp S w w') (hS : ∀ k, S k → ∀ o, w.heap[k]? = some o → o.isCells = true) : KeepsOthers w w' :=
  ⟨h.size, fun k o hk ho => h.blk hk (fun hs => by rw [hS k hs o hk] at ho; cases ho)⟩
theorem cells_of {w : World} {g : Nat} {cs : Array Value} {T : TypeId} {f : Nat × Nat} (h : w.heap[g]? = some (.cells cs T f)) : ∀ o, w.heap[g]? = some o → o.isCells = true := by
  intro o ho
  rw [h] at ho
  cases ho
  rfl
theorem keeps_cell {W W' : World} {row : Option Nat} (hg : W.grownBy W' row) (hrow : ∀ r, row = some r → ∃ o : Obj, W.heap[r]? = some o ∧ o.isCells = false) {k : Nat} {cs : Array Value} {T : TypeId} {f : Nat × Nat} (h : W.heap[k]? = some (.cells cs T f)) : W'.heap[k]? = some (.cells cs T f) :=
  (grownBy_keeps_cells hg hrow h rfl).trans h
attribute [local go_sem] Oper.semAt_some
def cms : List Tv → Nat → Nat → List (Tv × Rmk)
  | [], _, _ => []
  | t :: r, i, n => if ntB t = true then (t, ⟨n, t.t, bhB i t⟩) :: cms r (i + 1) n else cms r (i + 1) (n + 1)
theorem cms_rmk : ∀ (l : List Tv) (i n : Nat), (cms l i n).map (·.2) = rmk l i n
  | [], _, _ => rfl
  | t :: r, i, n => by
    have h1 := cms_rmk r (i + 1) n
    have h2 := cms_rmk r (i + 1) (n + 1)
    unfold cms rmk
    split
    · rw [List.map_cons, h1]
    · exact h2
theorem cms_drop {l : List Tv} {j : Nat} {t : Tv} (h : l[j]? = some t) (n : Nat) : cms (l.drop j) j n = if ntB t = true then (t, ⟨n, t.t, bhB j t⟩) :: cms (l.drop (j + 1)) (j + 1) n else cms (l.drop (j + 1)) (j + 1) (n + 1) := by
  have hlt := (List.getElem?_eq_some_iff.1 h).1
  have e : l.drop j = t :: l.drop (j + 1) := by
    rw [List.drop_eq_getElem_cons hlt]
    rw [List.getElem?_eq_getElem hlt] at h
    rw [Option.some.inj h]
  rw [e]
  rfl
def itC (c : List (Tv × Rmk)) (j : Nat) : Array Value := #[((c[j]?).map (fun d => d.1.v)).getD .nilFunc, ((c[j]?).map (fun d => d.2.v)).getD .nilFunc]
theorem itC_at {c : List (Tv × Rmk)} {j : Nat} {d : Tv × Rmk} (h : c[j]? = some d) : itC c j = #[d.1.v, d.2.v] := by
  unfold itC
  rw [h]
  rfl
theorem drop_head {α : Type} {c r : List α} {j : Nat} {d : α} (h : c.drop j = d :: r) : c[j]? = some d ∧ c.drop (j + 1) = r ∧ j < c.length := by
  have hlt : j < c.length := by
    rcases Nat.lt_or_ge j c.length with h1 | h1
    · exact h1
    · rw [List.drop_eq_nil_of_le h1] at h; cases h
  rw [List.drop_eq_getElem_cons hlt] at h
  cases h
  exact ⟨List.getElem?_eq_getElem hlt, rfl, hlt⟩
theorem iscm_any (t : Tv) (W : World) : Calls Tryz.prog 26 #[.agg #[.int .u8 t.k, .string t.t, .int .i64 t.a, .int .i64 t.l, .int .i64 t.c, .int .i64 t.f]] W fun r w' => r = .returned (.bool (ntB t)) ∧ Below W.heap.size W w' := by
  unfold ntB
  obtain ⟨b7, e7⟩ : ∃ b, (t.k == 7) = b := ⟨_, rfl⟩
  obtain ⟨b8, e8⟩ : ∃ b, (t.k == 8) = b := ⟨_, rfl⟩
  rw [e7, e8]
  cases b7 <;> cases b8
  all_goals (
    go_enter Tryz.func26, Tryz.ntmps26
    go_wp2_with fail
    go_ret
    exact ⟨rfl, (Below.refl _ _).alloc (Nat.le_refl _) _⟩)
theorem cmts_any (ao : Option Addr) (n cap : Nat) (w : World) : Calls Tryz.prog 16 #[.slice ao n cap] w fun e w' => e = .returned (.func (.func 25) #[] #[.pointer (some ⟨w.heap.size, 0, none⟩)]) ∧ w' = w.alloc (.cells #[.slice ao n cap] 44) := by
  have hmf : ∀ (fn : Fn) (first cap : Array Value) (w : World), (Instr.makeFunc fn first cap).run Tryz.prog w = .ok (.func fn first cap) w := fun _ _ _ _ => rfl
  go_enter Tryz.func16, Tryz.ntmps16
  go_wp2_with fail
  go_ret
  exact ⟨rfl, rfl⟩
theorem abides_below {β : Type} {B : Nat} {J : β → World → Prop} (h : AbidesFrom B J) {s : β} {V V' : World} (hJ : J s V) (hb : Below V.heap.size V V') : J s V' :=
  h s V V' none hJ ⟨hb.os, hb.tape, hb.output, hb.size, fun k hk _ => hb.block k hk⟩ (fun r e => by cases e)
set_option maxRecDepth 100000 in
set_option maxHeartbeats 2000000 in
theorem cmts_goes (n : Nat) (hn : 1 ≤ n) (Bn : Nat) (ao : Option Addr) (L : List Tv) (cap : Nat) (hl : L.length ≤ 100000000) :
    Goes Fence.wide n Tryz.prog 25 #[.pointer (some ⟨Bn, 0, none⟩)] (itC (cms L 0 0)) (cms L 0 0).length (fun W => W.cell? ⟨Bn, 0, none⟩ = some (.slice ao L.length cap) ∧ Lt W ao L) := by
  intro lp J W hG hA hY h0
  refine callsIn_of_wp Tryz.func25 rfl trivial ?_ rfl
  simp only [Tryz.ntmps25, List.size_toArray, List.length_cons, List.length_nil, Nat.reduceAdd, Nat.reduceSub, Array.replicate_succ, Array.replicate_zero, List.push_toArray, List.append_toArray, List.nil_append, List.cons_append]
  have g0 := (hG 0 W h0).1
  obtain ⟨C, hC⟩ : ∃ C, cms L 0 0 = C := ⟨_, rfl⟩
  have HC : Hid (cms L 0 0 = C) := hC
  rw [hC] at hY ⊢
  clear hC
  gi_wp2
  gi_loopw [3, 8] (fun c i wr => ∃ (k m j : Nat), i = .int .i64 k ∧ c = .int .i64 m ∧ k ≤ L.length ∧ m ≤ k ∧ Hid (C.drop j = cms (L.drop k) k m ∧ j ≤ C.length ∧ J j wr)) (fun _ i _ => L.length - (intOf i).toNat)
  case atStart => exact ⟨0, 0, 0, rfl, rfl, Nat.zero_le _, Nat.le_refl _, ⟨HC.out.symm, Nat.zero_le _, h0⟩⟩
  case round =>
    obtain ⟨k, m, j, rfl, rfl, hk, hmk, HJ⟩ := hrel
    clear g0
    by_cases hlt : k < L.length
    · have q1 : (k : Int) < L.length := by omega
      have q0 : (0 : Int) ≤ k := by omega
      obtain ⟨t, ht⟩ : ∃ t, L[k]? = some t := ⟨_, List.getElem?_eq_getElem hlt⟩
      obtain ⟨b, off, rfl, x0, x1, x2, x3, x4, x5⟩ := (hG j wr HJ.out.2.2).2 k t ht
      obtain ⟨y, hy⟩ : ∃ y, ntB t = y := ⟨_, rfl⟩
      have HI := show Hid _ from iscm_any t
      rw [hy] at HI
      have HT : Hid (L[k]? = some t ∧ ntB t = y) := ⟨ht, hy⟩
      clear hy ht
      gi_wp2
      refine ⟨trivial, ?_⟩
      refine (callsIn_wide.2 (HI.out _)).mono ?_
      rintro r w2 ⟨rfl, hb2⟩
      have hal : Below wr.heap.size wr (wr.alloc (.cells #[.int .u8 t.k, .string t.t, .int .i64 t.a, .int .i64 t.l, .int .i64 t.c, .int .i64 t.f] 50)) := (Below.refl _ _).alloc (Nat.le_refl _) _
      have hk2 : w2.heap[wr.heap.size]? = some (.cells #[.int .u8 t.k, .string t.t, .int .i64 t.a, .int .i64 t.l, .int .i64 t.c, .int .i64 t.f] 50 (0, 0)) := blk_below (new_at _ _) hb2
      have HJ2 : Hid (C.drop j = cms (L.drop k) k m ∧ j ≤ C.length ∧ J j w2) := ⟨HJ.out.1, HJ.out.2.1, abides_below hA HJ.out.2.2 (hal.trans (hb2.mono hal.size))⟩
      obtain ⟨g, hg⟩ : ∃ g, wr.heap.size = g := ⟨_, rfl⟩
      rw [hg] at hk2 ⊢
      have c0 : w2.cell? ⟨g, 0, none⟩ = some (.int .u8 t.k) := blk_cell hk2 rfl
      have c1 : w2.cell? ⟨g, 1, none⟩ = some (.string t.t) := blk_cell hk2 rfl
      have c2 : w2.cell? ⟨g, 2, none⟩ = some (.int .i64 t.a) := blk_cell hk2 rfl
      have c3 : w2.cell? ⟨g, 3, none⟩ = some (.int .i64 t.l) := blk_cell hk2 rfl
      have c4 : w2.cell? ⟨g, 4, none⟩ = some (.int .i64 t.c) := blk_cell hk2 rfl
      have c5 : w2.cell? ⟨g, 5, none⟩ = some (.int .i64 t.f) := blk_cell hk2 rfl
      clear hb2 hal hk2 hg HJ x0 x1 x2 x3 x4 x5 HI
      cases y
      · have HX : Hid (C.drop j = cms (L.drop (k + 1)) (k + 1) (m + 1) ∧ j ≤ C.length ∧ J j w2) := ⟨by rw [HJ2.out.1, cms_drop HT.out.1, HT.out.2]; rfl, HJ2.out.2⟩
        clear hY hA hG
        gi_wp2
        go_roundw
        case rel => exact ⟨k + 1, m + 1, j, by go_num, by go_num, hlt, by omega, HX⟩
        case measure => simp [intOf]; omega
      · have hd := HJ2.out.1
        rw [cms_drop HT.out.1, if_pos HT.out.2] at hd
        obtain ⟨h1, h2, h3⟩ := drop_head hd
        obtain ⟨fn, tmps, assign, body, hy, hR⟩ := hY j w2 h3 HJ2.out.2.2
        rw [itC_at h1] at hy
        dsimp only [Tv.v, Rmk.v] at hy
        have HX : Hid (C.drop (j + 1) = cms (L.drop (k + 1)) (k + 1) m ∧ j + 1 ≤ C.length) := ⟨h2, h3⟩
        clear hY hA hG hd h1 h2 h3 HJ2
        unfold bhB at hy
        obtain ⟨bf, ef⟩ : ∃ bf, (t.f == 0) = bf := ⟨_, rfl⟩
        rw [ef] at hy
        by_cases hj : 0 < k
        case' pos =>
          have r0 : (0 : Int) < k := by omega
          have r2 : decide ((0 : Int) < (k : Int)) = true := decide_eq_true r0
          rw [decide_eq_true hj] at hy
        case' neg =>
          have r0 : ¬ (0 : Int) < k := by omega
          have r2 : decide ((0 : Int) < (k : Int)) = false := decide_eq_false r0
          rw [decide_eq_false hj] at hy
        all_goals (
          cases bf
          all_goals (
            simp only [Bool.and_true, Bool.and_false] at hy
            gi_wp2
            refine hR.mono ?_
            rintro e W3 ⟨rfl, hJ3⟩
            gi_wp2
            go_roundw
            case rel => exact ⟨k + 1, m, j + 1, by go_num, rfl, hlt, by omega, ⟨HX.out.1, HX.out.2, hJ3⟩⟩
            case measure => simp [intOf]; omega))
    · obtain rfl : k = L.length := by omega
      have q1 : ¬ ((L.length : Int) < L.length) := by omega
      have hj : j = C.length := by
        have h1 := HJ.out.1
        rw [List.drop_length] at h1
        have h2 := congrArg List.length h1
        simp [cms] at h2
        have := HJ.out.2.1
        omega
      subst hj
      gi_wp2
      go_end0
      exact ⟨⟨_, rfl⟩, HJ.out.2.2⟩
end Go.Proofs.YtojjfbnpjhjidaaGreatDoor
