import Derived.Test.YtcokccfbeonlnaaDoorHb
import Derived.Test.YtcokccfbeonlnaaDoorDe
import Derived.RangeFuncOwn
set_option linter.unusedVariables false
set_option linter.unusedSimpArgs false
namespace Go.Proofs.YtcokccfbeonlnaaDoor
open Go.RowKit

theorem Tryd.info105 : (Tryd.prog.info? 105).map (fun i => (i.zero, i.size, i.bytes)) = some (some (.agg #[.int .i64 0, .int .i64 0]), 2, 16) := by kernel_rfl

/-- How the teller stands: the block's span, and those around it (the innermost first). -/
structure TL (B : Nat) (w : World) (gb ga : Nat) (s : Sp) (st : List Sp) : Prop where
  hb : w.heap[gb]? = some (.cells #[.int .i64 s.all, .int .i64 s.hang] 105 (0, 0))
  ha : ∃ v, w.heap[ga]? = some (.cells #[v] 106 (0, 0)) ∧ w.ownsRow 0 105 2 v st.length (flat spc st.reverse) ∧ ∀ k, v.ownBlock = some k → B ≤ k ∧ k ≠ gb
theorem TL.ne {B : Nat} {w : World} {gb ga : Nat} {s : Sp} {st : List Sp} (h : TL B w gb ga s st) : ga ≠ gb := by
  obtain ⟨v, h1, _⟩ := h.ha
  rintro rfl
  have := h.hb
  rw [h1] at this
  injection this with e
  injection e with _ e
  exact absurd e (by decide)
theorem TL.sub {B : Nat} {w w' : World} {gb ga : Nat} {s s' : Sp} {st : List Sp} (h : TL B w gb ga s st) (hk : Kp (fun k => k = gb) w w') (hb : w'.heap[gb]? = some (.cells #[.int .i64 s'.all, .int .i64 s'.hang] 105 (0, 0))) : TL B w' gb ga s' st := by
  have hne := h.ne
  obtain ⟨v, h1, h2, h3⟩ := h.ha
  exact ⟨hb, ⟨v, hk.blk h1 hne, hk.row h2 (fun k e1 e2 => (h3 k e1).2 e2), h3⟩⟩
theorem TL.below {B : Nat} {w w' : World} {gb ga : Nat} {s : Sp} {st : List Sp} (h : TL B w gb ga s st) (hb : Below w.heap.size w w') : TL B w' gb ga s st := by
  obtain ⟨v, h1, h2, h3⟩ := h.ha
  exact ⟨blk_below h.hb hb, ⟨v, blk_below h1 hb, row_below h2 hb, h3⟩⟩
/-- What the teller's calls may turn: its two blocks, and what is new. -/
def Sx (B gb ga : Nat) (k : Nat) : Prop := k = gb ∨ k = ga ∨ B ≤ k
theorem Kp.wide {S T : Nat → Prop} {w w' : World} (h : Kp S w w') (hST : ∀ k, S k → T k) : Kp T w w' := ⟨h.os, h.tape, h.output, h.size, fun k hk hT => h.block k hk (fun hs => hT (hST k hs))⟩
/-- All else stands, and all that is no cells. -/
def Bo (B gb ga : Nat) (w w' : World) : Prop := Kp (Sx B gb ga) w w' ∧ KeepsOthers w w'
theorem Bo.refl (B gb ga : Nat) (w : World) : Bo B gb ga w w := ⟨Kp.refl _ _, KeepsOthers.refl _⟩
theorem Bo.trans {B gb ga : Nat} {a b c : World} (h : Bo B gb ga a b) (k : Bo B gb ga b c) : Bo B gb ga a c := ⟨h.1.trans k.1, h.2.trans k.2⟩
theorem Bo.size {B gb ga : Nat} {a b : World} (h : Bo B gb ga a b) : a.heap.size ≤ b.heap.size := h.1.size
theorem ko_below {w w' : World} (h : Below w.heap.size w w') : KeepsOthers w w' := ⟨h.size, fun k o hk _ => (h.block k (blk_lt hk)).trans hk⟩
theorem Bo.of_below {B gb ga : Nat} {w w' : World} (h : Below w.heap.size w w') : Bo B gb ga w w' := ⟨Kp.of_below h, ko_below h⟩
theorem ko_kp {S : Nat → Prop} {w w' : World} (h : Kp S w w') (hS : ∀ k, S k → ∀ o, w.heap[k]? = some o → o.isCells = true) : KeepsOthers w w' :=
  ⟨h.size, fun k o hk ho => h.blk hk (fun hs => by rw [hS k hs o hk] at ho; cases ho)⟩
theorem cells_of {w : World} {g : Nat} {cs : Array Value} {T : TypeId} {f : Nat × Nat} (h : w.heap[g]? = some (.cells cs T f)) : ∀ o, w.heap[g]? = some o → o.isCells = true := by
  intro o ho
  rw [h] at ho
  cases ho
  rfl
/-- Behind a widening. -/
theorem widen_tl {B : Nat} {w : World} {gb ga : Nat} {s : Sp} {st : List Sp} (h : TL B w gb ga s st) (hs : Sb s) (c : Nat) (hc : c ≤ 1000000000) (hB : B ≤ w.heap.size) :
    Calls Tryd.prog 58 #[.pointer (some ⟨gb, 0, none⟩), .int .i64 c] w fun e w' => e = .returned (.tuple #[]) ∧ TL B w' gb ga (s.wid c) st ∧ Bo B gb ga w w' := by
  refine (widen_any gb s c w h.hb hs hc).mono ?_
  rintro e w' ⟨rfl, h1, h2⟩
  exact ⟨rfl, h.sub h2 h1, h2.wide (fun k e => .inl e), ko_kp h2 (fun k e => by subst e; exact cells_of h.hb)⟩
theorem TL.hang0 {B : Nat} {w : World} {gb ga : Nat} {s : Sp} {st : List Sp} (h : TL B w gb ga s st) (hB : B ≤ w.heap.size) : TL B (w.setCell ⟨gb, 1, none⟩ (.int .i64 0)) gb ga ⟨s.all, 0⟩ st ∧ Bo B gb ga w (w.setCell ⟨gb, 1, none⟩ (.int .i64 0)) := by
  have hk := Kp.set w gb 1 (.int .i64 0)
  exact ⟨h.sub hk (blk_set h.hb 1 _), hk.wide (fun k e => .inl e), ko_kp hk (fun k e => by subst e; exact cells_of h.hb)⟩

/-- What a call of the teller leaves. -/
def TA (B : Nat) (w : World) (gb ga : Nat) (r : Nat × Sp × List Sp) (e : Ending) (w' : World) : Prop := e = .returned (.int .i64 r.1) ∧ TL B w' gb ga r.2.1 r.2.2 ∧ Bo B gb ga w w'

set_option maxHeartbeats 1000000 in
set_option maxRecDepth 100000 in
theorem tell_text {B : Nat} {w : World} {gb ga : Nat} {s : Sp} {st : List Sp} (h : TL B w gb ga s st) (hs : Sb s) (hB : B ≤ w.heap.size) (hT : ∀ W, Kp (Sx B gb ga) w W → Tab W) (t : ByteArray) (ht : t.size ≤ 65535) :
    Calls Tryd.prog 57 #[.agg #[.int .u8 1, .string t, .int .i64 0, .int .i64 0, .bool false], .pointer (some ⟨ga, 0, none⟩), .pointer (some ⟨gb, 0, none⟩)] w fun e w' => TA B w gb ga (0, s.wid (cols t), st) e w' := by
  have hcb : cols t ≤ 1000000000 := by have := tw_bd t; unfold cols; split <;> omega
  have HC : Hid (∀ W, Bo B gb ga w W → Calls Tryd.prog 59 #[.string t] W fun e w' => e = .returned (.int .i64 (cols t)) ∧ Below W.heap.size W w') := fun W hW => columns_any t W (hT W hW.1) (by omega)
  have HW : Hid (∀ W, Bo B gb ga w W → TL B W gb ga s st → Calls Tryd.prog 58 #[.pointer (some ⟨gb, 0, none⟩), .int .i64 (cols t)] W fun e w' => e = .returned (.tuple #[]) ∧ TL B w' gb ga (s.wid (cols t)) st ∧ Bo B gb ga W w') := fun W hW hL => widen_tl hL hs _ hcb (Nat.le_trans hB hW.size)
  have H : Hid (TL B w gb ga s st ∧ B ≤ w.heap.size) := ⟨h, hB⟩
  have HA : Hid (∀ o, Bo B gb ga w (w.alloc o) ∧ TL B (w.alloc o) gb ga s st) := fun o => ⟨Bo.of_below ((Below.refl _ _).alloc (Nat.le_refl _) _), h.below ((Below.refl _ _).alloc (Nat.le_refl _) _)⟩
  clear h hB hT
  generalize cols t = c at *
  go_enter Tryd.func57, Tryd.ntmps57
  go_wp2_with (first | (go_at_call 59; refine (HC.out _ (HA.out _).1).mono ?_; rintro e w1 ⟨rfl, hb1⟩; have H1 : Hid (Bo B gb ga w w1 ∧ TL B w1 gb ga s st) := ⟨(HA.out _).1.trans (Bo.of_below hb1), (HA.out _).2.below hb1⟩; clear hb1) | (go_at_call 58; refine (HW.out _ H1.out.1 H1.out.2).mono ?_; rintro e w2 ⟨rfl, h2, hb2⟩; have H2 : Hid (TL B w2 gb ga (s.wid c) st ∧ Bo B gb ga w w2) := ⟨h2, H1.out.1.trans hb2⟩; clear h2 hb2))
  go_ret
  exact ⟨rfl, H2.out.1, H2.out.2⟩

set_option maxHeartbeats 1000000 in
set_option maxRecDepth 100000 in
theorem tell_blank {B : Nat} {w : World} {gb ga : Nat} {s : Sp} {st : List Sp} (h : TL B w gb ga s st) (hs : Sb s) (hB : B ≤ w.heap.size) :
    Calls Tryd.prog 57 #[.agg #[.int .u8 2, .string ⟨#[]⟩, .int .i64 0, .int .i64 0, .bool false], .pointer (some ⟨ga, 0, none⟩), .pointer (some ⟨gb, 0, none⟩)] w fun e w' => TA B w gb ga (0, s.wid 1, st) e w' := by
  have HW : Hid (∀ W, Bo B gb ga w W → TL B W gb ga s st → Calls Tryd.prog 58 #[.pointer (some ⟨gb, 0, none⟩), .int .i64 1] W fun e w' => e = .returned (.tuple #[]) ∧ TL B w' gb ga (s.wid 1) st ∧ Bo B gb ga W w') := fun W hW hL => widen_tl hL hs 1 (by omega) (Nat.le_trans hB hW.size)
  have HA : Hid (∀ o, Bo B gb ga w (w.alloc o) ∧ TL B (w.alloc o) gb ga s st) := fun o => ⟨Bo.of_below ((Below.refl _ _).alloc (Nat.le_refl _) _), h.below ((Below.refl _ _).alloc (Nat.le_refl _) _)⟩
  clear h hB
  go_enter Tryd.func57, Tryd.ntmps57
  go_wp2_with (first | (go_at_call 58; refine (HW.out _ (HA.out _).1 (HA.out _).2).mono ?_; rintro e w2 ⟨rfl, h2, hb2⟩; have H2 : Hid (TL B w2 gb ga (s.wid 1) st ∧ Bo B gb ga w w2) := ⟨h2, (HA.out _).1.trans hb2⟩; clear h2 hb2))
  go_ret
  exact ⟨rfl, H2.out.1, H2.out.2⟩

set_option maxHeartbeats 1000000 in
set_option maxRecDepth 100000 in
theorem tell_hard {B : Nat} {w : World} {gb ga : Nat} {s : Sp} {st : List Sp} (h : TL B w gb ga s st) (hs : Sb s) (hB : B ≤ w.heap.size) (k : Int) (hk : k = 4 ∨ k = 5) :
    Calls Tryd.prog 57 #[.agg #[.int .u8 k, .string ⟨#[]⟩, .int .i64 0, .int .i64 0, .bool false], .pointer (some ⟨ga, 0, none⟩), .pointer (some ⟨gb, 0, none⟩)] w fun e w' => TA B w gb ga (0, ⟨(s.wid 4097).all, 0⟩, st) e w' := by
  have HW : Hid (∀ W, Bo B gb ga w W → TL B W gb ga s st → Calls Tryd.prog 58 #[.pointer (some ⟨gb, 0, none⟩), .int .i64 4097] W fun e w' => e = .returned (.tuple #[]) ∧ TL B w' gb ga (s.wid 4097) st ∧ Bo B gb ga W w') := fun W hW hL => widen_tl hL hs 4097 (by omega) (Nat.le_trans hB hW.size)
  have HA : Hid (∀ o, Bo B gb ga w (w.alloc o) ∧ TL B (w.alloc o) gb ga s st) := fun o => ⟨Bo.of_below ((Below.refl _ _).alloc (Nat.le_refl _) _), h.below ((Below.refl _ _).alloc (Nat.le_refl _) _)⟩
  have HB : Hid (B ≤ w.heap.size) := hB
  clear h hB
  rcases hk with rfl | rfl
  all_goals
    go_enter Tryd.func57, Tryd.ntmps57
    go_wp2_with (first | (go_at_call 58; refine (HW.out _ (HA.out _).1 (HA.out _).2).mono ?_; rintro e w2 ⟨rfl, h2, hb2⟩; have f1 := blk_frozen (k := 1) h2.hb; have c1 := blk_cell (k := 1) h2.hb rfl; have H2 : Hid (TL B w2 gb ga (s.wid 4097) st ∧ Bo B gb ga w w2) := ⟨h2, (HA.out _).1.trans hb2⟩; clear h2 hb2))
    go_ret
    have h3 := H2.out.1.hang0 (Nat.le_trans HB.out H2.out.2.size)
    exact ⟨rfl, h3.1, H2.out.2.trans h3.2⟩

set_option maxHeartbeats 1000000 in
set_option maxRecDepth 100000 in
theorem tell_brk {B : Nat} {w : World} {gb ga : Nat} {s : Sp} {st : List Sp} (h : TL B w gb ga s st) (hs : Sb s) (hB : B ≤ w.heap.size) (b : Nat) (hb : b ≤ 1000) :
    Calls Tryd.prog 57 #[.agg #[.int .u8 3, .string ⟨#[]⟩, .int .i64 b, .int .i64 0, .bool false], .pointer (some ⟨ga, 0, none⟩), .pointer (some ⟨gb, 0, none⟩)] w fun e w' => TA B w gb ga ((s.wid b).hang, ⟨(s.wid b).all, 0⟩, st) e w' := by
  have HW : Hid (∀ W, Bo B gb ga w W → TL B W gb ga s st → Calls Tryd.prog 58 #[.pointer (some ⟨gb, 0, none⟩), .int .i64 b] W fun e w' => e = .returned (.tuple #[]) ∧ TL B w' gb ga (s.wid b) st ∧ Bo B gb ga W w') := fun W hW hL => widen_tl hL hs b (by omega) (Nat.le_trans hB hW.size)
  have HA : Hid (∀ o, Bo B gb ga w (w.alloc o) ∧ TL B (w.alloc o) gb ga s st) := fun o => ⟨Bo.of_below ((Below.refl _ _).alloc (Nat.le_refl _) _), h.below ((Below.refl _ _).alloc (Nat.le_refl _) _)⟩
  have HB : Hid (B ≤ w.heap.size) := hB
  clear h hB
  go_enter Tryd.func57, Tryd.ntmps57
  go_wp2_with (first | (go_at_call 58; refine (HW.out _ (HA.out _).1 (HA.out _).2).mono ?_; rintro e w2 ⟨rfl, h2, hb2⟩; have f1 := blk_frozen (k := 1) h2.hb; have c1 := blk_cell (k := 1) h2.hb rfl; have H2 : Hid (TL B w2 gb ga (s.wid b) st ∧ Bo B gb ga w w2) := ⟨h2, (HA.out _).1.trans hb2⟩; clear h2 hb2))
  go_ret
  have h3 := H2.out.1.hang0 (Nat.le_trans HB.out H2.out.2.size)
  exact ⟨rfl, h3.1, H2.out.2.trans h3.2⟩
end Go.Proofs.YtcokccfbeonlnaaDoor
