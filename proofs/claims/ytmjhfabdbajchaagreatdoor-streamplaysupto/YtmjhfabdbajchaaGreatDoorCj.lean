import Derived.Test.YtmjhfabdbajchaaGreatDoorCg
import Derived.Deep.RegionHeld3
set_option linter.unusedVariables false
set_option linter.unusedSimpArgs false
namespace Go.Proofs.YtmjhfabdbajchaaGreatDoor
open Go.RowKit

/-- Four printers, and what 'plays' was handed. -/
structure X9 (R : (Nat → Prop) → World → Nat → Nat → S9 → Prop) (W0 V0 V : World) (own0 own : Nat → Nat) (gs Ns : Nat → Nat) (ss : Nat → S9) (c1 c2 : Array Value) : Prop where
  d9 : D9 R W0 V own gs Ns ss 4
  sd : Sd own0 own V0 V
  sz : V0.heap.size ≤ V.heap.size
  b1 : V.heap[V0.heap.size]? = some (.cells c1 34 (0, 0))
  o1 : own V0.heap.size = 0
  b2 : V.heap[V0.heap.size + 1]? = some (.cells c2 39 (0, 0))
  o2 : own (V0.heap.size + 1) = 0
section
variable {R : (Nat → Prop) → World → Nat → Nat → S9 → Prop} {W0 V0 V : World} {own0 own : Nat → Nat} {gs Ns : Nat → Nat} {ss ss' : Nat → S9} {c1 c2 : Array Value}
theorem X9.next (h : X9 R W0 V0 V own0 own gs Ns ss c1 c2) {w' : World} {own' : Nat → Nat} (hd : D9 R W0 w' own' gs Ns ss' 4) (hs : Sd own own' V w') (hz : V.heap.size ≤ w'.heap.size) : X9 R W0 V0 w' own0 own' gs Ns ss' c1 c2 := by
  obtain ⟨a1, a2⟩ := hs _ (blk_lt h.b1) h.o1
  obtain ⟨b1, b2⟩ := hs _ (blk_lt h.b2) h.o2
  exact ⟨hd, h.sd.trans h.sz hs, Nat.le_trans h.sz hz, a1.trans h.b1, a2, b1.trans h.b2, b2⟩
theorem X9.below (hC : Ctr R) (h : X9 R W0 V0 V own0 own gs Ns ss c1 c2) {w' : World} (hb : Below V.heap.size V w') : X9 R W0 V0 w' own0 own gs Ns ss c1 c2 :=
  h.next (h.d9.below hC hb) (fun k hk h0 => ⟨hb.block k hk, h0⟩) hb.size
end
def Y9 (R : (Nat → Prop) → World → Nat → Nat → S9 → Prop) (W0 V0 V : World) (own0 : Nat → Nat) (gs Ns : Nat → Nat) (ss : Nat → S9) (c1 c2 : Array Value) : Prop := ∃ own, X9 R W0 V0 V own0 own gs Ns ss c1 c2
theorem keepP {W3 V' : World} {q : Nat} {x y : Value} (hV : Below W3.heap.size W3 V') (c3 : W3.cell? ⟨q, 0, none⟩ = some x) (c4 : W3.cell? ⟨q, 1, none⟩ = some y) : V'.cell? ⟨q, 0, none⟩ = some x ∧ V'.cell? ⟨q, 1, none⟩ = some y ∧ Below W3.heap.size W3 V' :=
  ⟨(hV.cell (World.block_lt_of_cell? _ _ c3)).trans c3, (hV.cell (World.block_lt_of_cell? _ _ c4)).trans c4, hV⟩
theorem zt9 {W1 V w2 : World} (hb : Below V.heap.size V w2) (hV : Below W1.heap.size W1 V) : Below W1.heap.size W1 w2 := hV.trans (hb.mono hV.size)
theorem upd_same {α : Type} (f : Nat → α) (i : Nat) (x : α) : upd f i x i = x := if_pos rfl
theorem upd_ne {α : Type} (f : Nat → α) {i j : Nat} (h : j ≠ i) (x : α) : upd f i x j = f j := if_neg h

set_option maxHeartbeats 4000000 in
set_option maxRecDepth 100000 in
theorem plays_any {R : (Nat → Prop) → World → Nat → Nat → S9 → Prop} (hC : Ctr R) {W0 V : World} {own : Nat → Nat} {gs Ns : Nat → Nat} {ss : Nat → S9} (h : D9 R W0 V own gs Ns ss 4) {i : Nat} (hi1 : 1 ≤ i) (hi2 : i ≤ 2) (heq : ss (i + 2) = ss i) (hNe : Ns (i + 2) = Ns i) (hN : Ns i ≤ 4096) {T C : Nat} (hb : Bud (ss i) T C) (d : Dc) (hd : d.t.size ≤ 9223372036854775807) (on : Int) (en : Bool) (hT : T + ud d ≤ 268435456) (hCC : C + 1 ≤ 100000000) (s' : S9) (hs : s' = if en then ((ss i).close (Ns i)).1 else ((ss i).put (Ns i) d).1) :
    Calls Tryz.prog 12 #[.agg #[.pointer (some ⟨gs i, 0, none⟩), .pointer (some ⟨gs (i + 2), 0, none⟩)], .agg #[.int .u8 d.k, .string d.t, .int .i64 d.b, .int .i64 d.i, .bool d.e, .int .i64 on, .bool en]] V fun e w' => e = .returned (.bool true) ∧ ∃ own', D9 R W0 w' own' gs Ns (upd (upd ss i s') (i + 2) s') 4 ∧ Sd own own' V w' ∧ V.heap.size ≤ w'.heap.size := by
  obtain ⟨gp, hgp⟩ : ∃ gp, gs i = gp := ⟨_, rfl⟩
  obtain ⟨gq, hgq⟩ : ∃ gq, gs (i + 2) = gq := ⟨_, rfl⟩
  rw [hgp, hgq]
  have hbs : Bud s' (T + ud d) (C + 1) := by
    rw [hs]
    split
    · exact (Bud.close hb).mono (by omega) (by omega)
    · exact Bud.put hb d
  have hwl : s'.wt.length ≤ 100000000 := by obtain ⟨_, _, _, _, h4⟩ := hbs; omega
  obtain ⟨wl, hwle⟩ : ∃ wl, s'.wt.length = wl := ⟨_, rfl⟩
  have HX0 : Hid (∀ V1, V1 = (V.alloc (.cells #[.pointer (some ⟨gp, 0, none⟩), .pointer (some ⟨gq, 0, none⟩)] 34)).alloc (.cells #[.int .u8 d.k, .string d.t, .int .i64 d.b, .int .i64 d.i, .bool d.e, .int .i64 on, .bool en] 39) → Y9 R W0 V V1 own gs Ns ss #[.pointer (some ⟨gp, 0, none⟩), .pointer (some ⟨gq, 0, none⟩)] #[.int .u8 d.k, .string d.t, .int .i64 d.b, .int .i64 d.i, .bool d.e, .int .i64 on, .bool en]) := fun V1 e => by
    subst e
    have hbl : Below V.heap.size V ((V.alloc (.cells #[.pointer (some ⟨gp, 0, none⟩), .pointer (some ⟨gq, 0, none⟩)] 34)).alloc (.cells #[.int .u8 d.k, .string d.t, .int .i64 d.b, .int .i64 d.i, .bool d.e, .int .i64 on, .bool en] 39)) := ((Below.refl _ V).alloc (Nat.le_refl _) _).alloc (by rw [World.size_alloc]; omega) _
    exact ⟨own, h.below hC hbl, fun k hk h0 => ⟨hbl.block k hk, h0⟩, hbl.size, blk_below (new_at _ _) ((Below.refl _ _).alloc (Nat.le_refl _) _), h.en.nf _ (Nat.le_refl _), heap_new2 V _ _, h.en.nf _ (by omega)⟩
  have HHP : Hid (∀ V', Hid (Y9 R W0 V V' own gs Ns (upd (upd ss i s') (i + 2) s') #[.pointer (some ⟨gp, 0, none⟩), .pointer (some ⟨gq, 0, none⟩)] #[.int .u8 d.k, .string d.t, .int .i64 d.b, .int .i64 d.i, .bool d.e, .int .i64 on, .bool en]) → Calls Tryz.prog 16 #[.pointer (some ⟨gp, 0, none⟩)] V' fun e w' => e = .returned (.int .i64 (wl : Nat)) ∧ Hid (Y9 R W0 V w' own gs Ns (upd (upd ss i s') (i + 2) s') #[.pointer (some ⟨gp, 0, none⟩), .pointer (some ⟨gq, 0, none⟩)] #[.int .u8 d.k, .string d.t, .int .i64 d.b, .int .i64 d.i, .bool d.e, .int .i64 on, .bool en]) ∧ Below V'.heap.size V' w') := fun V' hV' => by
    obtain ⟨own1, hx⟩ := hV'.out
    have es : upd (upd ss i s') (i + 2) s' i = s' := by rw [upd_ne _ (by omega), upd_same]
    have := D9.heldP hC hx.d9 hi1 hi2 (by rw [es]; exact hwl)
    rw [es, hgp, hwle] at this
    refine this.mono ?_
    rintro e w' ⟨rfl, a1, a2⟩
    exact ⟨rfl, ⟨own1, hx.below hC a2⟩, a2⟩
  have HHQ : Hid (∀ V', Hid (Y9 R W0 V V' own gs Ns (upd (upd ss i s') (i + 2) s') #[.pointer (some ⟨gp, 0, none⟩), .pointer (some ⟨gq, 0, none⟩)] #[.int .u8 d.k, .string d.t, .int .i64 d.b, .int .i64 d.i, .bool d.e, .int .i64 on, .bool en]) → Calls Tryz.prog 23 #[.pointer (some ⟨gq, 0, none⟩)] V' fun e w' => e = .returned (.int .i64 (wl : Nat)) ∧ Hid (Y9 R W0 V w' own gs Ns (upd (upd ss i s') (i + 2) s') #[.pointer (some ⟨gp, 0, none⟩), .pointer (some ⟨gq, 0, none⟩)] #[.int .u8 d.k, .string d.t, .int .i64 d.b, .int .i64 d.i, .bool d.e, .int .i64 on, .bool en]) ∧ Below V'.heap.size V' w') := fun V' hV' => by
    obtain ⟨own1, hx⟩ := hV'.out
    have es : upd (upd ss i s') (i + 2) s' (i + 2) = s' := upd_same _ _ _
    have := D9.heldQ hC hx.d9 (i := i + 2) (by omega) (by omega)
    rw [es, hgq, hwle] at this
    refine this.mono ?_
    rintro e w' ⟨rfl, a1, a2⟩
    exact ⟨rfl, ⟨own1, hx.below hC a2⟩, a2⟩
  have HB : Hid (∀ V' ss2, Hid (Y9 R W0 V V' own gs Ns ss2 #[.pointer (some ⟨gp, 0, none⟩), .pointer (some ⟨gq, 0, none⟩)] #[.int .u8 d.k, .string d.t, .int .i64 d.b, .int .i64 d.i, .bool d.e, .int .i64 on, .bool en]) → V'.cell? ⟨V.heap.size, 0, none⟩ = some (.pointer (some ⟨gp, 0, none⟩)) ∧ V'.cell? ⟨V.heap.size, 1, none⟩ = some (.pointer (some ⟨gq, 0, none⟩)) ∧ V'.cell? ⟨V.heap.size + 1, 0, none⟩ = some (.int .u8 d.k) ∧ V'.cell? ⟨V.heap.size + 1, 1, none⟩ = some (.string d.t) ∧ V'.cell? ⟨V.heap.size + 1, 2, none⟩ = some (.int .i64 d.b) ∧ V'.cell? ⟨V.heap.size + 1, 3, none⟩ = some (.int .i64 d.i) ∧ V'.cell? ⟨V.heap.size + 1, 4, none⟩ = some (.bool d.e) ∧ V'.cell? ⟨V.heap.size + 1, 6, none⟩ = some (.bool en)) := fun V' ss2 hV' => by
    obtain ⟨own1, hx⟩ := hV'.out
    exact ⟨blk_cell hx.b1 rfl, blk_cell hx.b1 rfl, blk_cell hx.b2 rfl, blk_cell hx.b2 rfl, blk_cell hx.b2 rfl, blk_cell hx.b2 rfl, blk_cell hx.b2 rfl, blk_cell hx.b2 rfl⟩
  have HFIN : Hid (∀ V', Hid (Y9 R W0 V V' own gs Ns (upd (upd ss i s') (i + 2) s') #[.pointer (some ⟨gp, 0, none⟩), .pointer (some ⟨gq, 0, none⟩)] #[.int .u8 d.k, .string d.t, .int .i64 d.b, .int .i64 d.i, .bool d.e, .int .i64 on, .bool en]) → ∃ own', D9 R W0 V' own' gs Ns (upd (upd ss i s') (i + 2) s') 4 ∧ Sd own own' V V' ∧ V.heap.size ≤ V'.heap.size) := fun V' hV' => by
    obtain ⟨own1, hx⟩ := hV'.out
    exact ⟨own1, hx.d9, hx.sd, hx.sz⟩
  cases en with
  | true =>
    have es : ((ss i).close (Ns i)).1 = s' := by rw [hs]; rfl
    obtain ⟨TL, hTL⟩ : ∃ TL : ByteArray, ⟨((ss i).told s').toArray⟩ = TL := ⟨_, rfl⟩
    obtain ⟨EC, hEC⟩ : ∃ EC : Int, ((ss i).close (Ns i)).2 = EC := ⟨_, rfl⟩
    have KP : Hid (∀ V', Y9 R W0 V V' own gs Ns ss #[.pointer (some ⟨gp, 0, none⟩), .pointer (some ⟨gq, 0, none⟩)] #[.int .u8 d.k, .string d.t, .int .i64 d.b, .int .i64 d.i, .bool d.e, .int .i64 on, .bool true] → Calls Tryz.prog 17 #[.pointer (some ⟨gp, 0, none⟩)] V' fun e w' => e = .returned (.tuple #[.string TL, .int .i64 EC]) ∧ Hid (Y9 R W0 V w' own gs Ns (upd ss i s') #[.pointer (some ⟨gp, 0, none⟩), .pointer (some ⟨gq, 0, none⟩)] #[.int .u8 d.k, .string d.t, .int .i64 d.b, .int .i64 d.i, .bool d.e, .int .i64 on, .bool true])) := fun V' hV' => by
      obtain ⟨own1, hx⟩ := hV'
      have := D9.closeP hC hx.d9 hi1 hi2 hN hb (by omega) (by omega)
      rw [es, hTL, hEC, hgp] at this
      refine this.mono ?_
      rintro e w' ⟨rfl, own2, a1, a2, a3⟩
      exact ⟨rfl, own2, hx.next a1 a2 a3⟩
    have KQ : Hid (∀ V', Hid (Y9 R W0 V V' own gs Ns (upd ss i s') #[.pointer (some ⟨gp, 0, none⟩), .pointer (some ⟨gq, 0, none⟩)] #[.int .u8 d.k, .string d.t, .int .i64 d.b, .int .i64 d.i, .bool d.e, .int .i64 on, .bool true]) → Calls Tryz.prog 22 #[.pointer (some ⟨gq, 0, none⟩)] V' fun e w' => e = .returned (.tuple #[.string TL, .int .i64 EC]) ∧ Hid (Y9 R W0 V w' own gs Ns (upd (upd ss i s') (i + 2) s') #[.pointer (some ⟨gp, 0, none⟩), .pointer (some ⟨gq, 0, none⟩)] #[.int .u8 d.k, .string d.t, .int .i64 d.b, .int .i64 d.i, .bool d.e, .int .i64 on, .bool true])) := fun V' hV' => by
      obtain ⟨own1, hx⟩ := hV'.out
      have e2 : upd ss i s' (i + 2) = ss i := by rw [upd_ne _ (by omega)]; exact heq
      have hb2 : Bud (upd ss i s' (i + 2)) T C := by rw [e2]; exact hb
      have := D9.closeQ hC hx.d9 (i := i + 2) (by omega) (by omega) (by rw [hNe]; exact hN) hb2 (by omega) (by omega)
      rw [e2, hNe, es, hTL, hEC, hgq] at this
      refine this.mono ?_
      rintro e w' ⟨rfl, own2, a1, a2, a3⟩
      exact ⟨rfl, own2, hx.next a1 a2 a3⟩
    have HCC : Hid (Ctr R) := hC
    clear h hb hbs hwl hwle hgp hgq heq hNe hs es hTL hEC hd hC
    obtain ⟨dk, dt, db, di, de⟩ := d
    simp only at HX0 KP KQ HB HHP HHQ HFIN ⊢
    go_enter Tryz.func12, Tryz.ntmps12
    go_wp2_with (first | (go_at_call 17; refine (KP.out _ (HX0.out _ rfl)).mono ?_; rintro e w2 ⟨rfl, K2⟩; obtain ⟨x0, x1, x2, x3, x4, x5, x6, x7⟩ := HB.out _ _ K2) | (go_at_call 22; refine (KQ.out _ K2).mono ?_; rintro e w3 ⟨rfl, K3⟩; obtain ⟨y0, y1, y2, y3, y4, y5, y6, y7⟩ := HB.out _ _ K3))
    have HUP : Hid (∀ V', Below w3.heap.size w3 V' → Hid (Y9 R W0 V V' own gs Ns (upd (upd ss i s') (i + 2) s') #[.pointer (some ⟨gp, 0, none⟩), .pointer (some ⟨gq, 0, none⟩)] #[.int .u8 dk, .string dt, .int .i64 db, .int .i64 di, .bool de, .int .i64 on, .bool true])) := fun V' hV' => by
      obtain ⟨own1, hx⟩ := K3.out
      exact ⟨own1, hx.below HCC.out hV'⟩
    go_region_held3 (fun w' => w'.cell? ⟨V.heap.size, 0, none⟩ = some (.pointer (some ⟨gp, 0, none⟩)) ∧ w'.cell? ⟨V.heap.size, 1, none⟩ = some (.pointer (some ⟨gq, 0, none⟩)) ∧ Below w3.heap.size w3 w') (first | (exact keepP (by first | assumption | exact (Below.refl _ _).drew | exact Below.refl _ _ | exact Below.drew (by assumption)) y0 y1) | go_keep) (first | (go_at_call 16; refine (HHP.out _ (HUP.out _ (by first | assumption | exact (Below.refl _ _).drew | exact Below.refl _ _ | exact Below.drew (by assumption)))).mono ?_; rintro e w4 ⟨rfl, K4, hb4⟩; have hz4 : Below w3.heap.size w3 w4 := zt9 hb4 (by first | assumption | exact (Below.refl _ _).drew | exact Below.refl _ _ | exact Below.drew (by assumption))) | (go_at_call 23; refine (HHQ.out _ (HUP.out _ (by first | assumption | exact (Below.refl _ _).drew | exact Below.refl _ _ | exact Below.drew (by assumption)))).mono ?_; rintro e w5 ⟨rfl, K5, hb5⟩; have hz5 : Below w3.heap.size w3 w5 := zt9 hb5 (by first | assumption | exact (Below.refl _ _).drew | exact Below.refl _ _ | exact Below.drew (by assumption))))
    all_goals (
      go_wp2_with fail
      go_ret
      exact ⟨rfl, HFIN.out _ (by first | exact K5 | exact K4)⟩)
  | false =>
    have es : ((ss i).put (Ns i) d).1 = s' := by rw [hs]; rfl
    obtain ⟨TL, hTL⟩ : ∃ TL : ByteArray, ⟨((ss i).told s').toArray⟩ = TL := ⟨_, rfl⟩
    obtain ⟨EC, hEC⟩ : ∃ EC : Int, ((ss i).put (Ns i) d).2 = EC := ⟨_, rfl⟩
    have KP : Hid (∀ V', Y9 R W0 V V' own gs Ns ss #[.pointer (some ⟨gp, 0, none⟩), .pointer (some ⟨gq, 0, none⟩)] #[.int .u8 d.k, .string d.t, .int .i64 d.b, .int .i64 d.i, .bool d.e, .int .i64 on, .bool false] → Calls Tryz.prog 15 #[.pointer (some ⟨gp, 0, none⟩), .agg #[.int .u8 d.k, .string d.t, .int .i64 d.b, .int .i64 d.i, .bool d.e]] V' fun e w' => e = .returned (.tuple #[.string TL, .int .i64 EC]) ∧ Hid (Y9 R W0 V w' own gs Ns (upd ss i s') #[.pointer (some ⟨gp, 0, none⟩), .pointer (some ⟨gq, 0, none⟩)] #[.int .u8 d.k, .string d.t, .int .i64 d.b, .int .i64 d.i, .bool d.e, .int .i64 on, .bool false])) := fun V' hV' => by
      obtain ⟨own1, hx⟩ := hV'
      have := D9.putP hC hx.d9 hi1 hi2 hN hb d hd hT hCC
      rw [es, hTL, hEC, hgp] at this
      refine this.mono ?_
      rintro e w' ⟨rfl, own2, a1, a2, a3⟩
      exact ⟨rfl, own2, hx.next a1 a2 a3⟩
    have KQ : Hid (∀ V', Hid (Y9 R W0 V V' own gs Ns (upd ss i s') #[.pointer (some ⟨gp, 0, none⟩), .pointer (some ⟨gq, 0, none⟩)] #[.int .u8 d.k, .string d.t, .int .i64 d.b, .int .i64 d.i, .bool d.e, .int .i64 on, .bool false]) → Calls Tryz.prog 24 #[.pointer (some ⟨gq, 0, none⟩), .agg #[.int .u8 d.k, .string d.t, .int .i64 d.b, .int .i64 d.i, .bool d.e]] V' fun e w' => e = .returned (.tuple #[.string TL, .int .i64 EC]) ∧ Hid (Y9 R W0 V w' own gs Ns (upd (upd ss i s') (i + 2) s') #[.pointer (some ⟨gp, 0, none⟩), .pointer (some ⟨gq, 0, none⟩)] #[.int .u8 d.k, .string d.t, .int .i64 d.b, .int .i64 d.i, .bool d.e, .int .i64 on, .bool false])) := fun V' hV' => by
      obtain ⟨own1, hx⟩ := hV'.out
      have e2 : upd ss i s' (i + 2) = ss i := by rw [upd_ne _ (by omega)]; exact heq
      have hb2 : Bud (upd ss i s' (i + 2)) T C := by rw [e2]; exact hb
      have := D9.putQ hC hx.d9 (i := i + 2) (by omega) (by omega) (by rw [hNe]; exact hN) hb2 d hd hT hCC
      rw [e2, hNe, es, hTL, hEC, hgq] at this
      refine this.mono ?_
      rintro e w' ⟨rfl, own2, a1, a2, a3⟩
      exact ⟨rfl, own2, hx.next a1 a2 a3⟩
    have HCC : Hid (Ctr R) := hC
    clear h hb hbs hwl hwle hgp hgq heq hNe hs es hTL hEC hd hC
    obtain ⟨dk, dt, db, di, de⟩ := d
    simp only at HX0 KP KQ HB HHP HHQ HFIN ⊢
    go_enter Tryz.func12, Tryz.ntmps12
    go_wp2_with (first | (go_at_call 15; refine (KP.out _ (HX0.out _ rfl)).mono ?_; rintro e w2 ⟨rfl, K2⟩; obtain ⟨x0, x1, x2, x3, x4, x5, x6, x7⟩ := HB.out _ _ K2) | (go_at_call 24; refine (KQ.out _ K2).mono ?_; rintro e w3 ⟨rfl, K3⟩; obtain ⟨y0, y1, y2, y3, y4, y5, y6, y7⟩ := HB.out _ _ K3))
    have HUP : Hid (∀ V', Below w3.heap.size w3 V' → Hid (Y9 R W0 V V' own gs Ns (upd (upd ss i s') (i + 2) s') #[.pointer (some ⟨gp, 0, none⟩), .pointer (some ⟨gq, 0, none⟩)] #[.int .u8 dk, .string dt, .int .i64 db, .int .i64 di, .bool de, .int .i64 on, .bool false])) := fun V' hV' => by
      obtain ⟨own1, hx⟩ := K3.out
      exact ⟨own1, hx.below HCC.out hV'⟩
    go_region_held3 (fun w' => w'.cell? ⟨V.heap.size, 0, none⟩ = some (.pointer (some ⟨gp, 0, none⟩)) ∧ w'.cell? ⟨V.heap.size, 1, none⟩ = some (.pointer (some ⟨gq, 0, none⟩)) ∧ Below w3.heap.size w3 w') (first | (exact keepP (by first | assumption | exact (Below.refl _ _).drew | exact Below.refl _ _ | exact Below.drew (by assumption)) y0 y1) | go_keep) (first | (go_at_call 16; refine (HHP.out _ (HUP.out _ (by first | assumption | exact (Below.refl _ _).drew | exact Below.refl _ _ | exact Below.drew (by assumption)))).mono ?_; rintro e w4 ⟨rfl, K4, hb4⟩; have hz4 : Below w3.heap.size w3 w4 := zt9 hb4 (by first | assumption | exact (Below.refl _ _).drew | exact Below.refl _ _ | exact Below.drew (by assumption))) | (go_at_call 23; refine (HHQ.out _ (HUP.out _ (by first | assumption | exact (Below.refl _ _).drew | exact Below.refl _ _ | exact Below.drew (by assumption)))).mono ?_; rintro e w5 ⟨rfl, K5, hb5⟩; have hz5 : Below w3.heap.size w3 w5 := zt9 hb5 (by first | assumption | exact (Below.refl _ _).drew | exact Below.refl _ _ | exact Below.drew (by assumption))))
    all_goals (
      go_wp2_with fail
      go_ret
      exact ⟨rfl, HFIN.out _ (by first | exact K5 | exact K4)⟩)
end Go.Proofs.YtmjhfabdbajchaaGreatDoor
