import Derived.Test.YtkglkhijngpgiaaGreatUa
set_option linter.unusedVariables false
set_option linter.unusedSimpArgs false
namespace Go.Proofs.YtkglkhijngpgiaaGreat
open Go.RowKit

set_option maxRecDepth 100000 in
set_option maxHeartbeats 2000000 in
theorem pput_any {own : Nat → Prop} {W : World} {gl gr m : Nat} (h : PS own W gl gr m) (t : Tv) (hm : m ≤ 80000) :
    Calls Tryz.prog 7 #[.agg #[pt gl, pt gr], t.v] W fun e w' => e = .returned (.bool true) ∧ ∃ own', Pnx own W w' gl gr (m + 1) own' := by
  obtain ⟨S, U, st, T, now, e, c, vL, vN, h1, h2, h3, h4, h5, h6, h7⟩ := h.ex
  obtain ⟨ev, code, st', T', now', e', c', hp, hg', hrel, hT', hev, hR⟩ := both_put h6 h2 t gr (by omega)
  dsimp only [Tv.v]
  have hW : ∃ W1, W1 = (W.alloc (.cells #[pt gl, pt gr] 29)).alloc (tokB t) := ⟨_, rfl⟩
  obtain ⟨W1, hW1⟩ := hW
  have hb0 := below_new W (.cells #[pt gl, pt gr] 29)
  have hb1 := below_new (W.alloc (.cells #[pt gl, pt gr] 29)) (tokB t)
  have hbW : Below W.heap.size W W1 := by rw [hW1]; exact hb0.trans (hb1.mono hb0.size)
  have pb : W1.heap[W.heap.size]? = some (.cells #[pt gl, pt gr] 29) := by rw [hW1]; exact blk_below (new_at W _) hb1
  have pt1 : W1.heap[W.heap.size + 1]? = some (tokB t) := by rw [hW1, ← World.size_alloc W (.cells #[pt gl, pt gr] 29)]; exact new_at _ _
  have hSl : ∀ q, S q → q < W.heap.size := fun q hq => h.lt q (h4 q hq).1
  have hUl : ∀ q, U q → q < W.heap.size := fun q hq => h.lt q (h5 q hq)
  have HF : Hid (Calls Tryz.prog 12 #[pt gl, .agg #[.int .u8 t.k, .string t.t, .int .i64 t.a, .int .i64 t.l, .int .i64 t.c, .int .i64 t.f]] W1 fun r w' => ∃ v, r = .returned (.tuple #[v, .int .i64 code]) ∧ Pa S gl W1 w' v ev st') := put_any (h1.below hbW) (fun k hk => Nat.lt_of_lt_of_le (hSl k hk) hbW.size) h2.ok hp
  have HR : Hid (∀ w2 va, Pa S gl W1 w2 va ev st' → Calls Tryz.prog 15 #[pt gr, .agg #[.int .u8 t.k, .string t.t, .int .i64 t.a, .int .i64 t.l, .int .i64 t.c, .int .i64 t.f]] w2 fun r w' => ∃ v, r = .returned (.tuple #[v, .int .i64 code]) ∧ DA U gr w2 w' v ev T' now' e' c') := fun w2 va hpa => hR U w2 vL vN (dp_after h4 h3 hbW hpa) (fun k hk => Nat.lt_of_lt_of_le (hUl k hk) (Nat.le_trans hbW.size hpa.kp.size))
  have HK : Hid (∀ w2 va, Pa S gl W1 w2 va ev st' → w2.heap[W.heap.size]? = some (.cells #[pt gl, pt gr] 29) ∧ w2.heap[W.heap.size + 1]? = some (tokB t)) := fun w2 va hpa => ⟨hpa.kp.blk pb (fun hs => by have := hSl _ hs; omega), hpa.kp.blk pt1 (fun hs => by have := hSl _ hs; omega)⟩
  have HP : Hid (∀ w2 w3 w4 w5 va vb, Pa S gl W1 w2 va ev st' → DA U gr w2 w3 vb ev T' now' e' c' → Below w3.heap.size w3 w4 → Kp (fun k => some k = va.ownBlock) w4 w5 → (∃ own', Pnx own W w5 gl gr (m + 1) own') ∧ Dps w5 gl gr) := fun w2 w3 w4 w5 va vb x1 x2 x3 x4 => ps_step h.lt h.gl0 h3.ug h4 h5 hbW x1 x2 x3 x4 hg' hrel (by omega)
  have HE : Hid (∀ w2 w3 va vb, Pa S gl W1 w2 va ev st' → DA U gr w2 w3 vb ev T' now' e' c' → Re w3 va ev ∧ Re w3 vb ev) := fun w2 w3 va vb x1 x2 => ⟨re_after x1.re x2 (dp_after h4 h3 hbW x1).fb (by decide), x2.re⟩
  have HG : Hid (gr < W.heap.size ∧ ev.length ≤ 30000) := ⟨hUl gr h3.ug, by omega⟩
  have p0 : W1.cell? ⟨W.heap.size, 0, none⟩ = some (pt gl) := blk_cell pb rfl
  have p1 : W1.cell? ⟨W.heap.size, 1, none⟩ = some (pt gr) := blk_cell pb rfl
  have n0 : W1.cell? ⟨W.heap.size + 1, 0, none⟩ = some (.int .u8 t.k) := blk_cell pt1 rfl
  have n1 : W1.cell? ⟨W.heap.size + 1, 1, none⟩ = some (.string t.t) := blk_cell pt1 rfl
  have n2 : W1.cell? ⟨W.heap.size + 1, 2, none⟩ = some (.int .i64 t.a) := blk_cell pt1 rfl
  have n3 : W1.cell? ⟨W.heap.size + 1, 3, none⟩ = some (.int .i64 t.l) := blk_cell pt1 rfl
  have n4 : W1.cell? ⟨W.heap.size + 1, 4, none⟩ = some (.int .i64 t.c) := blk_cell pt1 rfl
  have n5 : W1.cell? ⟨W.heap.size + 1, 5, none⟩ = some (.int .i64 t.f) := blk_cell pt1 rfl
  have pl := blk_lt pt1
  clear h h1 h2 h3 h4 h5 h6 h7 hp hR hbW pb hSl hUl hg' hrel hT' pt1 hb0 hb1
  go_enter Tryz.func7, Tryz.ntmps7
  go_wp2_with fail
  try rw [← hW1]
  clear hW1
  refine HF.out.mono ?_
  rintro r w2 ⟨va, rfl, hpa⟩
  have HA : Hid (Pa S gl W1 w2 va ev st') := hpa
  obtain ⟨pa, ca, hva, _⟩ := hpa.re.shape
  subst hva
  obtain ⟨b2, t2⟩ := HK.out _ _ hpa
  have k1 : w2.cell? ⟨W.heap.size, 1, none⟩ = some (pt gr) := blk_cell b2 rfl
  have l0 : w2.cell? ⟨W.heap.size + 1, 0, none⟩ = some (.int .u8 t.k) := blk_cell t2 rfl
  have l1 : w2.cell? ⟨W.heap.size + 1, 1, none⟩ = some (.string t.t) := blk_cell t2 rfl
  have l2 : w2.cell? ⟨W.heap.size + 1, 2, none⟩ = some (.int .i64 t.a) := blk_cell t2 rfl
  have l3 : w2.cell? ⟨W.heap.size + 1, 3, none⟩ = some (.int .i64 t.l) := blk_cell t2 rfl
  have l4 : w2.cell? ⟨W.heap.size + 1, 4, none⟩ = some (.int .i64 t.c) := blk_cell t2 rfl
  have l5 : w2.cell? ⟨W.heap.size + 1, 5, none⟩ = some (.int .i64 t.f) := blk_cell t2 rfl
  have HB2 : Hid (w2.heap[W.heap.size]? = some (.cells #[pt gl, pt gr] 29)) := b2
  have pl2 := blk_lt t2
  clear hpa b2 t2 HF HK
  go_wp2_with fail
  refine (HR.out _ _ HA.out).mono ?_
  rintro r w3 ⟨vb, rfl, hda⟩
  have HD : Hid (DA U gr w2 w3 vb ev T' now' e' c') := hda
  obtain ⟨pbb, cbb, hvb, _⟩ := hda.re.shape
  subst hvb
  have HB3 : Hid (w3.heap[W.heap.size]? = some (.cells #[pt gl, pt gr] 29)) := hda.kp.blk HB2.out (fun e => by have := HG.out.1; omega)
  clear hda HR HB2
  go_wp2_with fail
  obtain ⟨e1, e2⟩ := HE.out _ _ _ _ HA.out HD.out
  refine (same_ev _ _ ev w3 e1 e2 (by have := HG.out.2; omega)).mono ?_
  rintro r w4 ⟨rfl, hb4⟩
  have H4 : Hid (Below w3.heap.size w3 w4 ∧ Re w4 (.slice pa ev.length ca) ev ∧ w4.heap[W.heap.size]? = some (.cells #[pt gl, pt gr] 29)) := ⟨hb4, e1.below hb4, blk_below HB3.out hb4⟩
  clear e1 e2 hb4 HE HB3
  go_wp2_with fail
  refine (spoil_ev _ ev.length w4 ⟨_, H4.out.2.1⟩ (by have := HG.out.2; omega)).mono ?_
  rintro r w5 ⟨rfl, hk5⟩
  obtain ⟨hP5, n, hd1, hd2⟩ := HP.out _ _ _ _ _ _ HA.out HD.out H4.out.1 hk5
  have H5 : Hid (∃ own', Pnx own W w5 gl gr (m + 1) own') := hP5
  have HD1 := show Hid _ from hd1
  have HD2 := show Hid _ from hd2
  have pb5 : w5.heap[W.heap.size]? = some (.cells #[pt gl, pt gr] 29) := hk5.blk H4.out.2.2 (fun e => H4.out.2.1.ne H4.out.2.2 (by decide) _ e.symm rfl)
  have HK5 : Hid (∀ V, Below w5.heap.size w5 V → V.cell? ⟨W.heap.size, 0, none⟩ = some (pt gl) ∧ V.cell? ⟨W.heap.size, 1, none⟩ = some (pt gr) ∧ Below w5.heap.size w5 V) := fun V hV => ⟨blk_cell (blk_below pb5 hV) rfl, blk_cell (blk_below pb5 hV) rfl, hV⟩
  have r0 : w5.cell? ⟨W.heap.size, 0, none⟩ = some (pt gl) := blk_cell pb5 rfl
  have r1 : w5.cell? ⟨W.heap.size, 1, none⟩ = some (pt gr) := blk_cell pb5 rfl
  clear hP5 hd1 hd2 hk5 pb5 H4 HP HA HD
  clear r0 r1 p0 p1 k1 n0 n1 n2 n3 n4 n5 l0 l1 l2 l3 l4 l5
  go_wp2_with fail
  go_region_held3 (fun w' => w'.cell? ⟨W.heap.size, 0, none⟩ = some (pt gl) ∧ w'.cell? ⟨W.heap.size, 1, none⟩ = some (pt gr) ∧ Below w5.heap.size w5 w') (first | (exact HK5.out _ (by assumption)) | (exact HK5.out _ (Below.refl _ _)) | (exact HK5.out _ (Below.refl _ _).drew) | go_keep) (first | (go_at_call 13; refine (HD1.out _ (by first | assumption | exact (Below.refl _ _).drew | exact (by assumption : Below w5.heap.size w5 _).drew)).mono ?_; rintro e w7 ⟨rfl, hb7⟩; have hB7 := (by first | exact (Below.refl w5.heap.size w5).drew.trans (hb7.mono (Nat.le_refl _)) | exact (by assumption : Below w5.heap.size w5 _).trans (hb7.mono (Below.size (by assumption))) : Below w5.heap.size w5 w7)) | (go_at_call 18; refine (HD2.out _ (by first | assumption | exact (Below.refl _ _).drew | exact (by assumption : Below w5.heap.size w5 _).drew)).mono ?_; rintro e w8 ⟨rfl, hb8⟩; have hB8 := (by first | exact (Below.refl w5.heap.size w5).drew.trans (hb8.mono (Nat.le_refl _)) | exact (by assumption : Below w5.heap.size w5 _).trans (hb8.mono (Below.size (by assumption))) : Below w5.heap.size w5 w8)))
  go_wp2_with fail
  go_ret
  obtain ⟨own', hp⟩ := H5.out
  exact ⟨rfl, own', hp.below hB8⟩
set_option maxRecDepth 100000 in
set_option maxHeartbeats 2000000 in
theorem pclose_any {own : Nat → Prop} {W : World} {gl gr m : Nat} (h : PS own W gl gr m) (hm : m ≤ 80000) :
    Calls Tryz.prog 8 #[.agg #[pt gl, pt gr]] W fun e w' => e = .returned (.bool true) ∧ ∃ own', Pnx own W w' gl gr m own' := by
  obtain ⟨S, U, st, T, now, e, c, vL, vN, h1, h2, h3, h4, h5, h6, h7⟩ := h.ex
  obtain ⟨ev, code, e', hp, hev, hR⟩ := both_close h6 h2 gr (by omega)
  have hW : ∃ W1, W1 = W.alloc (.cells #[pt gl, pt gr] 29) := ⟨_, rfl⟩
  obtain ⟨W1, hW1⟩ := hW
  have hbW : Below W.heap.size W W1 := by rw [hW1]; exact below_new W _
  have pb : W1.heap[W.heap.size]? = some (.cells #[pt gl, pt gr] 29) := by rw [hW1]; exact new_at W _
  have hSl : ∀ q, S q → q < W.heap.size := fun q hq => h.lt q (h4 q hq).1
  have hUl : ∀ q, U q → q < W.heap.size := fun q hq => h.lt q (h5 q hq)
  have HF : Hid (Calls Tryz.prog 14 #[pt gl] W1 fun r w' => ∃ v, r = .returned (.tuple #[v, .int .i64 code]) ∧ Pa S gl W1 w' v ev .shut) := close_any (h1.below hbW) (fun k hk => Nat.lt_of_lt_of_le (hSl k hk) hbW.size) h2.ok hp
  have HR : Hid (∀ w2 va, Pa S gl W1 w2 va ev .shut → Calls Tryz.prog 19 #[pt gr] w2 fun r w' => ∃ v, r = .returned (.tuple #[v, .int .i64 code]) ∧ DA U gr w2 w' v ev T now e' true) := fun w2 va hpa => hR U w2 vL vN (dp_after h4 h3 hbW hpa) (fun k hk => Nat.lt_of_lt_of_le (hUl k hk) (Nat.le_trans hbW.size hpa.kp.size))
  have HK : Hid (∀ w2 va, Pa S gl W1 w2 va ev .shut → w2.heap[W.heap.size]? = some (.cells #[pt gl, pt gr] 29)) := fun w2 va hpa => hpa.kp.blk pb (fun hs => by have := hSl _ hs; omega)
  have HP : Hid (∀ w2 w3 w4 w5 va vb, Pa S gl W1 w2 va ev .shut → DA U gr w2 w3 vb ev T now e' true → Below w3.heap.size w3 w4 → Kp (fun k => some k = va.ownBlock) w4 w5 → (∃ own', Pnx own W w5 gl gr m own') ∧ Dps w5 gl gr) := fun w2 w3 w4 w5 va vb x1 x2 x3 x4 => ps_step h.lt h.gl0 h3.ug h4 h5 hbW x1 x2 x3 x4 trivial ⟨rfl, rel_now h6⟩ h7
  have HE : Hid (∀ w2 w3 va vb, Pa S gl W1 w2 va ev .shut → DA U gr w2 w3 vb ev T now e' true → Re w3 va ev ∧ Re w3 vb ev) := fun w2 w3 va vb x1 x2 => ⟨re_after x1.re x2 (dp_after h4 h3 hbW x1).fb (by decide), x2.re⟩
  have HG : Hid (gr < W.heap.size ∧ ev.length ≤ 30000) := ⟨hUl gr h3.ug, by omega⟩
  have p0 : W1.cell? ⟨W.heap.size, 0, none⟩ = some (pt gl) := blk_cell pb rfl
  have p1 : W1.cell? ⟨W.heap.size, 1, none⟩ = some (pt gr) := blk_cell pb rfl
  have pl := blk_lt pb
  clear h h1 h2 h3 h4 h5 h6 h7 hp hR hbW pb hSl hUl
  go_enter Tryz.func8, Tryz.ntmps8
  go_wp2_with fail
  try rw [← hW1]
  clear hW1
  refine HF.out.mono ?_
  rintro r w2 ⟨va, rfl, hpa⟩
  have HA : Hid (Pa S gl W1 w2 va ev .shut) := hpa
  obtain ⟨pa, ca, hva, _⟩ := hpa.re.shape
  subst hva
  have b2 := HK.out _ _ hpa
  have k1 : w2.cell? ⟨W.heap.size, 1, none⟩ = some (pt gr) := blk_cell b2 rfl
  have HB2 : Hid (w2.heap[W.heap.size]? = some (.cells #[pt gl, pt gr] 29)) := b2
  have pl2 := blk_lt b2
  clear hpa b2 HF HK
  go_wp2_with fail
  refine (HR.out _ _ HA.out).mono ?_
  rintro r w3 ⟨vb, rfl, hda⟩
  have HD : Hid (DA U gr w2 w3 vb ev T now e' true) := hda
  obtain ⟨pbb, cbb, hvb, _⟩ := hda.re.shape
  subst hvb
  have HB3 : Hid (w3.heap[W.heap.size]? = some (.cells #[pt gl, pt gr] 29)) := hda.kp.blk HB2.out (fun e => by have := HG.out.1; omega)
  clear hda HR HB2
  go_wp2_with fail
  obtain ⟨e1, e2⟩ := HE.out _ _ _ _ HA.out HD.out
  refine (same_ev _ _ ev w3 e1 e2 (by have := HG.out.2; omega)).mono ?_
  rintro r w4 ⟨rfl, hb4⟩
  have H4 : Hid (Below w3.heap.size w3 w4 ∧ Re w4 (.slice pa ev.length ca) ev ∧ w4.heap[W.heap.size]? = some (.cells #[pt gl, pt gr] 29)) := ⟨hb4, e1.below hb4, blk_below HB3.out hb4⟩
  clear e1 e2 hb4 HE HB3
  go_wp2_with fail
  refine (spoil_ev _ ev.length w4 ⟨_, H4.out.2.1⟩ (by have := HG.out.2; omega)).mono ?_
  rintro r w5 ⟨rfl, hk5⟩
  obtain ⟨hP5, n, hd1, hd2⟩ := HP.out _ _ _ _ _ _ HA.out HD.out H4.out.1 hk5
  have H5 : Hid (∃ own', Pnx own W w5 gl gr m own') := hP5
  have HD1 := show Hid _ from hd1
  have HD2 := show Hid _ from hd2
  have pb5 : w5.heap[W.heap.size]? = some (.cells #[pt gl, pt gr] 29) := hk5.blk H4.out.2.2 (fun e => H4.out.2.1.ne H4.out.2.2 (by decide) _ e.symm rfl)
  have HK5 : Hid (∀ V, Below w5.heap.size w5 V → V.cell? ⟨W.heap.size, 0, none⟩ = some (pt gl) ∧ V.cell? ⟨W.heap.size, 1, none⟩ = some (pt gr) ∧ Below w5.heap.size w5 V) := fun V hV => ⟨blk_cell (blk_below pb5 hV) rfl, blk_cell (blk_below pb5 hV) rfl, hV⟩
  have r0 : w5.cell? ⟨W.heap.size, 0, none⟩ = some (pt gl) := blk_cell pb5 rfl
  have r1 : w5.cell? ⟨W.heap.size, 1, none⟩ = some (pt gr) := blk_cell pb5 rfl
  clear hP5 hd1 hd2 hk5 pb5 H4 HP HA HD
  clear r0 r1 p0 p1 k1
  go_wp2_with fail
  go_region_held3 (fun w' => w'.cell? ⟨W.heap.size, 0, none⟩ = some (pt gl) ∧ w'.cell? ⟨W.heap.size, 1, none⟩ = some (pt gr) ∧ Below w5.heap.size w5 w') (first | (exact HK5.out _ (by assumption)) | (exact HK5.out _ (Below.refl _ _)) | (exact HK5.out _ (Below.refl _ _).drew) | go_keep) (first | (go_at_call 13; refine (HD1.out _ (by first | assumption | exact (Below.refl _ _).drew | exact (by assumption : Below w5.heap.size w5 _).drew)).mono ?_; rintro e w7 ⟨rfl, hb7⟩; have hB7 := (by first | exact (Below.refl w5.heap.size w5).drew.trans (hb7.mono (Nat.le_refl _)) | exact (by assumption : Below w5.heap.size w5 _).trans (hb7.mono (Below.size (by assumption))) : Below w5.heap.size w5 w7)) | (go_at_call 18; refine (HD2.out _ (by first | assumption | exact (Below.refl _ _).drew | exact (by assumption : Below w5.heap.size w5 _).drew)).mono ?_; rintro e w8 ⟨rfl, hb8⟩; have hB8 := (by first | exact (Below.refl w5.heap.size w5).drew.trans (hb8.mono (Nat.le_refl _)) | exact (by assumption : Below w5.heap.size w5 _).trans (hb8.mono (Below.size (by assumption))) : Below w5.heap.size w5 w8)))
  go_wp2_with fail
  go_ret
  obtain ⟨own', hp⟩ := H5.out
  exact ⟨rfl, own', hp.below hB8⟩

end Go.Proofs.YtkglkhijngpgiaaGreat
