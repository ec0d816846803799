import Derived.Test.YtcokccfbeonlnaaDoorVc
import Derived.Deep.RegionHeld3
set_option linter.unusedVariables false
set_option linter.unusedSimpArgs false
namespace Go.Proofs.YtcokccfbeonlnaaDoor
open Go.RowKit

theorem Rws.cell {B : Nat} {W : World} {rs : List (Value × List Int)} (h : Rws B W rs) {k g n c : Nat} {xs : List Int} (hk : rs[k]? = some (.slice (some ⟨g, 0, none⟩) n c, xs)) (hn : n = xs.length) {j : Nat} {x : Int} (hx : xs[j]? = some x) : W.cell? ⟨g, j, none⟩ = some (.int .i64 x) := by
  subst hn
  have hj := (List.getElem?_eq_some_iff.1 hx).1
  rw [World.ownsRow.cellAt (h.row k _ hk) j (by show j < xs.length * 1; omega)]
  exact ic_at hx
theorem Rws.frozen {B : Nat} {W : World} {rs : List (Value × List Int)} (h : Rws B W rs) {k g n c : Nat} {xs : List Int} (hk : rs[k]? = some (.slice (some ⟨g, 0, none⟩) n c, xs)) (hn : n = xs.length) (j : Nat) : W.frozen? ⟨g, j, none⟩ = false := by
  subst hn
  exact World.ownsRow.frozenAt (h.row k _ hk) j
theorem Rws.base {B : Nat} {W : World} {rs : List (Value × List Int)} (h : Rws B W rs) {k g n c : Nat} {xs : List Int} (hk : rs[k]? = some (.slice (some ⟨g, 0, none⟩) n c, xs)) : B ≤ g := ((h.row k _ hk).lt g rfl).1
theorem app_wd2 {W : World} {ops : Array Oper} {rest : List Oper} {o : Oper} {a : Act} {Q : Exit → Act → World → Prop} (hgd : o.guard = none) (s x : Operand)
    (ho : o.op = .call { callee := .builtin .append, args := #[s, x], argTypes := #[39, 39] }) (B : Nat) (rs : List (Value × List Int)) (k : Nat) (v : Value) (xs : List Int) (u : Int) (db : Nat) (d : Dc) (n : Nat) (hn : n = xs.length) (hs : a.eval s = v) (hR : WD B W rs db d) (hk : rs[k]? = some (v, xs))
    (g c : Nat) (hx : a.eval x = .slice (some ⟨g, 0, none⟩) 1 c) (hg : W.heap[g]? = some (.cells #[.int .i64 u] 3 (0, 0))) (hl : n ≤ 1000000000) (hB : B ≤ W.heap.size)
    (h : ∀ q cap w', n + 1 ≤ cap → cap ≤ 9223372036854775807 → WD B w' (rs.set k (.slice (some ⟨q, 0, none⟩) (n + 1) cap, xs ++ [u])) db d → Below B W w' → wpList Tryd.prog ops Q rest (a.put o.dst (.slice (some ⟨q, 0, none⟩) (n + 1) cap)) w') : wpList Tryd.prog ops Q (o :: rest) a W := by
  subst hn
  exact app_wd hgd s x ho B rs k v xs u db d hs hR hk g c hx hg hl hB h

/-- What the document's Widths answers. -/
def WR (w : World) (l : List Dc) (e : Ending) (w' : World) : Prop := ∃ v o, e = .returned v ∧ (w'.ownsRow w.heap.size 3 1 v o.length (ic o) ∧ OutP l l.length [] [] o) ∧ Below w.heap.size w w'
theorem WD.pop2 {B : Nat} {W : World} {rs : List (Value × List Int)} {db : Nat} {d : Dc} (h : WD B W rs db d) {k g n cap : Nat} {xs : List Int} {x : Int} (hn : n = xs.length) (hk : rs[k]? = some (.slice (some ⟨g, 0, none⟩) (n + 1) cap, xs ++ [x])) : WD B W (rs.set k (.slice (some ⟨g, 0, none⟩) n cap, xs)) db d := by
  subst hn; exact h.pop hk
theorem gs_le {l : List Dc} {k : Nat} {gs : List Nat} {bs : List (Option Nat)} (h : FwI l k gs bs) : gs.length ≤ l.length := by
  have h1 := h.fw.lens.1
  have h2 := nds_stk (l.drop k)
  rw [List.length_drop] at h2
  omega
theorem fc_le (l : List Dc) (k : Nat) : Fc l k ≤ k := by
  induction k with
  | zero => simp [Fc]
  | succ k ih =>
    cases hd : l[k]? with
    | none =>
      have e : l.take (k + 1) = l.take k := by rw [List.take_add_one, hd]; simp
      unfold Fc at *
      rw [e]; omega
    | some d => rw [Fc_succ hd]; split <;> omega

set_option maxHeartbeats 8000000 in
set_option maxRecDepth 100000 in
theorem widths_any (ao : Option Addr) (l : List Dc) (cap : Nat) (w : World) (hL : Lay w ao l) (hf : frm 0 0 l = none) (hlen : l.length ≤ 1000000) (hS : ∀ j, Sf l j ≤ 1000000000) (ht : ∀ d ∈ l, d.t.size ≤ 2147483647) :
    Calls Tryd.prog 26 #[.slice ao l.length cap] w fun e w' => WR w l e w' := by
  have HL : Hid (Lay w ao l ∧ (∀ j, Sf l j ≤ 1000000000) ∧ (∀ d ∈ l, d.t.size ≤ 2147483647)) := ⟨hL, hS, ht⟩
  have HF : Hid (frm 0 0 l = none) := hf
  have hmk := makeN l.length (by omega) w
  clear hL hS ht hf
  obtain ⟨n, hn⟩ : ∃ n, l.length = n := ⟨_, rfl⟩
  rw [hn] at hlen hmk ⊢
  have HN : Hid (l.length = n) := hn
  have hst := rws_start w n (by omega) l
  have hbl : Below w.heap.size w ((((w.alloc (.cells (ni (List.replicate n 0)).toArray 3)).alloc (.cells #[.int .i64 (-1)] 3)).alloc (.cells #[.int .i64 0] 3)).alloc (.cells #[.int .i64 0] 3)) := ((((Below.refl _ w).alloc (Nat.le_refl _) _).alloc (by rw [World.size_alloc]; omega) _).alloc (by rw [World.size_alloc, World.size_alloc]; omega) _).alloc (by rw [World.size_alloc, World.size_alloc, World.size_alloc]; omega) _
  have HST : Hid (Rws w.heap.size ((((w.alloc (.cells (ni (List.replicate n 0)).toArray 3)).alloc (.cells #[.int .i64 (-1)] 3)).alloc (.cells #[.int .i64 0] 3)).alloc (.cells #[.int .i64 0] 3)) [(.slice (some ⟨w.heap.size, 0, none⟩) n n, List.replicate n 0), (.slice none 0 0, gsI []), (.slice (some ⟨w.heap.size + 1, 0, none⟩) 1 1, bsI [none]), (.slice (some ⟨w.heap.size + 1 + 1, 0, none⟩) 1 1, smsI l 0), (.slice (some ⟨w.heap.size + 1 + 1 + 1, 0, none⟩) 1 1, fcsI l 0)] ∧ Below w.heap.size w ((((w.alloc (.cells (ni (List.replicate n 0)).toArray 3)).alloc (.cells #[.int .i64 (-1)] 3)).alloc (.cells #[.int .i64 0] 3)).alloc (.cells #[.int .i64 0] 3))) := ⟨hst, hbl⟩
  clear hst hbl hn
  go_enter Tryd.func26, Tryd.ntmps26
  go_wp2_with fail
  go_loopw [4, 5, 6, 7, 8] (fun v4 v5 v6 v7 i wr => ∃ (k : Nat) (gs : List Nat) (bs : List (Option Nat)) (o : List Int), k ≤ n ∧ i = .int .i64 k ∧ Hid (Rws w.heap.size wr [(.slice (some ⟨w.heap.size, 0, none⟩) n n, o), (v4, gsI gs), (v5, bsI bs), (v6, smsI l k), (v7, fcsI l k)] ∧ Below w.heap.size w wr ∧ FwI l k gs bs ∧ OutP l k gs bs o)) (fun _ _ _ _ i _ => n - (intOf i).toNat)
  case atStart =>
    refine ⟨0, [], [none], List.replicate n 0, Nat.zero_le _, rfl, ?_⟩
    exact ⟨HST.out.1, HST.out.2, fw_first HF.out, ⟨by rw [List.length_replicate]; exact HN.out.symm, fun p d _ h => absurd h (Nat.not_lt_zero _)⟩⟩
  case round =>
    obtain ⟨k, gs, bs, o, hk, rfl, HI⟩ := hrel
    obtain ⟨hrw, hbw, hfw, hop⟩ := HI.out
    obtain ⟨b, bs', rfl, _⟩ := hfw.fw.top
    have hln := hfw.fw.lens
    obtain ⟨g2, c2, e5, hc2, hc2', _⟩ := hrw.get (k := 2) rfl (by rw [bsI_len]; simp)
    obtain ⟨g3, c3, e6, hc3, hc3', _⟩ := hrw.get (k := 3) rfl (by rw [smsI_len]; omega)
    obtain ⟨g4, c4, e7, hc4, hc4', _⟩ := hrw.get (k := 4) rfl (by rw [fcsI_len]; omega)
    obtain ⟨p1, c1, e4, hc1, hc1'⟩ := row_shp (hrw.row 1 _ rfl)
    simp only at e4
    rw [bsI_len] at e5 hc2
    rw [smsI_len] at e6 hc3
    rw [fcsI_len] at e7 hc4
    rw [gsI_len] at e4 hc1
    obtain ⟨T, hT⟩ : ∃ T, bs'.length = T := ⟨_, rfl⟩
    obtain ⟨G, hG⟩ : ∃ G, gs.length = G := ⟨_, rfl⟩
    rw [List.length_cons, hT] at e5 hc2
    rw [hG] at e4 hc1
    have hTG' : T = G ∧ G ≤ 1000000 := by
      have h1 := hln.1
      have h2 := hln.2
      rw [List.length_cons, hT] at h2
      rw [hG] at h1
      refine ⟨by omega, ?_⟩
      have : G ≤ n := by rw [← hG, ← HN.out]; exact gs_le hfw
      omega
    have hT6 : T ≤ 1000000 := by omega
    have hG6 : G ≤ 1000000 := hTG'.2
    clear hTG'
    subst e4 e5 e6 e7
    by_cases hlt : k < n
    · have q1 : (k : Int) < n := by omega
      have q0 : (0 : Int) ≤ k := by omega
      obtain ⟨d, hd⟩ : ∃ d, l[k]? = some d := ⟨_, List.getElem?_eq_getElem (by rw [HN.out]; exact hlt)⟩
      obtain ⟨_, bb, off, rfl, e0, e1, e2, e3, e4⟩ := (HL.out.1.below hbw) k d hd
      obtain ⟨hrt, _, _⟩ := hfw.rt hd
      have hds := HL.out.2.2 d (List.mem_of_getElem? hd)
      have hbm : Below wr.heap.size wr (wr.alloc (.cells #[.int .u8 d.k, .string d.t, .int .i64 d.b, .int .i64 d.i, .bool d.e] 26)) := (Below.refl _ _).alloc (Nat.le_refl _) _
      have HW : Hid (∀ V, Below (wr.heap.size + 1) (wr.alloc (.cells #[.int .u8 d.k, .string d.t, .int .i64 d.b, .int .i64 d.i, .bool d.e] 26)) V → WD w.heap.size V [(.slice (some ⟨w.heap.size, 0, none⟩) n n, o), (.slice p1 G c1, gsI gs), (.slice (some ⟨g2, 0, none⟩) (T + 1) c2, bsI (b :: bs')), (.slice (some ⟨g3, 0, none⟩) (k + 1) c3, smsI l k), (.slice (some ⟨g4, 0, none⟩) (k + 1) c4, fcsI l k)] wr.heap.size d ∧ Below w.heap.size w V) := fun V hV => by
        have hsz : (wr.alloc (.cells #[.int .u8 d.k, .string d.t, .int .i64 d.b, .int .i64 d.i, .bool d.e] 26)).heap.size = wr.heap.size + 1 := World.size_alloc _ _
        have h1 : WD w.heap.size (wr.alloc (.cells #[.int .u8 d.k, .string d.t, .int .i64 d.b, .int .i64 d.i, .bool d.e] 26)) _ wr.heap.size d := ⟨hrw.below hbm, new_at _ _⟩
        refine ⟨h1.below (by rw [hsz]; exact hV), ?_⟩
        exact (hbw.alloc hbw.size _).trans (hV.mono (by have := hbw.size; omega))
      have KW : Hid (∀ V, Calls Tryd.prog 49 #[.agg #[.int .u8 d.k, .string d.t, .int .i64 d.b, .int .i64 d.i, .bool d.e]] V fun e w' => e = .returned (.int .i64 (dwd d : Nat)) ∧ Below V.heap.size V w') := fun V => dwide_any d hrt hds V
      have HI2 : Hid (FwI l k gs (b :: bs') ∧ OutP l k gs (b :: bs') o ∧ l[k]? = some d ∧ bs'.length = T ∧ gs.length = G) := ⟨hfw, hop, hd, hT, hG⟩
      have hSk := HL.out.2.1 k
      have hSk1 := HL.out.2.1 (k + 1)
      have hs1 := Sf_succ hd
      have hf1 := Fc_succ hd
      have hfk : Fc l k ≤ k := fc_le l k
      obtain ⟨sf, hsf⟩ : ∃ s, Sf l k = s := ⟨_, rfl⟩
      obtain ⟨fc, hfc⟩ : ∃ s, Fc l k = s := ⟨_, rfl⟩
      rw [hsf] at hs1 hSk
      rw [hfc] at hf1 hfk
      have HSF : Hid (Sf l k = sf ∧ Fc l k = fc ∧ Sf l (k + 1) = sf + fwd d ∧ Fc l (k + 1) = fc + (if isF d then 1 else 0)) := ⟨hsf, hfc, hs1, hf1⟩
      have hdw : dwd d = if isF d then 1099511627776 else fwd d := rfl
      have hfb : fwd d ≤ 1000000000 := by omega
      clear hs1 hf1 hSk1 HI hrw hbw hfw hop hd hln hT hG hsf hfc hbm
      cases rt_of hrt with
      | text t hq =>
        simp only at e0 e1 e2 e3 e4 HW KW HSF HI2 hds hfb hdw
        by_cases hF0 : hasF t = true
        · have hF : isF ⟨1, t, 0, 0, false⟩ = true := by simp [isF, hF0]
          have hdz : dwd ⟨1, t, 0, 0, false⟩ = 1099511627776 := by unfold dwd; rw [hF]; rfl
          have hfz : fwd ⟨1, t, 0, 0, false⟩ = 0 := by unfold fwd; rw [hF]; rfl
          rw [hdz] at KW
          have HU : Hid (((Sf l (k + 1) : Nat) : Int) = (sf : Int) ∧ ((Fc l (k + 1) : Nat) : Int) = (fc : Int) + 1) := by
            show _ ∧ _
            rw [HSF.out.2.2.1, HSF.out.2.2.2, hF, hfz]
            exact ⟨by omega, by simp⟩
          clear hdz hfz hdw hF hfb
          have HFW : Hid (FwI l (k + 1) gs (b :: bs') ∧ OutP l (k + 1) gs (b :: bs') o) := ⟨HI2.out.1.plain HI2.out.2.2.1 (by simp), HI2.out.2.1.succ HI2.out.2.2.1 (by simp)⟩
          clear HI2
          go_wp2_with (first | (go_at_call 49; refine (KW.out _).mono ?_; rintro e w2 ⟨rfl, hb2⟩; have HT2 : Hid (∀ V, Below w2.heap.size w2 V → WD w.heap.size V [(.slice (some ⟨w.heap.size, 0, none⟩) n n, o), (.slice p1 G c1, gsI gs), (.slice (some ⟨g2, 0, none⟩) (T + 1) c2, bsI (b :: bs')), (.slice (some ⟨g3, 0, none⟩) (k + 1) c3, smsI l k), (.slice (some ⟨g4, 0, none⟩) (k + 1) c4, fcsI l k)] wr.heap.size ⟨1, t, 0, 0, false⟩ ∧ Below w.heap.size w V) := (fun V hV => HW.out V ((show Below (wr.heap.size + 1) _ w2 from (by rw [World.size_alloc] at hb2; exact hb2)).trans (hV.mono (by have := hb2.size; rw [World.size_alloc] at this; omega)))); clear hb2; have x3 := (HT2.out w2 (Below.refl _ _)).1.rws.cell (k := 3) rfl (by rw [smsI_len]) (smsI_at l (Nat.le_refl k)); rw [HSF.out.1] at x3; have x4 := (HT2.out w2 (Below.refl _ _)).1.rws.cell (k := 4) rfl (by rw [fcsI_len]) (fcsI_at l (Nat.le_refl k)); rw [HSF.out.2.1] at x4) | (at_builtin; refine app_wd2 rfl _ _ rfl w.heap.size _ 4 _ (fcsI l k) ((fc : Int) + 1) wr.heap.size ⟨1, t, 0, 0, false⟩ (k + 1) (by rw [fcsI_len]) rfl (HT3.out _ ((Below.refl _ _).alloc (Nat.le_refl _) _)).1 rfl _ 1 rfl (new_at _ _) (by omega) (HT3.out _ ((Below.refl _ _).alloc (Nat.le_refl _) _)).2.size ?_; intro q4 cq4 w4 hq41 hq42 hr4 hb4; have HT4 : Hid (WD w.heap.size w4 [(.slice (some ⟨w.heap.size, 0, none⟩) n n, o), (.slice p1 G c1, gsI gs), (.slice (some ⟨g2, 0, none⟩) (T + 1) c2, bsI (b :: bs')), (.slice (some ⟨q3, 0, none⟩) (k + 1 + 1) cq3, smsI l k ++ [(sf : Int)]), (.slice (some ⟨q4, 0, none⟩) (k + 1 + 1) cq4, fcsI l k ++ [((fc : Int) + 1)])] wr.heap.size ⟨1, t, 0, 0, false⟩ ∧ Below w.heap.size w w4) := ⟨hr4, (HT3.out _ ((Below.refl _ _).alloc (Nat.le_refl _) _)).2.trans hb4⟩; clear hr4 hb4) | (at_builtin; refine app_wd2 rfl _ _ rfl w.heap.size _ 3 _ (smsI l k) (sf : Int) wr.heap.size ⟨1, t, 0, 0, false⟩ (k + 1) (by rw [smsI_len]) rfl (HT2.out _ ((Below.refl _ _).alloc (Nat.le_refl _) _)).1 rfl _ 1 rfl (new_at _ _) (by omega) (HT2.out _ ((Below.refl _ _).alloc (Nat.le_refl _) _)).2.size ?_; intro q3 cq3 w3 hq31 hq32 hr3 hb3; have hbw3 := (HT2.out _ ((Below.refl _ _).alloc (Nat.le_refl _) _)).2.trans hb3; have HT3 : Hid (∀ V, Below w3.heap.size w3 V → WD w.heap.size V [(.slice (some ⟨w.heap.size, 0, none⟩) n n, o), (.slice p1 G c1, gsI gs), (.slice (some ⟨g2, 0, none⟩) (T + 1) c2, bsI (b :: bs')), (.slice (some ⟨q3, 0, none⟩) (k + 1 + 1) cq3, smsI l k ++ [(sf : Int)]), (.slice (some ⟨g4, 0, none⟩) (k + 1) c4, fcsI l k)] wr.heap.size ⟨1, t, 0, 0, false⟩ ∧ Below w.heap.size w V) := (fun V hV => ⟨hr3.below hV, hbw3.trans (hV.mono hbw3.size)⟩); have y4 := (HT3.out w3 (Below.refl _ _)).1.rws.cell (k := 4) rfl (by rw [fcsI_len]) (fcsI_at l (Nat.le_refl k)); rw [HSF.out.2.1] at y4; clear hr3 hb3 hbw3))
          exact ⟨⟨k + 1, gs, (b :: bs'), o, hlt, by go_num, by rw [smsI_succ, fcsI_succ, HU.out.1, HU.out.2]; exact HT4.out.1.rws, HT4.out.2, HFW.out.1, HFW.out.2⟩, by simp [intOf]; omega⟩
        · have hF : isF ⟨1, t, 0, 0, false⟩ = false := by simp [isF, hF0]
          have hdz : dwd ⟨1, t, 0, 0, false⟩ = fwd ⟨1, t, 0, 0, false⟩ := by unfold dwd; rw [hF]; rfl
          obtain ⟨z, hz⟩ : ∃ z, fwd ⟨1, t, 0, 0, false⟩ = z := ⟨_, rfl⟩
          rw [hdz, hz] at KW
          rw [hz] at hfb
          have hne : ((z : Int) == 1099511627776) = false := by rw [beq_eq_false_iff_ne]; omega
          have HU : Hid (((Sf l (k + 1) : Nat) : Int) = (sf : Int) + (z : Nat) ∧ ((Fc l (k + 1) : Nat) : Int) = (fc : Int)) := by
            show _ ∧ _
            rw [HSF.out.2.2.1, HSF.out.2.2.2, hF, hz]
            exact ⟨by omega, by simp⟩
          clear hdz hz hdw hF
          have HFW : Hid (FwI l (k + 1) gs (b :: bs') ∧ OutP l (k + 1) gs (b :: bs') o) := ⟨HI2.out.1.plain HI2.out.2.2.1 (by simp), HI2.out.2.1.succ HI2.out.2.2.1 (by simp)⟩
          clear HI2
          go_wp2_with (first | (go_at_call 49; refine (KW.out _).mono ?_; rintro e w2 ⟨rfl, hb2⟩; have HT2 : Hid (∀ V, Below w2.heap.size w2 V → WD w.heap.size V [(.slice (some ⟨w.heap.size, 0, none⟩) n n, o), (.slice p1 G c1, gsI gs), (.slice (some ⟨g2, 0, none⟩) (T + 1) c2, bsI (b :: bs')), (.slice (some ⟨g3, 0, none⟩) (k + 1) c3, smsI l k), (.slice (some ⟨g4, 0, none⟩) (k + 1) c4, fcsI l k)] wr.heap.size ⟨1, t, 0, 0, false⟩ ∧ Below w.heap.size w V) := (fun V hV => HW.out V ((show Below (wr.heap.size + 1) _ w2 from (by rw [World.size_alloc] at hb2; exact hb2)).trans (hV.mono (by have := hb2.size; rw [World.size_alloc] at this; omega)))); clear hb2; have x3 := (HT2.out w2 (Below.refl _ _)).1.rws.cell (k := 3) rfl (by rw [smsI_len]) (smsI_at l (Nat.le_refl k)); rw [HSF.out.1] at x3; have x4 := (HT2.out w2 (Below.refl _ _)).1.rws.cell (k := 4) rfl (by rw [fcsI_len]) (fcsI_at l (Nat.le_refl k)); rw [HSF.out.2.1] at x4) | (at_builtin; refine app_wd2 rfl _ _ rfl w.heap.size _ 4 _ (fcsI l k) (fc : Int) wr.heap.size ⟨1, t, 0, 0, false⟩ (k + 1) (by rw [fcsI_len]) rfl (HT3.out _ ((Below.refl _ _).alloc (Nat.le_refl _) _)).1 rfl _ 1 rfl (new_at _ _) (by omega) (HT3.out _ ((Below.refl _ _).alloc (Nat.le_refl _) _)).2.size ?_; intro q4 cq4 w4 hq41 hq42 hr4 hb4; have HT4 : Hid (WD w.heap.size w4 [(.slice (some ⟨w.heap.size, 0, none⟩) n n, o), (.slice p1 G c1, gsI gs), (.slice (some ⟨g2, 0, none⟩) (T + 1) c2, bsI (b :: bs')), (.slice (some ⟨q3, 0, none⟩) (k + 1 + 1) cq3, smsI l k ++ [((sf : Int) + (z : Nat))]), (.slice (some ⟨q4, 0, none⟩) (k + 1 + 1) cq4, fcsI l k ++ [(fc : Int)])] wr.heap.size ⟨1, t, 0, 0, false⟩ ∧ Below w.heap.size w w4) := ⟨hr4, (HT3.out _ ((Below.refl _ _).alloc (Nat.le_refl _) _)).2.trans hb4⟩; clear hr4 hb4) | (at_builtin; refine app_wd2 rfl _ _ rfl w.heap.size _ 3 _ (smsI l k) ((sf : Int) + (z : Nat)) wr.heap.size ⟨1, t, 0, 0, false⟩ (k + 1) (by rw [smsI_len]) rfl (HT2.out _ ((Below.refl _ _).alloc (Nat.le_refl _) _)).1 rfl _ 1 rfl (new_at _ _) (by omega) (HT2.out _ ((Below.refl _ _).alloc (Nat.le_refl _) _)).2.size ?_; intro q3 cq3 w3 hq31 hq32 hr3 hb3; have hbw3 := (HT2.out _ ((Below.refl _ _).alloc (Nat.le_refl _) _)).2.trans hb3; have HT3 : Hid (∀ V, Below w3.heap.size w3 V → WD w.heap.size V [(.slice (some ⟨w.heap.size, 0, none⟩) n n, o), (.slice p1 G c1, gsI gs), (.slice (some ⟨g2, 0, none⟩) (T + 1) c2, bsI (b :: bs')), (.slice (some ⟨q3, 0, none⟩) (k + 1 + 1) cq3, smsI l k ++ [((sf : Int) + (z : Nat))]), (.slice (some ⟨g4, 0, none⟩) (k + 1) c4, fcsI l k)] wr.heap.size ⟨1, t, 0, 0, false⟩ ∧ Below w.heap.size w V) := (fun V hV => ⟨hr3.below hV, hbw3.trans (hV.mono hbw3.size)⟩); have y4 := (HT3.out w3 (Below.refl _ _)).1.rws.cell (k := 4) rfl (by rw [fcsI_len]) (fcsI_at l (Nat.le_refl k)); rw [HSF.out.2.1] at y4; clear hr3 hb3 hbw3))
          exact ⟨⟨k + 1, gs, (b :: bs'), o, hlt, by go_num, by rw [smsI_succ, fcsI_succ, HU.out.1, HU.out.2]; exact HT4.out.1.rws, HT4.out.2, HFW.out.1, HFW.out.2⟩, by simp [intOf]; omega⟩
      | blank =>
        simp only at e0 e1 e2 e3 e4 HW KW HSF HI2 hds hfb hdw
        have hF : isF ⟨2, bE, 0, 0, false⟩ = false := by simp [isF]
        have hdz : dwd ⟨2, bE, 0, 0, false⟩ = fwd ⟨2, bE, 0, 0, false⟩ := by unfold dwd; rw [hF]; rfl
        obtain ⟨z, hz⟩ : ∃ z, fwd ⟨2, bE, 0, 0, false⟩ = z := ⟨_, rfl⟩
        rw [hdz, hz] at KW
        rw [hz] at hfb
        have hne : ((z : Int) == 1099511627776) = false := by rw [beq_eq_false_iff_ne]; omega
        have HU : Hid (((Sf l (k + 1) : Nat) : Int) = (sf : Int) + (z : Nat) ∧ ((Fc l (k + 1) : Nat) : Int) = (fc : Int)) := by
          show _ ∧ _
          rw [HSF.out.2.2.1, HSF.out.2.2.2, hF, hz]
          exact ⟨by omega, by simp⟩
        clear hdz hz hdw hF
        have HFW : Hid (FwI l (k + 1) gs (b :: bs') ∧ OutP l (k + 1) gs (b :: bs') o) := ⟨HI2.out.1.plain HI2.out.2.2.1 (by simp), HI2.out.2.1.succ HI2.out.2.2.1 (by simp)⟩
        clear HI2
        go_wp2_with (first | (go_at_call 49; refine (KW.out _).mono ?_; rintro e w2 ⟨rfl, hb2⟩; have HT2 : Hid (∀ V, Below w2.heap.size w2 V → WD w.heap.size V [(.slice (some ⟨w.heap.size, 0, none⟩) n n, o), (.slice p1 G c1, gsI gs), (.slice (some ⟨g2, 0, none⟩) (T + 1) c2, bsI (b :: bs')), (.slice (some ⟨g3, 0, none⟩) (k + 1) c3, smsI l k), (.slice (some ⟨g4, 0, none⟩) (k + 1) c4, fcsI l k)] wr.heap.size ⟨2, bE, 0, 0, false⟩ ∧ Below w.heap.size w V) := (fun V hV => HW.out V ((show Below (wr.heap.size + 1) _ w2 from (by rw [World.size_alloc] at hb2; exact hb2)).trans (hV.mono (by have := hb2.size; rw [World.size_alloc] at this; omega)))); clear hb2; have x3 := (HT2.out w2 (Below.refl _ _)).1.rws.cell (k := 3) rfl (by rw [smsI_len]) (smsI_at l (Nat.le_refl k)); rw [HSF.out.1] at x3; have x4 := (HT2.out w2 (Below.refl _ _)).1.rws.cell (k := 4) rfl (by rw [fcsI_len]) (fcsI_at l (Nat.le_refl k)); rw [HSF.out.2.1] at x4) | (at_builtin; refine app_wd2 rfl _ _ rfl w.heap.size _ 4 _ (fcsI l k) (fc : Int) wr.heap.size ⟨2, bE, 0, 0, false⟩ (k + 1) (by rw [fcsI_len]) rfl (HT3.out _ ((Below.refl _ _).alloc (Nat.le_refl _) _)).1 rfl _ 1 rfl (new_at _ _) (by omega) (HT3.out _ ((Below.refl _ _).alloc (Nat.le_refl _) _)).2.size ?_; intro q4 cq4 w4 hq41 hq42 hr4 hb4; have HT4 : Hid (WD w.heap.size w4 [(.slice (some ⟨w.heap.size, 0, none⟩) n n, o), (.slice p1 G c1, gsI gs), (.slice (some ⟨g2, 0, none⟩) (T + 1) c2, bsI (b :: bs')), (.slice (some ⟨q3, 0, none⟩) (k + 1 + 1) cq3, smsI l k ++ [((sf : Int) + (z : Nat))]), (.slice (some ⟨q4, 0, none⟩) (k + 1 + 1) cq4, fcsI l k ++ [(fc : Int)])] wr.heap.size ⟨2, bE, 0, 0, false⟩ ∧ Below w.heap.size w w4) := ⟨hr4, (HT3.out _ ((Below.refl _ _).alloc (Nat.le_refl _) _)).2.trans hb4⟩; clear hr4 hb4) | (at_builtin; refine app_wd2 rfl _ _ rfl w.heap.size _ 3 _ (smsI l k) ((sf : Int) + (z : Nat)) wr.heap.size ⟨2, bE, 0, 0, false⟩ (k + 1) (by rw [smsI_len]) rfl (HT2.out _ ((Below.refl _ _).alloc (Nat.le_refl _) _)).1 rfl _ 1 rfl (new_at _ _) (by omega) (HT2.out _ ((Below.refl _ _).alloc (Nat.le_refl _) _)).2.size ?_; intro q3 cq3 w3 hq31 hq32 hr3 hb3; have hbw3 := (HT2.out _ ((Below.refl _ _).alloc (Nat.le_refl _) _)).2.trans hb3; have HT3 : Hid (∀ V, Below w3.heap.size w3 V → WD w.heap.size V [(.slice (some ⟨w.heap.size, 0, none⟩) n n, o), (.slice p1 G c1, gsI gs), (.slice (some ⟨g2, 0, none⟩) (T + 1) c2, bsI (b :: bs')), (.slice (some ⟨q3, 0, none⟩) (k + 1 + 1) cq3, smsI l k ++ [((sf : Int) + (z : Nat))]), (.slice (some ⟨g4, 0, none⟩) (k + 1) c4, fcsI l k)] wr.heap.size ⟨2, bE, 0, 0, false⟩ ∧ Below w.heap.size w V) := (fun V hV => ⟨hr3.below hV, hbw3.trans (hV.mono hbw3.size)⟩); have y4 := (HT3.out w3 (Below.refl _ _)).1.rws.cell (k := 4) rfl (by rw [fcsI_len]) (fcsI_at l (Nat.le_refl k)); rw [HSF.out.2.1] at y4; clear hr3 hb3 hbw3))
        exact ⟨⟨k + 1, gs, (b :: bs'), o, hlt, by go_num, by rw [smsI_succ, fcsI_succ, HU.out.1, HU.out.2]; exact HT4.out.1.rws, HT4.out.2, HFW.out.1, HFW.out.2⟩, by simp [intOf]; omega⟩
      | brk m hq =>
        simp only at e0 e1 e2 e3 e4 HW KW HSF HI2 hds hfb hdw
        cases b with
        | none =>
          have hF : isF ⟨3, bE, m, 0, false⟩ = false := by simp [isF]
          have hdz : dwd ⟨3, bE, m, 0, false⟩ = fwd ⟨3, bE, m, 0, false⟩ := by unfold dwd; rw [hF]; rfl
          obtain ⟨z, hz⟩ : ∃ z, fwd ⟨3, bE, m, 0, false⟩ = z := ⟨_, rfl⟩
          rw [hdz, hz] at KW
          rw [hz] at hfb
          have hne : ((z : Int) == 1099511627776) = false := by rw [beq_eq_false_iff_ne]; omega
          have HU : Hid (((Sf l (k + 1) : Nat) : Int) = (sf : Int) + (z : Nat) ∧ ((Fc l (k + 1) : Nat) : Int) = (fc : Int)) := by
            show _ ∧ _
            rw [HSF.out.2.2.1, HSF.out.2.2.2, hF, hz]
            exact ⟨by omega, by simp⟩
          clear hdz hz hdw hF
          obtain ⟨hst, hfn⟩ := HI2.out.1.brk HI2.out.2.2.1 rfl
          have hou := HI2.out.2.1.top HL.out.2.1 (by rw [HN.out]; exact hk) hst
          have HFW : Hid (FwI l (k + 1) gs (some k :: bs') ∧ OutP l (k + 1) gs (some k :: bs') o) := ⟨hfn, (hou.mono (fun q hq => hq.elim .inl (fun h => .inr (List.mem_cons_of_mem _ h)))).succ HI2.out.2.2.1 (fun _ => .inr List.mem_cons_self)⟩
          have HLN : Hid (T + 1 = (bsI (none :: bs')).length ∧ bs'.length = T) := ⟨by rw [bsI_len, List.length_cons, HI2.out.2.2.2.1], HI2.out.2.2.2.1⟩
          have HOL : Hid (o.length = n) := HI2.out.2.1.len.trans HN.out
          clear hst hfn hou HI2
          have q3 : (T : Int) < (T : Int) + 1 := by omega
          have q4 : (0 : Int) ≤ T := by omega
          have t2 : (wr.alloc (.cells #[.int .u8 3, .string bE, .int .i64 m, .int .i64 0, .bool false] 26)).cell? ⟨g2, T, none⟩ = some (.int .i64 (-1)) := (HW.out _ (Below.refl _ _)).1.rws.cell (k := 2) rfl HLN.out.1 (by have := bsI_top none bs'; rw [HLN.out.2] at this; exact this)
          have f2 : (wr.alloc (.cells #[.int .u8 3, .string bE, .int .i64 m, .int .i64 0, .bool false] 26)).frozen? ⟨g2, T, none⟩ = false := (HW.out _ (Below.refl _ _)).1.rws.frozen (k := 2) rfl HLN.out.1 T
          have hxs : WD w.heap.size ((wr.alloc (.cells #[.int .u8 3, .string bE, .int .i64 m, .int .i64 0, .bool false] 26)).setCell ⟨g2, T, none⟩ (.int .i64 (-1))) [(.slice (some ⟨w.heap.size, 0, none⟩) n n, o), (.slice p1 G c1, gsI gs), (.slice (some ⟨g2, 0, none⟩) (T + 1) c2, bsI (none :: bs')), (.slice (some ⟨g3, 0, none⟩) (k + 1) c3, smsI l k), (.slice (some ⟨g4, 0, none⟩) (k + 1) c4, fcsI l k)] wr.heap.size ⟨3, bE, m, 0, false⟩ ∧ Below w.heap.size w ((wr.alloc (.cells #[.int .u8 3, .string bE, .int .i64 m, .int .i64 0, .bool false] 26)).setCell ⟨g2, T, none⟩ (.int .i64 (-1))) := by
            have h1 := (HW.out _ (Below.refl _ _)).1.store HLN.out.1 (k := 2) rfl T (-1)
            have h2 := bsI_set none none bs'
            rw [HLN.out.2] at h2
            refine ⟨by rw [← h2]; exact h1, (HW.out _ (Below.refl _ _)).2.setCell ((HW.out _ (Below.refl _ _)).1.rws.base (k := 2) rfl) _⟩
          have hxb := hxs.1.blk
          have x0 := blk_cell (k := 0) hxb rfl
          have x1 := blk_cell (k := 1) hxb rfl
          have x2 := blk_cell (k := 2) hxb rfl
          have x3 := blk_cell (k := 3) hxb rfl
          have x4 := blk_cell (k := 4) hxb rfl
          have HLN2 : Hid (T + 1 = (bsI (none :: bs')).length) := by show _ = _; rw [bsI_len, List.length_cons, HLN.out.2]
          have t3 : ((wr.alloc (.cells #[.int .u8 3, .string bE, .int .i64 m, .int .i64 0, .bool false] 26)).setCell ⟨g2, T, none⟩ (.int .i64 (-1))).cell? ⟨g2, T, none⟩ = some (.int .i64 (-1)) := hxs.1.rws.cell (k := 2) rfl HLN2.out (by have := bsI_top none bs'; rw [HLN.out.2] at this; exact this)
          have f3 : ((wr.alloc (.cells #[.int .u8 3, .string bE, .int .i64 m, .int .i64 0, .bool false] 26)).setCell ⟨g2, T, none⟩ (.int .i64 (-1))).frozen? ⟨g2, T, none⟩ = false := hxs.1.rws.frozen (k := 2) rfl HLN2.out T
          have hys : WD w.heap.size (((wr.alloc (.cells #[.int .u8 3, .string bE, .int .i64 m, .int .i64 0, .bool false] 26)).setCell ⟨g2, T, none⟩ (.int .i64 (-1))).setCell ⟨g2, T, none⟩ (.int .i64 (k : Int))) [(.slice (some ⟨w.heap.size, 0, none⟩) n n, o), (.slice p1 G c1, gsI gs), (.slice (some ⟨g2, 0, none⟩) (T + 1) c2, bsI (some k :: bs')), (.slice (some ⟨g3, 0, none⟩) (k + 1) c3, smsI l k), (.slice (some ⟨g4, 0, none⟩) (k + 1) c4, fcsI l k)] wr.heap.size ⟨3, bE, m, 0, false⟩ ∧ Below w.heap.size w (((wr.alloc (.cells #[.int .u8 3, .string bE, .int .i64 m, .int .i64 0, .bool false] 26)).setCell ⟨g2, T, none⟩ (.int .i64 (-1))).setCell ⟨g2, T, none⟩ (.int .i64 (k : Int))) := by
            have h1 := hxs.1.store HLN2.out (k := 2) rfl T (k : Int)
            have h2 := bsI_set none (some k) bs'
            rw [HLN.out.2] at h2
            refine ⟨by rw [← h2]; exact h1, hxs.2.setCell (hxs.1.rws.base (k := 2) rfl) _⟩
          have hyb := hys.1.blk
          have yy0 := blk_cell (k := 0) hyb rfl
          have yy1 := blk_cell (k := 1) hyb rfl
          have yy2 := blk_cell (k := 2) hyb rfl
          have yy3 := blk_cell (k := 3) hyb rfl
          have yy4 := blk_cell (k := 4) hyb rfl
          have HX : Hid (∀ V, Below (((wr.alloc (.cells #[.int .u8 3, .string bE, .int .i64 m, .int .i64 0, .bool false] 26)).setCell ⟨g2, T, none⟩ (.int .i64 (-1))).setCell ⟨g2, T, none⟩ (.int .i64 (k : Int))).heap.size (((wr.alloc (.cells #[.int .u8 3, .string bE, .int .i64 m, .int .i64 0, .bool false] 26)).setCell ⟨g2, T, none⟩ (.int .i64 (-1))).setCell ⟨g2, T, none⟩ (.int .i64 (k : Int))) V → WD w.heap.size V [(.slice (some ⟨w.heap.size, 0, none⟩) n n, o), (.slice p1 G c1, gsI gs), (.slice (some ⟨g2, 0, none⟩) (T + 1) c2, bsI (some k :: bs')), (.slice (some ⟨g3, 0, none⟩) (k + 1) c3, smsI l k), (.slice (some ⟨g4, 0, none⟩) (k + 1) c4, fcsI l k)] wr.heap.size ⟨3, bE, m, 0, false⟩ ∧ Below w.heap.size w V) := fun V hV => ⟨hys.1.below hV, hys.2.trans (hV.mono hys.2.size)⟩
          clear hys hyb hxs hxb
          go_wp2_with (first | (go_at_call 49; refine (KW.out _).mono ?_; rintro e w2 ⟨rfl, hb2⟩; have HT2 : Hid (∀ V, Below w2.heap.size w2 V → WD w.heap.size V [(.slice (some ⟨w.heap.size, 0, none⟩) n n, o), (.slice p1 G c1, gsI gs), (.slice (some ⟨g2, 0, none⟩) (T + 1) c2, bsI (some k :: bs')), (.slice (some ⟨g3, 0, none⟩) (k + 1) c3, smsI l k), (.slice (some ⟨g4, 0, none⟩) (k + 1) c4, fcsI l k)] wr.heap.size ⟨3, bE, m, 0, false⟩ ∧ Below w.heap.size w V) := (fun V hV => HX.out V (hb2.trans (hV.mono hb2.size))); clear hb2; have x3 := (HT2.out w2 (Below.refl _ _)).1.rws.cell (k := 3) rfl (by rw [smsI_len]) (smsI_at l (Nat.le_refl k)); rw [HSF.out.1] at x3; have x4 := (HT2.out w2 (Below.refl _ _)).1.rws.cell (k := 4) rfl (by rw [fcsI_len]) (fcsI_at l (Nat.le_refl k)); rw [HSF.out.2.1] at x4) | (at_builtin; refine app_wd2 rfl _ _ rfl w.heap.size _ 4 _ (fcsI l k) (fc : Int) wr.heap.size ⟨3, bE, m, 0, false⟩ (k + 1) (by rw [fcsI_len]) rfl (HT3.out _ ((Below.refl _ _).alloc (Nat.le_refl _) _)).1 rfl _ 1 rfl (new_at _ _) (by omega) (HT3.out _ ((Below.refl _ _).alloc (Nat.le_refl _) _)).2.size ?_; intro q4 cq4 w4 hq41 hq42 hr4 hb4; have HT4 : Hid (WD w.heap.size w4 [(.slice (some ⟨w.heap.size, 0, none⟩) n n, o), (.slice p1 G c1, gsI gs), (.slice (some ⟨g2, 0, none⟩) (T + 1) c2, bsI (some k :: bs')), (.slice (some ⟨q3, 0, none⟩) (k + 1 + 1) cq3, smsI l k ++ [((sf : Int) + (z : Nat))]), (.slice (some ⟨q4, 0, none⟩) (k + 1 + 1) cq4, fcsI l k ++ [(fc : Int)])] wr.heap.size ⟨3, bE, m, 0, false⟩ ∧ Below w.heap.size w w4) := ⟨hr4, (HT3.out _ ((Below.refl _ _).alloc (Nat.le_refl _) _)).2.trans hb4⟩; clear hr4 hb4) | (at_builtin; refine app_wd2 rfl _ _ rfl w.heap.size _ 3 _ (smsI l k) ((sf : Int) + (z : Nat)) wr.heap.size ⟨3, bE, m, 0, false⟩ (k + 1) (by rw [smsI_len]) rfl (HT2.out _ ((Below.refl _ _).alloc (Nat.le_refl _) _)).1 rfl _ 1 rfl (new_at _ _) (by omega) (HT2.out _ ((Below.refl _ _).alloc (Nat.le_refl _) _)).2.size ?_; intro q3 cq3 w3 hq31 hq32 hr3 hb3; have hbw3 := (HT2.out _ ((Below.refl _ _).alloc (Nat.le_refl _) _)).2.trans hb3; have HT3 : Hid (∀ V, Below w3.heap.size w3 V → WD w.heap.size V [(.slice (some ⟨w.heap.size, 0, none⟩) n n, o), (.slice p1 G c1, gsI gs), (.slice (some ⟨g2, 0, none⟩) (T + 1) c2, bsI (some k :: bs')), (.slice (some ⟨q3, 0, none⟩) (k + 1 + 1) cq3, smsI l k ++ [((sf : Int) + (z : Nat))]), (.slice (some ⟨g4, 0, none⟩) (k + 1) c4, fcsI l k)] wr.heap.size ⟨3, bE, m, 0, false⟩ ∧ Below w.heap.size w V) := (fun V hV => ⟨hr3.below hV, hbw3.trans (hV.mono hbw3.size)⟩); have y4 := (HT3.out w3 (Below.refl _ _)).1.rws.cell (k := 4) rfl (by rw [fcsI_len]) (fcsI_at l (Nat.le_refl k)); rw [HSF.out.2.1] at y4; clear hr3 hb3 hbw3))
          exact ⟨⟨k + 1, gs, (some k :: bs'), o, hlt, by go_num, by rw [smsI_succ, fcsI_succ, HU.out.1, HU.out.2]; exact HT4.out.1.rws, HT4.out.2, HFW.out.1, HFW.out.2⟩, by simp [intOf]; omega⟩
        | some p =>
          have hF : isF ⟨3, bE, m, 0, false⟩ = false := by simp [isF]
          have hdz : dwd ⟨3, bE, m, 0, false⟩ = fwd ⟨3, bE, m, 0, false⟩ := by unfold dwd; rw [hF]; rfl
          obtain ⟨z, hz⟩ : ∃ z, fwd ⟨3, bE, m, 0, false⟩ = z := ⟨_, rfl⟩
          rw [hdz, hz] at KW
          rw [hz] at hfb
          have hne : ((z : Int) == 1099511627776) = false := by rw [beq_eq_false_iff_ne]; omega
          have HU : Hid (((Sf l (k + 1) : Nat) : Int) = (sf : Int) + (z : Nat) ∧ ((Fc l (k + 1) : Nat) : Int) = (fc : Int)) := by
            show _ ∧ _
            rw [HSF.out.2.2.1, HSF.out.2.2.2, hF, hz]
            exact ⟨by omega, by simp⟩
          clear hdz hz hdw hF
          obtain ⟨hst, hfn⟩ := HI2.out.1.brk HI2.out.2.2.1 rfl
          have hou := HI2.out.2.1.top HL.out.2.1 (by rw [HN.out]; exact hk) hst
          have HFW : Hid (FwI l (k + 1) gs (some k :: bs') ∧ OutP l (k + 1) gs (some k :: bs') (o.set p ((btw l p k : Nat) : Int))) := ⟨hfn, (hou.mono (fun q hq => hq.elim .inl (fun h => .inr (List.mem_cons_of_mem _ h)))).succ HI2.out.2.2.1 (fun _ => .inr List.mem_cons_self)⟩
          have HLN : Hid (T + 1 = (bsI ((some p) :: bs')).length ∧ bs'.length = T) := ⟨by rw [bsI_len, List.length_cons, HI2.out.2.2.2.1], HI2.out.2.2.2.1⟩
          have HOL : Hid (o.length = n) := HI2.out.2.1.len.trans HN.out
          have HSP : Hid (Set1 l k p) := hst p rfl
          have hpk : p < k := HSP.out.1
          clear hst hfn hou HI2
          have q3 : (T : Int) < (T : Int) + 1 := by omega
          have q4 : (0 : Int) ≤ T := by omega
          have q5 : (0 : Int) ≤ p := by omega
          have q6 : (p : Int) < n := by omega
          have hge : ((0 : Int) ≤ (p : Int)) := by omega
          have t2 : (wr.alloc (.cells #[.int .u8 3, .string bE, .int .i64 m, .int .i64 0, .bool false] 26)).cell? ⟨g2, T, none⟩ = some (.int .i64 p) := (HW.out _ (Below.refl _ _)).1.rws.cell (k := 2) rfl HLN.out.1 (by have := bsI_top (some p) bs'; rw [HLN.out.2] at this; exact this)
          go_wp2_with fail
          obtain ⟨W1, hW1⟩ : ∃ W1, (wr.alloc (.cells #[.int .u8 3, .string bE, .int .i64 m, .int .i64 0, .bool false] 26)) = W1 := ⟨_, rfl⟩
          have hs1 : W1.heap.size = wr.heap.size + 1 := by rw [← hW1]; exact World.size_alloc _ _
          rw [hW1] at HW t2 ⊢
          have HW1 : Hid (∀ V, Below W1.heap.size W1 V → WD w.heap.size V [(.slice (some ⟨w.heap.size, 0, none⟩) n n, o), (.slice p1 G c1, gsI gs), (.slice (some ⟨g2, 0, none⟩) (T + 1) c2, bsI (some p :: bs')), (.slice (some ⟨g3, 0, none⟩) (k + 1) c3, smsI l k), (.slice (some ⟨g4, 0, none⟩) (k + 1) c4, fcsI l k)] wr.heap.size ⟨3, bE, m, 0, false⟩ ∧ Below w.heap.size w V) := fun V hV => HW.out V (by rw [← hs1]; exact hV)
          clear hW1 hs1 HW
          obtain ⟨old, hold⟩ : ∃ x, o[p]? = some x := ⟨_, List.getElem?_eq_getElem (by rw [HOL.out]; omega)⟩
          have HO : Hid (o[p]? = some old) := hold
          clear hold
          obtain ⟨R, hR⟩ : ∃ R, btw l p k = R := ⟨_, rfl⟩
          have HRR : Hid (btw l p k = R) := hR
          have KB : Hid (∀ V, Below W1.heap.size W1 V → Calls Tryd.prog 48 #[.slice (some ⟨g3, 0, none⟩) (k + 1) c3, .slice (some ⟨g4, 0, none⟩) (k + 1) c4, .int .i64 p, .int .i64 k] V fun e w2 => e = .returned (.int .i64 (R : Nat)) ∧ Hid (Below W1.heap.size W1 w2) ∧ w2.cell? ⟨g2, T, none⟩ = some (.int .i64 p) ∧ w2.cell? ⟨w.heap.size, p, none⟩ = some (.int .i64 old) ∧ w2.frozen? ⟨w.heap.size, p, none⟩ = false ∧ (w2.setCell ⟨w.heap.size, p, none⟩ (.int .i64 (R : Nat))).cell? ⟨g2, T, none⟩ = some (.int .i64 p)) := fun V hV => by
            have h1 := (HW1.out V hV).1.rws
            rw [← hR]
            refine (between_any l p k (by omega) g3 g4 (k + 1) (k + 1) c3 c4 V ⟨hc3, hc3', by omega⟩ ⟨hc4, hc4', by omega⟩ (h1.cell (k := 3) rfl (by rw [smsI_len]) (smsI_at l (by omega))) (h1.cell (k := 3) rfl (by rw [smsI_len]) (smsI_at l (Nat.le_refl k))) (h1.cell (k := 4) rfl (by rw [fcsI_len]) (fcsI_at l (by omega))) (h1.cell (k := 4) rfl (by rw [fcsI_len]) (fcsI_at l (Nat.le_refl k))) (HL.out.2.1 k)).mono ?_
            rintro e w2 ⟨rfl, hb⟩
            have hb' : Below W1.heap.size W1 w2 := hV.trans (hb.mono hV.size)
            have h2 := (HW1.out w2 hb').1.rws
            exact ⟨rfl, hb', h2.cell (k := 2) rfl HLN.out.1 (by have := bsI_top (some p) bs'; rw [HLN.out.2] at this; exact this), h2.cell (k := 0) rfl HOL.out.symm HO.out, h2.frozen (k := 0) rfl HOL.out.symm p, (h2.store HOL.out.symm (k := 0) rfl p _).cell (k := 2) rfl HLN.out.1 (by have := bsI_top (some p) bs'; rw [HLN.out.2] at this; exact this)⟩
          clear hR
          go_region_held3 (fun w' => w'.cell? ⟨g2, T, none⟩ = some (.int .i64 p)) (first | assumption | (exact t2) | go_keep) (first | (go_at_call 48; refine (KB.out _ (by first | exact (Below.refl _ _).drew | exact Below.refl _ _ | exact (Below.refl _ _).drew.drew | exact (Below.refl _ _).drew.drew.drew)).mono ?_; rintro e w2 ⟨rfl, HB2, y1, y2, y3, y5⟩))
          obtain ⟨Z, hZ⟩ : ∃ Z, w2.setCell ⟨w.heap.size, p, none⟩ (.int .i64 (R : Nat)) = Z := ⟨_, rfl⟩
          have hwz : WD w.heap.size Z [(.slice (some ⟨w.heap.size, 0, none⟩) n n, (o.set p ((R : Nat) : Int))), (.slice p1 G c1, gsI gs), (.slice (some ⟨g2, 0, none⟩) (T + 1) c2, bsI (some p :: bs')), (.slice (some ⟨g3, 0, none⟩) (k + 1) c3, smsI l k), (.slice (some ⟨g4, 0, none⟩) (k + 1) c4, fcsI l k)] wr.heap.size ⟨3, bE, m, 0, false⟩ ∧ Below w.heap.size w Z := by
            rw [← hZ]
            exact ⟨(HW1.out w2 HB2.out).1.store HOL.out.symm (k := 0) rfl p _, (HW1.out w2 HB2.out).2.setCell (Nat.le_refl _) _⟩
          rw [hZ]
          have HZ : Hid (∀ V, Below Z.heap.size Z V → WD w.heap.size V [(.slice (some ⟨w.heap.size, 0, none⟩) n n, (o.set p ((R : Nat) : Int))), (.slice p1 G c1, gsI gs), (.slice (some ⟨g2, 0, none⟩) (T + 1) c2, bsI (some p :: bs')), (.slice (some ⟨g3, 0, none⟩) (k + 1) c3, smsI l k), (.slice (some ⟨g4, 0, none⟩) (k + 1) c4, fcsI l k)] wr.heap.size ⟨3, bE, m, 0, false⟩ ∧ Below w.heap.size w V) := fun V hV => ⟨hwz.1.below hV, hwz.2.trans (hV.mono hwz.2.size)⟩
          rw [HRR.out] at HFW
          clear hZ hwz t2 y1 y2 y3 y5 KB
          have t2 : Z.cell? ⟨g2, T, none⟩ = some (.int .i64 p) := (HZ.out _ (Below.refl _ _)).1.rws.cell (k := 2) rfl HLN.out.1 (by have := bsI_top (some p) bs'; rw [HLN.out.2] at this; exact this)
          have f2 : Z.frozen? ⟨g2, T, none⟩ = false := (HZ.out _ (Below.refl _ _)).1.rws.frozen (k := 2) rfl HLN.out.1 T
          have hzb := (HZ.out _ (Below.refl _ _)).1.blk
          have zz0 := blk_cell (k := 0) hzb rfl
          have zz1 := blk_cell (k := 1) hzb rfl
          have zz2 := blk_cell (k := 2) hzb rfl
          have zz3 := blk_cell (k := 3) hzb rfl
          have zz4 := blk_cell (k := 4) hzb rfl
          clear hzb
          have hxs : WD w.heap.size (Z.setCell ⟨g2, T, none⟩ (.int .i64 (-1))) [(.slice (some ⟨w.heap.size, 0, none⟩) n n, (o.set p ((R : Nat) : Int))), (.slice p1 G c1, gsI gs), (.slice (some ⟨g2, 0, none⟩) (T + 1) c2, bsI (none :: bs')), (.slice (some ⟨g3, 0, none⟩) (k + 1) c3, smsI l k), (.slice (some ⟨g4, 0, none⟩) (k + 1) c4, fcsI l k)] wr.heap.size ⟨3, bE, m, 0, false⟩ ∧ Below w.heap.size w (Z.setCell ⟨g2, T, none⟩ (.int .i64 (-1))) := by
            have h1 := (HZ.out _ (Below.refl _ _)).1.store HLN.out.1 (k := 2) rfl T (-1)
            have h2 := bsI_set (some p) none bs'
            rw [HLN.out.2] at h2
            refine ⟨by rw [← h2]; exact h1, (HZ.out _ (Below.refl _ _)).2.setCell ((HZ.out _ (Below.refl _ _)).1.rws.base (k := 2) rfl) _⟩
          have hxb := hxs.1.blk
          have x0 := blk_cell (k := 0) hxb rfl
          have x1 := blk_cell (k := 1) hxb rfl
          have x2 := blk_cell (k := 2) hxb rfl
          have x3 := blk_cell (k := 3) hxb rfl
          have x4 := blk_cell (k := 4) hxb rfl
          have HLN2 : Hid (T + 1 = (bsI (none :: bs')).length) := by show _ = _; rw [bsI_len, List.length_cons, HLN.out.2]
          have t3 : (Z.setCell ⟨g2, T, none⟩ (.int .i64 (-1))).cell? ⟨g2, T, none⟩ = some (.int .i64 (-1)) := hxs.1.rws.cell (k := 2) rfl HLN2.out (by have := bsI_top none bs'; rw [HLN.out.2] at this; exact this)
          have f3 : (Z.setCell ⟨g2, T, none⟩ (.int .i64 (-1))).frozen? ⟨g2, T, none⟩ = false := hxs.1.rws.frozen (k := 2) rfl HLN2.out T
          have hys : WD w.heap.size ((Z.setCell ⟨g2, T, none⟩ (.int .i64 (-1))).setCell ⟨g2, T, none⟩ (.int .i64 (k : Int))) [(.slice (some ⟨w.heap.size, 0, none⟩) n n, (o.set p ((R : Nat) : Int))), (.slice p1 G c1, gsI gs), (.slice (some ⟨g2, 0, none⟩) (T + 1) c2, bsI (some k :: bs')), (.slice (some ⟨g3, 0, none⟩) (k + 1) c3, smsI l k), (.slice (some ⟨g4, 0, none⟩) (k + 1) c4, fcsI l k)] wr.heap.size ⟨3, bE, m, 0, false⟩ ∧ Below w.heap.size w ((Z.setCell ⟨g2, T, none⟩ (.int .i64 (-1))).setCell ⟨g2, T, none⟩ (.int .i64 (k : Int))) := by
            have h1 := hxs.1.store HLN2.out (k := 2) rfl T (k : Int)
            have h2 := bsI_set none (some k) bs'
            rw [HLN.out.2] at h2
            refine ⟨by rw [← h2]; exact h1, hxs.2.setCell (hxs.1.rws.base (k := 2) rfl) _⟩
          have hyb := hys.1.blk
          have yy0 := blk_cell (k := 0) hyb rfl
          have yy1 := blk_cell (k := 1) hyb rfl
          have yy2 := blk_cell (k := 2) hyb rfl
          have yy3 := blk_cell (k := 3) hyb rfl
          have yy4 := blk_cell (k := 4) hyb rfl
          have HX : Hid (∀ V, Below ((Z.setCell ⟨g2, T, none⟩ (.int .i64 (-1))).setCell ⟨g2, T, none⟩ (.int .i64 (k : Int))).heap.size ((Z.setCell ⟨g2, T, none⟩ (.int .i64 (-1))).setCell ⟨g2, T, none⟩ (.int .i64 (k : Int))) V → WD w.heap.size V [(.slice (some ⟨w.heap.size, 0, none⟩) n n, (o.set p ((R : Nat) : Int))), (.slice p1 G c1, gsI gs), (.slice (some ⟨g2, 0, none⟩) (T + 1) c2, bsI (some k :: bs')), (.slice (some ⟨g3, 0, none⟩) (k + 1) c3, smsI l k), (.slice (some ⟨g4, 0, none⟩) (k + 1) c4, fcsI l k)] wr.heap.size ⟨3, bE, m, 0, false⟩ ∧ Below w.heap.size w V) := fun V hV => ⟨hys.1.below hV, hys.2.trans (hV.mono hys.2.size)⟩
          clear hys hyb hxs hxb
          go_wp2_with (first | (go_at_call 49; refine (KW.out _).mono ?_; rintro e w2 ⟨rfl, hb2⟩; have HT2 : Hid (∀ V, Below w2.heap.size w2 V → WD w.heap.size V [(.slice (some ⟨w.heap.size, 0, none⟩) n n, (o.set p ((R : Nat) : Int))), (.slice p1 G c1, gsI gs), (.slice (some ⟨g2, 0, none⟩) (T + 1) c2, bsI (some k :: bs')), (.slice (some ⟨g3, 0, none⟩) (k + 1) c3, smsI l k), (.slice (some ⟨g4, 0, none⟩) (k + 1) c4, fcsI l k)] wr.heap.size ⟨3, bE, m, 0, false⟩ ∧ Below w.heap.size w V) := (fun V hV => HX.out V (hb2.trans (hV.mono hb2.size))); clear hb2; have x3 := (HT2.out w2 (Below.refl _ _)).1.rws.cell (k := 3) rfl (by rw [smsI_len]) (smsI_at l (Nat.le_refl k)); rw [HSF.out.1] at x3; have x4 := (HT2.out w2 (Below.refl _ _)).1.rws.cell (k := 4) rfl (by rw [fcsI_len]) (fcsI_at l (Nat.le_refl k)); rw [HSF.out.2.1] at x4) | (at_builtin; refine app_wd2 rfl _ _ rfl w.heap.size _ 4 _ (fcsI l k) (fc : Int) wr.heap.size ⟨3, bE, m, 0, false⟩ (k + 1) (by rw [fcsI_len]) rfl (HT3.out _ ((Below.refl _ _).alloc (Nat.le_refl _) _)).1 rfl _ 1 rfl (new_at _ _) (by omega) (HT3.out _ ((Below.refl _ _).alloc (Nat.le_refl _) _)).2.size ?_; intro q4 cq4 w4 hq41 hq42 hr4 hb4; have HT4 : Hid (WD w.heap.size w4 [(.slice (some ⟨w.heap.size, 0, none⟩) n n, (o.set p ((R : Nat) : Int))), (.slice p1 G c1, gsI gs), (.slice (some ⟨g2, 0, none⟩) (T + 1) c2, bsI (some k :: bs')), (.slice (some ⟨q3, 0, none⟩) (k + 1 + 1) cq3, smsI l k ++ [((sf : Int) + (z : Nat))]), (.slice (some ⟨q4, 0, none⟩) (k + 1 + 1) cq4, fcsI l k ++ [(fc : Int)])] wr.heap.size ⟨3, bE, m, 0, false⟩ ∧ Below w.heap.size w w4) := ⟨hr4, (HT3.out _ ((Below.refl _ _).alloc (Nat.le_refl _) _)).2.trans hb4⟩; clear hr4 hb4) | (at_builtin; refine app_wd2 rfl _ _ rfl w.heap.size _ 3 _ (smsI l k) ((sf : Int) + (z : Nat)) wr.heap.size ⟨3, bE, m, 0, false⟩ (k + 1) (by rw [smsI_len]) rfl (HT2.out _ ((Below.refl _ _).alloc (Nat.le_refl _) _)).1 rfl _ 1 rfl (new_at _ _) (by omega) (HT2.out _ ((Below.refl _ _).alloc (Nat.le_refl _) _)).2.size ?_; intro q3 cq3 w3 hq31 hq32 hr3 hb3; have hbw3 := (HT2.out _ ((Below.refl _ _).alloc (Nat.le_refl _) _)).2.trans hb3; have HT3 : Hid (∀ V, Below w3.heap.size w3 V → WD w.heap.size V [(.slice (some ⟨w.heap.size, 0, none⟩) n n, (o.set p ((R : Nat) : Int))), (.slice p1 G c1, gsI gs), (.slice (some ⟨g2, 0, none⟩) (T + 1) c2, bsI (some k :: bs')), (.slice (some ⟨q3, 0, none⟩) (k + 1 + 1) cq3, smsI l k ++ [((sf : Int) + (z : Nat))]), (.slice (some ⟨g4, 0, none⟩) (k + 1) c4, fcsI l k)] wr.heap.size ⟨3, bE, m, 0, false⟩ ∧ Below w.heap.size w V) := (fun V hV => ⟨hr3.below hV, hbw3.trans (hV.mono hbw3.size)⟩); have y4 := (HT3.out w3 (Below.refl _ _)).1.rws.cell (k := 4) rfl (by rw [fcsI_len]) (fcsI_at l (Nat.le_refl k)); rw [HSF.out.2.1] at y4; clear hr3 hb3 hbw3))
          exact ⟨⟨k + 1, gs, (some k :: bs'), (o.set p ((R : Nat) : Int)), hlt, by go_num, by rw [smsI_succ, fcsI_succ, HU.out.1, HU.out.2]; exact HT4.out.1.rws, HT4.out.2, HFW.out.1, HFW.out.2⟩, by simp [intOf]; omega⟩
      | beg m e hq =>
        simp only at e0 e1 e2 e3 e4 HW KW HSF HI2 hds hfb hdw
        have hF : isF ⟨6, bE, 0, m, e⟩ = false := by simp [isF]
        have hdz : dwd ⟨6, bE, 0, m, e⟩ = fwd ⟨6, bE, 0, m, e⟩ := by unfold dwd; rw [hF]; rfl
        obtain ⟨z, hz⟩ : ∃ z, fwd ⟨6, bE, 0, m, e⟩ = z := ⟨_, rfl⟩
        rw [hdz, hz] at KW
        rw [hz] at hfb
        have hne : ((z : Int) == 1099511627776) = false := by rw [beq_eq_false_iff_ne]; omega
        have HU : Hid (((Sf l (k + 1) : Nat) : Int) = (sf : Int) + (z : Nat) ∧ ((Fc l (k + 1) : Nat) : Int) = (fc : Int)) := by
          show _ ∧ _
          rw [HSF.out.2.2.1, HSF.out.2.2.2, hF, hz]
          exact ⟨by omega, by simp⟩
        clear hdz hz hdw hF
        have HFW : Hid (FwI l (k + 1) (k :: gs) (none :: b :: bs') ∧ OutP l (k + 1) (k :: gs) (none :: b :: bs') o) := ⟨HI2.out.1.beg HI2.out.2.2.1 rfl, (HI2.out.2.1.mono (fun q hq => hq.elim (fun h => .inl (List.mem_cons_of_mem _ h)) (fun h => .inr (List.mem_cons_of_mem _ h)))).succ HI2.out.2.2.1 (fun _ => .inl List.mem_cons_self)⟩
        have HLN : Hid (G = (gsI gs).length ∧ T + 1 = (bsI (b :: bs')).length) := ⟨by rw [gsI_len]; exact HI2.out.2.2.2.2.symm, by rw [bsI_len, List.length_cons, HI2.out.2.2.2.1]⟩
        clear HI2
        go_wp2_with (first | (go_at_call 49; refine (KW.out _).mono ?_; rintro e w2 ⟨rfl, hb2⟩; have HT2 : Hid (∀ V, Below w2.heap.size w2 V → WD w.heap.size V [(.slice (some ⟨w.heap.size, 0, none⟩) n n, o), (.slice (some ⟨qa, 0, none⟩) (G + 1) ca, gsI (k :: gs)), (.slice (some ⟨qb, 0, none⟩) (T + 1 + 1) cb, bsI (none :: b :: bs')), (.slice (some ⟨g3, 0, none⟩) (k + 1) c3, smsI l k), (.slice (some ⟨g4, 0, none⟩) (k + 1) c4, fcsI l k)] wr.heap.size ⟨6, bE, 0, m, e⟩ ∧ Below w.heap.size w V) := (fun V hV => HTb.out V (hb2.trans (hV.mono hb2.size))); clear hb2; have x3 := (HT2.out w2 (Below.refl _ _)).1.rws.cell (k := 3) rfl (by rw [smsI_len]) (smsI_at l (Nat.le_refl k)); rw [HSF.out.1] at x3; have x4 := (HT2.out w2 (Below.refl _ _)).1.rws.cell (k := 4) rfl (by rw [fcsI_len]) (fcsI_at l (Nat.le_refl k)); rw [HSF.out.2.1] at x4) | (at_builtin; refine app_wd2 rfl _ _ rfl w.heap.size _ 4 _ (fcsI l k) (fc : Int) wr.heap.size ⟨6, bE, 0, m, e⟩ (k + 1) (by rw [fcsI_len]) rfl (HT3.out _ ((Below.refl _ _).alloc (Nat.le_refl _) _)).1 rfl _ 1 rfl (new_at _ _) (by omega) (HT3.out _ ((Below.refl _ _).alloc (Nat.le_refl _) _)).2.size ?_; intro q4 cq4 w4 hq41 hq42 hr4 hb4; have HT4 : Hid (WD w.heap.size w4 [(.slice (some ⟨w.heap.size, 0, none⟩) n n, o), (.slice (some ⟨qa, 0, none⟩) (G + 1) ca, gsI (k :: gs)), (.slice (some ⟨qb, 0, none⟩) (T + 1 + 1) cb, bsI (none :: b :: bs')), (.slice (some ⟨q3, 0, none⟩) (k + 1 + 1) cq3, smsI l k ++ [((sf : Int) + (z : Nat))]), (.slice (some ⟨q4, 0, none⟩) (k + 1 + 1) cq4, fcsI l k ++ [(fc : Int)])] wr.heap.size ⟨6, bE, 0, m, e⟩ ∧ Below w.heap.size w w4) := ⟨hr4, (HT3.out _ ((Below.refl _ _).alloc (Nat.le_refl _) _)).2.trans hb4⟩; clear hr4 hb4) | (at_builtin; refine app_wd2 rfl _ _ rfl w.heap.size _ 3 _ (smsI l k) ((sf : Int) + (z : Nat)) wr.heap.size ⟨6, bE, 0, m, e⟩ (k + 1) (by rw [smsI_len]) rfl (HT2.out _ ((Below.refl _ _).alloc (Nat.le_refl _) _)).1 rfl _ 1 rfl (new_at _ _) (by omega) (HT2.out _ ((Below.refl _ _).alloc (Nat.le_refl _) _)).2.size ?_; intro q3 cq3 w3 hq31 hq32 hr3 hb3; have hbw3 := (HT2.out _ ((Below.refl _ _).alloc (Nat.le_refl _) _)).2.trans hb3; have HT3 : Hid (∀ V, Below w3.heap.size w3 V → WD w.heap.size V [(.slice (some ⟨w.heap.size, 0, none⟩) n n, o), (.slice (some ⟨qa, 0, none⟩) (G + 1) ca, gsI (k :: gs)), (.slice (some ⟨qb, 0, none⟩) (T + 1 + 1) cb, bsI (none :: b :: bs')), (.slice (some ⟨q3, 0, none⟩) (k + 1 + 1) cq3, smsI l k ++ [((sf : Int) + (z : Nat))]), (.slice (some ⟨g4, 0, none⟩) (k + 1) c4, fcsI l k)] wr.heap.size ⟨6, bE, 0, m, e⟩ ∧ Below w.heap.size w V) := (fun V hV => ⟨hr3.below hV, hbw3.trans (hV.mono hbw3.size)⟩); have y4 := (HT3.out w3 (Below.refl _ _)).1.rws.cell (k := 4) rfl (by rw [fcsI_len]) (fcsI_at l (Nat.le_refl k)); rw [HSF.out.2.1] at y4; clear hr3 hb3 hbw3) | (at_builtin; refine app_wd2 rfl _ _ rfl w.heap.size _ 2 _ (bsI (b :: bs')) (-1) wr.heap.size ⟨6, bE, 0, m, e⟩ (T + 1) HLN.out.2 rfl (HTa.out _ ((Below.refl _ _).alloc (Nat.le_refl _) _)).1 rfl _ 1 rfl (new_at _ _) (by omega) (HTa.out _ ((Below.refl _ _).alloc (Nat.le_refl _) _)).2.size ?_; intro qb cb wb hb1 hb2 hrb hbb; have hbwb := (HTa.out _ ((Below.refl _ _).alloc (Nat.le_refl _) _)).2.trans hbb; have HTb : Hid (∀ V, Below wb.heap.size wb V → WD w.heap.size V [(.slice (some ⟨w.heap.size, 0, none⟩) n n, o), (.slice (some ⟨qa, 0, none⟩) (G + 1) ca, gsI (k :: gs)), (.slice (some ⟨qb, 0, none⟩) (T + 1 + 1) cb, bsI (none :: b :: bs')), (.slice (some ⟨g3, 0, none⟩) (k + 1) c3, smsI l k), (.slice (some ⟨g4, 0, none⟩) (k + 1) c4, fcsI l k)] wr.heap.size ⟨6, bE, 0, m, e⟩ ∧ Below w.heap.size w V) := (fun V hV => ⟨by rw [bsI_cons]; exact hrb.below hV, hbwb.trans (hV.mono hbwb.size)⟩); have hblk := (HTb.out wb (Below.refl _ _)).1.blk; have b0 := blk_cell (k := 0) hblk rfl; have b1 := blk_cell (k := 1) hblk rfl; have b2 := blk_cell (k := 2) hblk rfl; have b3 := blk_cell (k := 3) hblk rfl; have b4 := blk_cell (k := 4) hblk rfl; clear hrb hbb hbwb hblk) | (at_builtin; refine app_wd2 rfl _ _ rfl w.heap.size _ 1 _ (gsI gs) (k : Int) wr.heap.size ⟨6, bE, 0, m, e⟩ G HLN.out.1 rfl (HW.out _ ((Below.refl _ _).alloc (by rw [World.size_alloc]; omega) _)).1 rfl _ 1 rfl (heap_new2 wr _ _) (by omega) (HW.out _ ((Below.refl _ _).alloc (by rw [World.size_alloc]; omega) _)).2.size ?_; intro qa ca wa ha1 ha2 hra hba; have hbwa := (HW.out _ ((Below.refl _ _).alloc (by rw [World.size_alloc]; omega) _)).2.trans hba; have HTa : Hid (∀ V, Below wa.heap.size wa V → WD w.heap.size V [(.slice (some ⟨w.heap.size, 0, none⟩) n n, o), (.slice (some ⟨qa, 0, none⟩) (G + 1) ca, gsI (k :: gs)), (.slice (some ⟨g2, 0, none⟩) (T + 1) c2, bsI (b :: bs')), (.slice (some ⟨g3, 0, none⟩) (k + 1) c3, smsI l k), (.slice (some ⟨g4, 0, none⟩) (k + 1) c4, fcsI l k)] wr.heap.size ⟨6, bE, 0, m, e⟩ ∧ Below w.heap.size w V) := (fun V hV => ⟨by rw [gsI_cons]; exact hra.below hV, hbwa.trans (hV.mono hbwa.size)⟩); clear hra hba hbwa))
        exact ⟨⟨k + 1, (k :: gs), (none :: b :: bs'), o, hlt, by go_num, by rw [smsI_succ, fcsI_succ, HU.out.1, HU.out.2]; exact HT4.out.1.rws, HT4.out.2, HFW.out.1, HFW.out.2⟩, by simp [intOf]; omega⟩
      | hard =>
        simp only at e0 e1 e2 e3 e4 HW KW HSF HI2 hds hfb hdw
        cases b with
        | none =>
          have hF : isF ⟨4, bE, 0, 0, false⟩ = true := by simp [isF]
          have hdz : dwd ⟨4, bE, 0, 0, false⟩ = 1099511627776 := by unfold dwd; rw [hF]; rfl
          have hfz : fwd ⟨4, bE, 0, 0, false⟩ = 0 := by unfold fwd; rw [hF]; rfl
          rw [hdz] at KW
          have HU : Hid (((Sf l (k + 1) : Nat) : Int) = (sf : Int) ∧ ((Fc l (k + 1) : Nat) : Int) = (fc : Int) + 1) := by
            show _ ∧ _
            rw [HSF.out.2.2.1, HSF.out.2.2.2, hF, hfz]
            exact ⟨by omega, by simp⟩
          clear hdz hfz hdw hF hfb
          obtain ⟨hst, hfn⟩ := HI2.out.1.hard HI2.out.2.2.1 (by simp)
          have hou := HI2.out.2.1.top HL.out.2.1 (by rw [HN.out]; exact hk) hst
          have HFW : Hid (FwI l (k + 1) gs (none :: bs') ∧ OutP l (k + 1) gs (none :: bs') o) := ⟨hfn, (hou.mono (fun q hq => hq.elim .inl (fun h => .inr (List.mem_cons_of_mem _ h)))).succ HI2.out.2.2.1 (by simp)⟩
          have HLN : Hid (T + 1 = (bsI (none :: bs')).length ∧ bs'.length = T) := ⟨by rw [bsI_len, List.length_cons, HI2.out.2.2.2.1], HI2.out.2.2.2.1⟩
          have HOL : Hid (o.length = n) := HI2.out.2.1.len.trans HN.out
          clear hst hfn hou HI2
          have q3 : (T : Int) < (T : Int) + 1 := by omega
          have q4 : (0 : Int) ≤ T := by omega
          have t2 : (wr.alloc (.cells #[.int .u8 4, .string bE, .int .i64 0, .int .i64 0, .bool false] 26)).cell? ⟨g2, T, none⟩ = some (.int .i64 (-1)) := (HW.out _ (Below.refl _ _)).1.rws.cell (k := 2) rfl HLN.out.1 (by have := bsI_top none bs'; rw [HLN.out.2] at this; exact this)
          have f2 : (wr.alloc (.cells #[.int .u8 4, .string bE, .int .i64 0, .int .i64 0, .bool false] 26)).frozen? ⟨g2, T, none⟩ = false := (HW.out _ (Below.refl _ _)).1.rws.frozen (k := 2) rfl HLN.out.1 T
          have hxs : WD w.heap.size ((wr.alloc (.cells #[.int .u8 4, .string bE, .int .i64 0, .int .i64 0, .bool false] 26)).setCell ⟨g2, T, none⟩ (.int .i64 (-1))) [(.slice (some ⟨w.heap.size, 0, none⟩) n n, o), (.slice p1 G c1, gsI gs), (.slice (some ⟨g2, 0, none⟩) (T + 1) c2, bsI (none :: bs')), (.slice (some ⟨g3, 0, none⟩) (k + 1) c3, smsI l k), (.slice (some ⟨g4, 0, none⟩) (k + 1) c4, fcsI l k)] wr.heap.size ⟨4, bE, 0, 0, false⟩ ∧ Below w.heap.size w ((wr.alloc (.cells #[.int .u8 4, .string bE, .int .i64 0, .int .i64 0, .bool false] 26)).setCell ⟨g2, T, none⟩ (.int .i64 (-1))) := by
            have h1 := (HW.out _ (Below.refl _ _)).1.store HLN.out.1 (k := 2) rfl T (-1)
            have h2 := bsI_set none none bs'
            rw [HLN.out.2] at h2
            refine ⟨by rw [← h2]; exact h1, (HW.out _ (Below.refl _ _)).2.setCell ((HW.out _ (Below.refl _ _)).1.rws.base (k := 2) rfl) _⟩
          have hxb := hxs.1.blk
          have x0 := blk_cell (k := 0) hxb rfl
          have x1 := blk_cell (k := 1) hxb rfl
          have x2 := blk_cell (k := 2) hxb rfl
          have x3 := blk_cell (k := 3) hxb rfl
          have x4 := blk_cell (k := 4) hxb rfl
          have HX : Hid (∀ V, Below ((wr.alloc (.cells #[.int .u8 4, .string bE, .int .i64 0, .int .i64 0, .bool false] 26)).setCell ⟨g2, T, none⟩ (.int .i64 (-1))).heap.size ((wr.alloc (.cells #[.int .u8 4, .string bE, .int .i64 0, .int .i64 0, .bool false] 26)).setCell ⟨g2, T, none⟩ (.int .i64 (-1))) V → WD w.heap.size V [(.slice (some ⟨w.heap.size, 0, none⟩) n n, o), (.slice p1 G c1, gsI gs), (.slice (some ⟨g2, 0, none⟩) (T + 1) c2, bsI (none :: bs')), (.slice (some ⟨g3, 0, none⟩) (k + 1) c3, smsI l k), (.slice (some ⟨g4, 0, none⟩) (k + 1) c4, fcsI l k)] wr.heap.size ⟨4, bE, 0, 0, false⟩ ∧ Below w.heap.size w V) := fun V hV => ⟨hxs.1.below hV, hxs.2.trans (hV.mono hxs.2.size)⟩
          clear hxs hxb
          go_wp2_with (first | (go_at_call 49; refine (KW.out _).mono ?_; rintro e w2 ⟨rfl, hb2⟩; have HT2 : Hid (∀ V, Below w2.heap.size w2 V → WD w.heap.size V [(.slice (some ⟨w.heap.size, 0, none⟩) n n, o), (.slice p1 G c1, gsI gs), (.slice (some ⟨g2, 0, none⟩) (T + 1) c2, bsI (none :: bs')), (.slice (some ⟨g3, 0, none⟩) (k + 1) c3, smsI l k), (.slice (some ⟨g4, 0, none⟩) (k + 1) c4, fcsI l k)] wr.heap.size ⟨4, bE, 0, 0, false⟩ ∧ Below w.heap.size w V) := (fun V hV => HX.out V (hb2.trans (hV.mono hb2.size))); clear hb2; have x3 := (HT2.out w2 (Below.refl _ _)).1.rws.cell (k := 3) rfl (by rw [smsI_len]) (smsI_at l (Nat.le_refl k)); rw [HSF.out.1] at x3; have x4 := (HT2.out w2 (Below.refl _ _)).1.rws.cell (k := 4) rfl (by rw [fcsI_len]) (fcsI_at l (Nat.le_refl k)); rw [HSF.out.2.1] at x4) | (at_builtin; refine app_wd2 rfl _ _ rfl w.heap.size _ 4 _ (fcsI l k) ((fc : Int) + 1) wr.heap.size ⟨4, bE, 0, 0, false⟩ (k + 1) (by rw [fcsI_len]) rfl (HT3.out _ ((Below.refl _ _).alloc (Nat.le_refl _) _)).1 rfl _ 1 rfl (new_at _ _) (by omega) (HT3.out _ ((Below.refl _ _).alloc (Nat.le_refl _) _)).2.size ?_; intro q4 cq4 w4 hq41 hq42 hr4 hb4; have HT4 : Hid (WD w.heap.size w4 [(.slice (some ⟨w.heap.size, 0, none⟩) n n, o), (.slice p1 G c1, gsI gs), (.slice (some ⟨g2, 0, none⟩) (T + 1) c2, bsI (none :: bs')), (.slice (some ⟨q3, 0, none⟩) (k + 1 + 1) cq3, smsI l k ++ [(sf : Int)]), (.slice (some ⟨q4, 0, none⟩) (k + 1 + 1) cq4, fcsI l k ++ [((fc : Int) + 1)])] wr.heap.size ⟨4, bE, 0, 0, false⟩ ∧ Below w.heap.size w w4) := ⟨hr4, (HT3.out _ ((Below.refl _ _).alloc (Nat.le_refl _) _)).2.trans hb4⟩; clear hr4 hb4) | (at_builtin; refine app_wd2 rfl _ _ rfl w.heap.size _ 3 _ (smsI l k) (sf : Int) wr.heap.size ⟨4, bE, 0, 0, false⟩ (k + 1) (by rw [smsI_len]) rfl (HT2.out _ ((Below.refl _ _).alloc (Nat.le_refl _) _)).1 rfl _ 1 rfl (new_at _ _) (by omega) (HT2.out _ ((Below.refl _ _).alloc (Nat.le_refl _) _)).2.size ?_; intro q3 cq3 w3 hq31 hq32 hr3 hb3; have hbw3 := (HT2.out _ ((Below.refl _ _).alloc (Nat.le_refl _) _)).2.trans hb3; have HT3 : Hid (∀ V, Below w3.heap.size w3 V → WD w.heap.size V [(.slice (some ⟨w.heap.size, 0, none⟩) n n, o), (.slice p1 G c1, gsI gs), (.slice (some ⟨g2, 0, none⟩) (T + 1) c2, bsI (none :: bs')), (.slice (some ⟨q3, 0, none⟩) (k + 1 + 1) cq3, smsI l k ++ [(sf : Int)]), (.slice (some ⟨g4, 0, none⟩) (k + 1) c4, fcsI l k)] wr.heap.size ⟨4, bE, 0, 0, false⟩ ∧ Below w.heap.size w V) := (fun V hV => ⟨hr3.below hV, hbw3.trans (hV.mono hbw3.size)⟩); have y4 := (HT3.out w3 (Below.refl _ _)).1.rws.cell (k := 4) rfl (by rw [fcsI_len]) (fcsI_at l (Nat.le_refl k)); rw [HSF.out.2.1] at y4; clear hr3 hb3 hbw3))
          exact ⟨⟨k + 1, gs, (none :: bs'), o, hlt, by go_num, by rw [smsI_succ, fcsI_succ, HU.out.1, HU.out.2]; exact HT4.out.1.rws, HT4.out.2, HFW.out.1, HFW.out.2⟩, by simp [intOf]; omega⟩
        | some p =>
          have hF : isF ⟨4, bE, 0, 0, false⟩ = true := by simp [isF]
          have hdz : dwd ⟨4, bE, 0, 0, false⟩ = 1099511627776 := by unfold dwd; rw [hF]; rfl
          have hfz : fwd ⟨4, bE, 0, 0, false⟩ = 0 := by unfold fwd; rw [hF]; rfl
          rw [hdz] at KW
          have HU : Hid (((Sf l (k + 1) : Nat) : Int) = (sf : Int) ∧ ((Fc l (k + 1) : Nat) : Int) = (fc : Int) + 1) := by
            show _ ∧ _
            rw [HSF.out.2.2.1, HSF.out.2.2.2, hF, hfz]
            exact ⟨by omega, by simp⟩
          clear hdz hfz hdw hF hfb
          obtain ⟨hst, hfn⟩ := HI2.out.1.hard HI2.out.2.2.1 (by simp)
          have hou := HI2.out.2.1.top HL.out.2.1 (by rw [HN.out]; exact hk) hst
          have HFW : Hid (FwI l (k + 1) gs (none :: bs') ∧ OutP l (k + 1) gs (none :: bs') (o.set p ((btw l p k : Nat) : Int))) := ⟨hfn, (hou.mono (fun q hq => hq.elim .inl (fun h => .inr (List.mem_cons_of_mem _ h)))).succ HI2.out.2.2.1 (by simp)⟩
          have HLN : Hid (T + 1 = (bsI ((some p) :: bs')).length ∧ bs'.length = T) := ⟨by rw [bsI_len, List.length_cons, HI2.out.2.2.2.1], HI2.out.2.2.2.1⟩
          have HOL : Hid (o.length = n) := HI2.out.2.1.len.trans HN.out
          have HSP : Hid (Set1 l k p) := hst p rfl
          have hpk : p < k := HSP.out.1
          clear hst hfn hou HI2
          have q3 : (T : Int) < (T : Int) + 1 := by omega
          have q4 : (0 : Int) ≤ T := by omega
          have q5 : (0 : Int) ≤ p := by omega
          have q6 : (p : Int) < n := by omega
          have hge : ((0 : Int) ≤ (p : Int)) := by omega
          have t2 : (wr.alloc (.cells #[.int .u8 4, .string bE, .int .i64 0, .int .i64 0, .bool false] 26)).cell? ⟨g2, T, none⟩ = some (.int .i64 p) := (HW.out _ (Below.refl _ _)).1.rws.cell (k := 2) rfl HLN.out.1 (by have := bsI_top (some p) bs'; rw [HLN.out.2] at this; exact this)
          go_wp2_with fail
          obtain ⟨W1, hW1⟩ : ∃ W1, (wr.alloc (.cells #[.int .u8 4, .string bE, .int .i64 0, .int .i64 0, .bool false] 26)) = W1 := ⟨_, rfl⟩
          have hs1 : W1.heap.size = wr.heap.size + 1 := by rw [← hW1]; exact World.size_alloc _ _
          rw [hW1] at HW t2 ⊢
          have HW1 : Hid (∀ V, Below W1.heap.size W1 V → WD w.heap.size V [(.slice (some ⟨w.heap.size, 0, none⟩) n n, o), (.slice p1 G c1, gsI gs), (.slice (some ⟨g2, 0, none⟩) (T + 1) c2, bsI (some p :: bs')), (.slice (some ⟨g3, 0, none⟩) (k + 1) c3, smsI l k), (.slice (some ⟨g4, 0, none⟩) (k + 1) c4, fcsI l k)] wr.heap.size ⟨4, bE, 0, 0, false⟩ ∧ Below w.heap.size w V) := fun V hV => HW.out V (by rw [← hs1]; exact hV)
          clear hW1 hs1 HW
          obtain ⟨old, hold⟩ : ∃ x, o[p]? = some x := ⟨_, List.getElem?_eq_getElem (by rw [HOL.out]; omega)⟩
          have HO : Hid (o[p]? = some old) := hold
          clear hold
          obtain ⟨R, hR⟩ : ∃ R, btw l p k = R := ⟨_, rfl⟩
          have HRR : Hid (btw l p k = R) := hR
          have KB : Hid (∀ V, Below W1.heap.size W1 V → Calls Tryd.prog 48 #[.slice (some ⟨g3, 0, none⟩) (k + 1) c3, .slice (some ⟨g4, 0, none⟩) (k + 1) c4, .int .i64 p, .int .i64 k] V fun e w2 => e = .returned (.int .i64 (R : Nat)) ∧ Hid (Below W1.heap.size W1 w2) ∧ w2.cell? ⟨g2, T, none⟩ = some (.int .i64 p) ∧ w2.cell? ⟨w.heap.size, p, none⟩ = some (.int .i64 old) ∧ w2.frozen? ⟨w.heap.size, p, none⟩ = false ∧ (w2.setCell ⟨w.heap.size, p, none⟩ (.int .i64 (R : Nat))).cell? ⟨g2, T, none⟩ = some (.int .i64 p)) := fun V hV => by
            have h1 := (HW1.out V hV).1.rws
            rw [← hR]
            refine (between_any l p k (by omega) g3 g4 (k + 1) (k + 1) c3 c4 V ⟨hc3, hc3', by omega⟩ ⟨hc4, hc4', by omega⟩ (h1.cell (k := 3) rfl (by rw [smsI_len]) (smsI_at l (by omega))) (h1.cell (k := 3) rfl (by rw [smsI_len]) (smsI_at l (Nat.le_refl k))) (h1.cell (k := 4) rfl (by rw [fcsI_len]) (fcsI_at l (by omega))) (h1.cell (k := 4) rfl (by rw [fcsI_len]) (fcsI_at l (Nat.le_refl k))) (HL.out.2.1 k)).mono ?_
            rintro e w2 ⟨rfl, hb⟩
            have hb' : Below W1.heap.size W1 w2 := hV.trans (hb.mono hV.size)
            have h2 := (HW1.out w2 hb').1.rws
            exact ⟨rfl, hb', h2.cell (k := 2) rfl HLN.out.1 (by have := bsI_top (some p) bs'; rw [HLN.out.2] at this; exact this), h2.cell (k := 0) rfl HOL.out.symm HO.out, h2.frozen (k := 0) rfl HOL.out.symm p, (h2.store HOL.out.symm (k := 0) rfl p _).cell (k := 2) rfl HLN.out.1 (by have := bsI_top (some p) bs'; rw [HLN.out.2] at this; exact this)⟩
          clear hR
          go_region_held3 (fun w' => w'.cell? ⟨g2, T, none⟩ = some (.int .i64 p)) (first | assumption | (exact t2) | go_keep) (first | (go_at_call 48; refine (KB.out _ (by first | exact (Below.refl _ _).drew | exact Below.refl _ _ | exact (Below.refl _ _).drew.drew | exact (Below.refl _ _).drew.drew.drew)).mono ?_; rintro e w2 ⟨rfl, HB2, y1, y2, y3, y5⟩))
          obtain ⟨Z, hZ⟩ : ∃ Z, w2.setCell ⟨w.heap.size, p, none⟩ (.int .i64 (R : Nat)) = Z := ⟨_, rfl⟩
          have hwz : WD w.heap.size Z [(.slice (some ⟨w.heap.size, 0, none⟩) n n, (o.set p ((R : Nat) : Int))), (.slice p1 G c1, gsI gs), (.slice (some ⟨g2, 0, none⟩) (T + 1) c2, bsI (some p :: bs')), (.slice (some ⟨g3, 0, none⟩) (k + 1) c3, smsI l k), (.slice (some ⟨g4, 0, none⟩) (k + 1) c4, fcsI l k)] wr.heap.size ⟨4, bE, 0, 0, false⟩ ∧ Below w.heap.size w Z := by
            rw [← hZ]
            exact ⟨(HW1.out w2 HB2.out).1.store HOL.out.symm (k := 0) rfl p _, (HW1.out w2 HB2.out).2.setCell (Nat.le_refl _) _⟩
          rw [hZ]
          have HZ : Hid (∀ V, Below Z.heap.size Z V → WD w.heap.size V [(.slice (some ⟨w.heap.size, 0, none⟩) n n, (o.set p ((R : Nat) : Int))), (.slice p1 G c1, gsI gs), (.slice (some ⟨g2, 0, none⟩) (T + 1) c2, bsI (some p :: bs')), (.slice (some ⟨g3, 0, none⟩) (k + 1) c3, smsI l k), (.slice (some ⟨g4, 0, none⟩) (k + 1) c4, fcsI l k)] wr.heap.size ⟨4, bE, 0, 0, false⟩ ∧ Below w.heap.size w V) := fun V hV => ⟨hwz.1.below hV, hwz.2.trans (hV.mono hwz.2.size)⟩
          rw [HRR.out] at HFW
          clear hZ hwz t2 y1 y2 y3 y5 KB
          have t2 : Z.cell? ⟨g2, T, none⟩ = some (.int .i64 p) := (HZ.out _ (Below.refl _ _)).1.rws.cell (k := 2) rfl HLN.out.1 (by have := bsI_top (some p) bs'; rw [HLN.out.2] at this; exact this)
          have f2 : Z.frozen? ⟨g2, T, none⟩ = false := (HZ.out _ (Below.refl _ _)).1.rws.frozen (k := 2) rfl HLN.out.1 T
          have hzb := (HZ.out _ (Below.refl _ _)).1.blk
          have zz0 := blk_cell (k := 0) hzb rfl
          have zz1 := blk_cell (k := 1) hzb rfl
          have zz2 := blk_cell (k := 2) hzb rfl
          have zz3 := blk_cell (k := 3) hzb rfl
          have zz4 := blk_cell (k := 4) hzb rfl
          clear hzb
          have hxs : WD w.heap.size (Z.setCell ⟨g2, T, none⟩ (.int .i64 (-1))) [(.slice (some ⟨w.heap.size, 0, none⟩) n n, (o.set p ((R : Nat) : Int))), (.slice p1 G c1, gsI gs), (.slice (some ⟨g2, 0, none⟩) (T + 1) c2, bsI (none :: bs')), (.slice (some ⟨g3, 0, none⟩) (k + 1) c3, smsI l k), (.slice (some ⟨g4, 0, none⟩) (k + 1) c4, fcsI l k)] wr.heap.size ⟨4, bE, 0, 0, false⟩ ∧ Below w.heap.size w (Z.setCell ⟨g2, T, none⟩ (.int .i64 (-1))) := by
            have h1 := (HZ.out _ (Below.refl _ _)).1.store HLN.out.1 (k := 2) rfl T (-1)
            have h2 := bsI_set (some p) none bs'
            rw [HLN.out.2] at h2
            refine ⟨by rw [← h2]; exact h1, (HZ.out _ (Below.refl _ _)).2.setCell ((HZ.out _ (Below.refl _ _)).1.rws.base (k := 2) rfl) _⟩
          have hxb := hxs.1.blk
          have x0 := blk_cell (k := 0) hxb rfl
          have x1 := blk_cell (k := 1) hxb rfl
          have x2 := blk_cell (k := 2) hxb rfl
          have x3 := blk_cell (k := 3) hxb rfl
          have x4 := blk_cell (k := 4) hxb rfl
          have HX : Hid (∀ V, Below (Z.setCell ⟨g2, T, none⟩ (.int .i64 (-1))).heap.size (Z.setCell ⟨g2, T, none⟩ (.int .i64 (-1))) V → WD w.heap.size V [(.slice (some ⟨w.heap.size, 0, none⟩) n n, (o.set p ((R : Nat) : Int))), (.slice p1 G c1, gsI gs), (.slice (some ⟨g2, 0, none⟩) (T + 1) c2, bsI (none :: bs')), (.slice (some ⟨g3, 0, none⟩) (k + 1) c3, smsI l k), (.slice (some ⟨g4, 0, none⟩) (k + 1) c4, fcsI l k)] wr.heap.size ⟨4, bE, 0, 0, false⟩ ∧ Below w.heap.size w V) := fun V hV => ⟨hxs.1.below hV, hxs.2.trans (hV.mono hxs.2.size)⟩
          clear hxs hxb
          go_wp2_with (first | (go_at_call 49; refine (KW.out _).mono ?_; rintro e w2 ⟨rfl, hb2⟩; have HT2 : Hid (∀ V, Below w2.heap.size w2 V → WD w.heap.size V [(.slice (some ⟨w.heap.size, 0, none⟩) n n, (o.set p ((R : Nat) : Int))), (.slice p1 G c1, gsI gs), (.slice (some ⟨g2, 0, none⟩) (T + 1) c2, bsI (none :: bs')), (.slice (some ⟨g3, 0, none⟩) (k + 1) c3, smsI l k), (.slice (some ⟨g4, 0, none⟩) (k + 1) c4, fcsI l k)] wr.heap.size ⟨4, bE, 0, 0, false⟩ ∧ Below w.heap.size w V) := (fun V hV => HX.out V (hb2.trans (hV.mono hb2.size))); clear hb2; have x3 := (HT2.out w2 (Below.refl _ _)).1.rws.cell (k := 3) rfl (by rw [smsI_len]) (smsI_at l (Nat.le_refl k)); rw [HSF.out.1] at x3; have x4 := (HT2.out w2 (Below.refl _ _)).1.rws.cell (k := 4) rfl (by rw [fcsI_len]) (fcsI_at l (Nat.le_refl k)); rw [HSF.out.2.1] at x4) | (at_builtin; refine app_wd2 rfl _ _ rfl w.heap.size _ 4 _ (fcsI l k) ((fc : Int) + 1) wr.heap.size ⟨4, bE, 0, 0, false⟩ (k + 1) (by rw [fcsI_len]) rfl (HT3.out _ ((Below.refl _ _).alloc (Nat.le_refl _) _)).1 rfl _ 1 rfl (new_at _ _) (by omega) (HT3.out _ ((Below.refl _ _).alloc (Nat.le_refl _) _)).2.size ?_; intro q4 cq4 w4 hq41 hq42 hr4 hb4; have HT4 : Hid (WD w.heap.size w4 [(.slice (some ⟨w.heap.size, 0, none⟩) n n, (o.set p ((R : Nat) : Int))), (.slice p1 G c1, gsI gs), (.slice (some ⟨g2, 0, none⟩) (T + 1) c2, bsI (none :: bs')), (.slice (some ⟨q3, 0, none⟩) (k + 1 + 1) cq3, smsI l k ++ [(sf : Int)]), (.slice (some ⟨q4, 0, none⟩) (k + 1 + 1) cq4, fcsI l k ++ [((fc : Int) + 1)])] wr.heap.size ⟨4, bE, 0, 0, false⟩ ∧ Below w.heap.size w w4) := ⟨hr4, (HT3.out _ ((Below.refl _ _).alloc (Nat.le_refl _) _)).2.trans hb4⟩; clear hr4 hb4) | (at_builtin; refine app_wd2 rfl _ _ rfl w.heap.size _ 3 _ (smsI l k) (sf : Int) wr.heap.size ⟨4, bE, 0, 0, false⟩ (k + 1) (by rw [smsI_len]) rfl (HT2.out _ ((Below.refl _ _).alloc (Nat.le_refl _) _)).1 rfl _ 1 rfl (new_at _ _) (by omega) (HT2.out _ ((Below.refl _ _).alloc (Nat.le_refl _) _)).2.size ?_; intro q3 cq3 w3 hq31 hq32 hr3 hb3; have hbw3 := (HT2.out _ ((Below.refl _ _).alloc (Nat.le_refl _) _)).2.trans hb3; have HT3 : Hid (∀ V, Below w3.heap.size w3 V → WD w.heap.size V [(.slice (some ⟨w.heap.size, 0, none⟩) n n, (o.set p ((R : Nat) : Int))), (.slice p1 G c1, gsI gs), (.slice (some ⟨g2, 0, none⟩) (T + 1) c2, bsI (none :: bs')), (.slice (some ⟨q3, 0, none⟩) (k + 1 + 1) cq3, smsI l k ++ [(sf : Int)]), (.slice (some ⟨g4, 0, none⟩) (k + 1) c4, fcsI l k)] wr.heap.size ⟨4, bE, 0, 0, false⟩ ∧ Below w.heap.size w V) := (fun V hV => ⟨hr3.below hV, hbw3.trans (hV.mono hbw3.size)⟩); have y4 := (HT3.out w3 (Below.refl _ _)).1.rws.cell (k := 4) rfl (by rw [fcsI_len]) (fcsI_at l (Nat.le_refl k)); rw [HSF.out.2.1] at y4; clear hr3 hb3 hbw3))
          exact ⟨⟨k + 1, gs, (none :: bs'), (o.set p ((R : Nat) : Int)), hlt, by go_num, by rw [smsI_succ, fcsI_succ, HU.out.1, HU.out.2]; exact HT4.out.1.rws, HT4.out.2, HFW.out.1, HFW.out.2⟩, by simp [intOf]; omega⟩
      | empty =>
        simp only at e0 e1 e2 e3 e4 HW KW HSF HI2 hds hfb hdw
        cases b with
        | none =>
          have hF : isF ⟨5, bE, 0, 0, false⟩ = true := by simp [isF]
          have hdz : dwd ⟨5, bE, 0, 0, false⟩ = 1099511627776 := by unfold dwd; rw [hF]; rfl
          have hfz : fwd ⟨5, bE, 0, 0, false⟩ = 0 := by unfold fwd; rw [hF]; rfl
          rw [hdz] at KW
          have HU : Hid (((Sf l (k + 1) : Nat) : Int) = (sf : Int) ∧ ((Fc l (k + 1) : Nat) : Int) = (fc : Int) + 1) := by
            show _ ∧ _
            rw [HSF.out.2.2.1, HSF.out.2.2.2, hF, hfz]
            exact ⟨by omega, by simp⟩
          clear hdz hfz hdw hF hfb
          obtain ⟨hst, hfn⟩ := HI2.out.1.hard HI2.out.2.2.1 (by simp)
          have hou := HI2.out.2.1.top HL.out.2.1 (by rw [HN.out]; exact hk) hst
          have HFW : Hid (FwI l (k + 1) gs (none :: bs') ∧ OutP l (k + 1) gs (none :: bs') o) := ⟨hfn, (hou.mono (fun q hq => hq.elim .inl (fun h => .inr (List.mem_cons_of_mem _ h)))).succ HI2.out.2.2.1 (by simp)⟩
          have HLN : Hid (T + 1 = (bsI (none :: bs')).length ∧ bs'.length = T) := ⟨by rw [bsI_len, List.length_cons, HI2.out.2.2.2.1], HI2.out.2.2.2.1⟩
          have HOL : Hid (o.length = n) := HI2.out.2.1.len.trans HN.out
          clear hst hfn hou HI2
          have q3 : (T : Int) < (T : Int) + 1 := by omega
          have q4 : (0 : Int) ≤ T := by omega
          have t2 : (wr.alloc (.cells #[.int .u8 5, .string bE, .int .i64 0, .int .i64 0, .bool false] 26)).cell? ⟨g2, T, none⟩ = some (.int .i64 (-1)) := (HW.out _ (Below.refl _ _)).1.rws.cell (k := 2) rfl HLN.out.1 (by have := bsI_top none bs'; rw [HLN.out.2] at this; exact this)
          have f2 : (wr.alloc (.cells #[.int .u8 5, .string bE, .int .i64 0, .int .i64 0, .bool false] 26)).frozen? ⟨g2, T, none⟩ = false := (HW.out _ (Below.refl _ _)).1.rws.frozen (k := 2) rfl HLN.out.1 T
          have hxs : WD w.heap.size ((wr.alloc (.cells #[.int .u8 5, .string bE, .int .i64 0, .int .i64 0, .bool false] 26)).setCell ⟨g2, T, none⟩ (.int .i64 (-1))) [(.slice (some ⟨w.heap.size, 0, none⟩) n n, o), (.slice p1 G c1, gsI gs), (.slice (some ⟨g2, 0, none⟩) (T + 1) c2, bsI (none :: bs')), (.slice (some ⟨g3, 0, none⟩) (k + 1) c3, smsI l k), (.slice (some ⟨g4, 0, none⟩) (k + 1) c4, fcsI l k)] wr.heap.size ⟨5, bE, 0, 0, false⟩ ∧ Below w.heap.size w ((wr.alloc (.cells #[.int .u8 5, .string bE, .int .i64 0, .int .i64 0, .bool false] 26)).setCell ⟨g2, T, none⟩ (.int .i64 (-1))) := by
            have h1 := (HW.out _ (Below.refl _ _)).1.store HLN.out.1 (k := 2) rfl T (-1)
            have h2 := bsI_set none none bs'
            rw [HLN.out.2] at h2
            refine ⟨by rw [← h2]; exact h1, (HW.out _ (Below.refl _ _)).2.setCell ((HW.out _ (Below.refl _ _)).1.rws.base (k := 2) rfl) _⟩
          have hxb := hxs.1.blk
          have x0 := blk_cell (k := 0) hxb rfl
          have x1 := blk_cell (k := 1) hxb rfl
          have x2 := blk_cell (k := 2) hxb rfl
          have x3 := blk_cell (k := 3) hxb rfl
          have x4 := blk_cell (k := 4) hxb rfl
          have HX : Hid (∀ V, Below ((wr.alloc (.cells #[.int .u8 5, .string bE, .int .i64 0, .int .i64 0, .bool false] 26)).setCell ⟨g2, T, none⟩ (.int .i64 (-1))).heap.size ((wr.alloc (.cells #[.int .u8 5, .string bE, .int .i64 0, .int .i64 0, .bool false] 26)).setCell ⟨g2, T, none⟩ (.int .i64 (-1))) V → WD w.heap.size V [(.slice (some ⟨w.heap.size, 0, none⟩) n n, o), (.slice p1 G c1, gsI gs), (.slice (some ⟨g2, 0, none⟩) (T + 1) c2, bsI (none :: bs')), (.slice (some ⟨g3, 0, none⟩) (k + 1) c3, smsI l k), (.slice (some ⟨g4, 0, none⟩) (k + 1) c4, fcsI l k)] wr.heap.size ⟨5, bE, 0, 0, false⟩ ∧ Below w.heap.size w V) := fun V hV => ⟨hxs.1.below hV, hxs.2.trans (hV.mono hxs.2.size)⟩
          clear hxs hxb
          go_wp2_with (first | (go_at_call 49; refine (KW.out _).mono ?_; rintro e w2 ⟨rfl, hb2⟩; have HT2 : Hid (∀ V, Below w2.heap.size w2 V → WD w.heap.size V [(.slice (some ⟨w.heap.size, 0, none⟩) n n, o), (.slice p1 G c1, gsI gs), (.slice (some ⟨g2, 0, none⟩) (T + 1) c2, bsI (none :: bs')), (.slice (some ⟨g3, 0, none⟩) (k + 1) c3, smsI l k), (.slice (some ⟨g4, 0, none⟩) (k + 1) c4, fcsI l k)] wr.heap.size ⟨5, bE, 0, 0, false⟩ ∧ Below w.heap.size w V) := (fun V hV => HX.out V (hb2.trans (hV.mono hb2.size))); clear hb2; have x3 := (HT2.out w2 (Below.refl _ _)).1.rws.cell (k := 3) rfl (by rw [smsI_len]) (smsI_at l (Nat.le_refl k)); rw [HSF.out.1] at x3; have x4 := (HT2.out w2 (Below.refl _ _)).1.rws.cell (k := 4) rfl (by rw [fcsI_len]) (fcsI_at l (Nat.le_refl k)); rw [HSF.out.2.1] at x4) | (at_builtin; refine app_wd2 rfl _ _ rfl w.heap.size _ 4 _ (fcsI l k) ((fc : Int) + 1) wr.heap.size ⟨5, bE, 0, 0, false⟩ (k + 1) (by rw [fcsI_len]) rfl (HT3.out _ ((Below.refl _ _).alloc (Nat.le_refl _) _)).1 rfl _ 1 rfl (new_at _ _) (by omega) (HT3.out _ ((Below.refl _ _).alloc (Nat.le_refl _) _)).2.size ?_; intro q4 cq4 w4 hq41 hq42 hr4 hb4; have HT4 : Hid (WD w.heap.size w4 [(.slice (some ⟨w.heap.size, 0, none⟩) n n, o), (.slice p1 G c1, gsI gs), (.slice (some ⟨g2, 0, none⟩) (T + 1) c2, bsI (none :: bs')), (.slice (some ⟨q3, 0, none⟩) (k + 1 + 1) cq3, smsI l k ++ [(sf : Int)]), (.slice (some ⟨q4, 0, none⟩) (k + 1 + 1) cq4, fcsI l k ++ [((fc : Int) + 1)])] wr.heap.size ⟨5, bE, 0, 0, false⟩ ∧ Below w.heap.size w w4) := ⟨hr4, (HT3.out _ ((Below.refl _ _).alloc (Nat.le_refl _) _)).2.trans hb4⟩; clear hr4 hb4) | (at_builtin; refine app_wd2 rfl _ _ rfl w.heap.size _ 3 _ (smsI l k) (sf : Int) wr.heap.size ⟨5, bE, 0, 0, false⟩ (k + 1) (by rw [smsI_len]) rfl (HT2.out _ ((Below.refl _ _).alloc (Nat.le_refl _) _)).1 rfl _ 1 rfl (new_at _ _) (by omega) (HT2.out _ ((Below.refl _ _).alloc (Nat.le_refl _) _)).2.size ?_; intro q3 cq3 w3 hq31 hq32 hr3 hb3; have hbw3 := (HT2.out _ ((Below.refl _ _).alloc (Nat.le_refl _) _)).2.trans hb3; have HT3 : Hid (∀ V, Below w3.heap.size w3 V → WD w.heap.size V [(.slice (some ⟨w.heap.size, 0, none⟩) n n, o), (.slice p1 G c1, gsI gs), (.slice (some ⟨g2, 0, none⟩) (T + 1) c2, bsI (none :: bs')), (.slice (some ⟨q3, 0, none⟩) (k + 1 + 1) cq3, smsI l k ++ [(sf : Int)]), (.slice (some ⟨g4, 0, none⟩) (k + 1) c4, fcsI l k)] wr.heap.size ⟨5, bE, 0, 0, false⟩ ∧ Below w.heap.size w V) := (fun V hV => ⟨hr3.below hV, hbw3.trans (hV.mono hbw3.size)⟩); have y4 := (HT3.out w3 (Below.refl _ _)).1.rws.cell (k := 4) rfl (by rw [fcsI_len]) (fcsI_at l (Nat.le_refl k)); rw [HSF.out.2.1] at y4; clear hr3 hb3 hbw3))
          exact ⟨⟨k + 1, gs, (none :: bs'), o, hlt, by go_num, by rw [smsI_succ, fcsI_succ, HU.out.1, HU.out.2]; exact HT4.out.1.rws, HT4.out.2, HFW.out.1, HFW.out.2⟩, by simp [intOf]; omega⟩
        | some p =>
          have hF : isF ⟨5, bE, 0, 0, false⟩ = true := by simp [isF]
          have hdz : dwd ⟨5, bE, 0, 0, false⟩ = 1099511627776 := by unfold dwd; rw [hF]; rfl
          have hfz : fwd ⟨5, bE, 0, 0, false⟩ = 0 := by unfold fwd; rw [hF]; rfl
          rw [hdz] at KW
          have HU : Hid (((Sf l (k + 1) : Nat) : Int) = (sf : Int) ∧ ((Fc l (k + 1) : Nat) : Int) = (fc : Int) + 1) := by
            show _ ∧ _
            rw [HSF.out.2.2.1, HSF.out.2.2.2, hF, hfz]
            exact ⟨by omega, by simp⟩
          clear hdz hfz hdw hF hfb
          obtain ⟨hst, hfn⟩ := HI2.out.1.hard HI2.out.2.2.1 (by simp)
          have hou := HI2.out.2.1.top HL.out.2.1 (by rw [HN.out]; exact hk) hst
          have HFW : Hid (FwI l (k + 1) gs (none :: bs') ∧ OutP l (k + 1) gs (none :: bs') (o.set p ((btw l p k : Nat) : Int))) := ⟨hfn, (hou.mono (fun q hq => hq.elim .inl (fun h => .inr (List.mem_cons_of_mem _ h)))).succ HI2.out.2.2.1 (by simp)⟩
          have HLN : Hid (T + 1 = (bsI ((some p) :: bs')).length ∧ bs'.length = T) := ⟨by rw [bsI_len, List.length_cons, HI2.out.2.2.2.1], HI2.out.2.2.2.1⟩
          have HOL : Hid (o.length = n) := HI2.out.2.1.len.trans HN.out
          have HSP : Hid (Set1 l k p) := hst p rfl
          have hpk : p < k := HSP.out.1
          clear hst hfn hou HI2
          have q3 : (T : Int) < (T : Int) + 1 := by omega
          have q4 : (0 : Int) ≤ T := by omega
          have q5 : (0 : Int) ≤ p := by omega
          have q6 : (p : Int) < n := by omega
          have hge : ((0 : Int) ≤ (p : Int)) := by omega
          have t2 : (wr.alloc (.cells #[.int .u8 5, .string bE, .int .i64 0, .int .i64 0, .bool false] 26)).cell? ⟨g2, T, none⟩ = some (.int .i64 p) := (HW.out _ (Below.refl _ _)).1.rws.cell (k := 2) rfl HLN.out.1 (by have := bsI_top (some p) bs'; rw [HLN.out.2] at this; exact this)
          go_wp2_with fail
          obtain ⟨W1, hW1⟩ : ∃ W1, (wr.alloc (.cells #[.int .u8 5, .string bE, .int .i64 0, .int .i64 0, .bool false] 26)) = W1 := ⟨_, rfl⟩
          have hs1 : W1.heap.size = wr.heap.size + 1 := by rw [← hW1]; exact World.size_alloc _ _
          rw [hW1] at HW t2 ⊢
          have HW1 : Hid (∀ V, Below W1.heap.size W1 V → WD w.heap.size V [(.slice (some ⟨w.heap.size, 0, none⟩) n n, o), (.slice p1 G c1, gsI gs), (.slice (some ⟨g2, 0, none⟩) (T + 1) c2, bsI (some p :: bs')), (.slice (some ⟨g3, 0, none⟩) (k + 1) c3, smsI l k), (.slice (some ⟨g4, 0, none⟩) (k + 1) c4, fcsI l k)] wr.heap.size ⟨5, bE, 0, 0, false⟩ ∧ Below w.heap.size w V) := fun V hV => HW.out V (by rw [← hs1]; exact hV)
          clear hW1 hs1 HW
          obtain ⟨old, hold⟩ : ∃ x, o[p]? = some x := ⟨_, List.getElem?_eq_getElem (by rw [HOL.out]; omega)⟩
          have HO : Hid (o[p]? = some old) := hold
          clear hold
          obtain ⟨R, hR⟩ : ∃ R, btw l p k = R := ⟨_, rfl⟩
          have HRR : Hid (btw l p k = R) := hR
          have KB : Hid (∀ V, Below W1.heap.size W1 V → Calls Tryd.prog 48 #[.slice (some ⟨g3, 0, none⟩) (k + 1) c3, .slice (some ⟨g4, 0, none⟩) (k + 1) c4, .int .i64 p, .int .i64 k] V fun e w2 => e = .returned (.int .i64 (R : Nat)) ∧ Hid (Below W1.heap.size W1 w2) ∧ w2.cell? ⟨g2, T, none⟩ = some (.int .i64 p) ∧ w2.cell? ⟨w.heap.size, p, none⟩ = some (.int .i64 old) ∧ w2.frozen? ⟨w.heap.size, p, none⟩ = false ∧ (w2.setCell ⟨w.heap.size, p, none⟩ (.int .i64 (R : Nat))).cell? ⟨g2, T, none⟩ = some (.int .i64 p)) := fun V hV => by
            have h1 := (HW1.out V hV).1.rws
            rw [← hR]
            refine (between_any l p k (by omega) g3 g4 (k + 1) (k + 1) c3 c4 V ⟨hc3, hc3', by omega⟩ ⟨hc4, hc4', by omega⟩ (h1.cell (k := 3) rfl (by rw [smsI_len]) (smsI_at l (by omega))) (h1.cell (k := 3) rfl (by rw [smsI_len]) (smsI_at l (Nat.le_refl k))) (h1.cell (k := 4) rfl (by rw [fcsI_len]) (fcsI_at l (by omega))) (h1.cell (k := 4) rfl (by rw [fcsI_len]) (fcsI_at l (Nat.le_refl k))) (HL.out.2.1 k)).mono ?_
            rintro e w2 ⟨rfl, hb⟩
            have hb' : Below W1.heap.size W1 w2 := hV.trans (hb.mono hV.size)
            have h2 := (HW1.out w2 hb').1.rws
            exact ⟨rfl, hb', h2.cell (k := 2) rfl HLN.out.1 (by have := bsI_top (some p) bs'; rw [HLN.out.2] at this; exact this), h2.cell (k := 0) rfl HOL.out.symm HO.out, h2.frozen (k := 0) rfl HOL.out.symm p, (h2.store HOL.out.symm (k := 0) rfl p _).cell (k := 2) rfl HLN.out.1 (by have := bsI_top (some p) bs'; rw [HLN.out.2] at this; exact this)⟩
          clear hR
          go_region_held3 (fun w' => w'.cell? ⟨g2, T, none⟩ = some (.int .i64 p)) (first | assumption | (exact t2) | go_keep) (first | (go_at_call 48; refine (KB.out _ (by first | exact (Below.refl _ _).drew | exact Below.refl _ _ | exact (Below.refl _ _).drew.drew | exact (Below.refl _ _).drew.drew.drew)).mono ?_; rintro e w2 ⟨rfl, HB2, y1, y2, y3, y5⟩))
          obtain ⟨Z, hZ⟩ : ∃ Z, w2.setCell ⟨w.heap.size, p, none⟩ (.int .i64 (R : Nat)) = Z := ⟨_, rfl⟩
          have hwz : WD w.heap.size Z [(.slice (some ⟨w.heap.size, 0, none⟩) n n, (o.set p ((R : Nat) : Int))), (.slice p1 G c1, gsI gs), (.slice (some ⟨g2, 0, none⟩) (T + 1) c2, bsI (some p :: bs')), (.slice (some ⟨g3, 0, none⟩) (k + 1) c3, smsI l k), (.slice (some ⟨g4, 0, none⟩) (k + 1) c4, fcsI l k)] wr.heap.size ⟨5, bE, 0, 0, false⟩ ∧ Below w.heap.size w Z := by
            rw [← hZ]
            exact ⟨(HW1.out w2 HB2.out).1.store HOL.out.symm (k := 0) rfl p _, (HW1.out w2 HB2.out).2.setCell (Nat.le_refl _) _⟩
          rw [hZ]
          have HZ : Hid (∀ V, Below Z.heap.size Z V → WD w.heap.size V [(.slice (some ⟨w.heap.size, 0, none⟩) n n, (o.set p ((R : Nat) : Int))), (.slice p1 G c1, gsI gs), (.slice (some ⟨g2, 0, none⟩) (T + 1) c2, bsI (some p :: bs')), (.slice (some ⟨g3, 0, none⟩) (k + 1) c3, smsI l k), (.slice (some ⟨g4, 0, none⟩) (k + 1) c4, fcsI l k)] wr.heap.size ⟨5, bE, 0, 0, false⟩ ∧ Below w.heap.size w V) := fun V hV => ⟨hwz.1.below hV, hwz.2.trans (hV.mono hwz.2.size)⟩
          rw [HRR.out] at HFW
          clear hZ hwz t2 y1 y2 y3 y5 KB
          have t2 : Z.cell? ⟨g2, T, none⟩ = some (.int .i64 p) := (HZ.out _ (Below.refl _ _)).1.rws.cell (k := 2) rfl HLN.out.1 (by have := bsI_top (some p) bs'; rw [HLN.out.2] at this; exact this)
          have f2 : Z.frozen? ⟨g2, T, none⟩ = false := (HZ.out _ (Below.refl _ _)).1.rws.frozen (k := 2) rfl HLN.out.1 T
          have hzb := (HZ.out _ (Below.refl _ _)).1.blk
          have zz0 := blk_cell (k := 0) hzb rfl
          have zz1 := blk_cell (k := 1) hzb rfl
          have zz2 := blk_cell (k := 2) hzb rfl
          have zz3 := blk_cell (k := 3) hzb rfl
          have zz4 := blk_cell (k := 4) hzb rfl
          clear hzb
          have hxs : WD w.heap.size (Z.setCell ⟨g2, T, none⟩ (.int .i64 (-1))) [(.slice (some ⟨w.heap.size, 0, none⟩) n n, (o.set p ((R : Nat) : Int))), (.slice p1 G c1, gsI gs), (.slice (some ⟨g2, 0, none⟩) (T + 1) c2, bsI (none :: bs')), (.slice (some ⟨g3, 0, none⟩) (k + 1) c3, smsI l k), (.slice (some ⟨g4, 0, none⟩) (k + 1) c4, fcsI l k)] wr.heap.size ⟨5, bE, 0, 0, false⟩ ∧ Below w.heap.size w (Z.setCell ⟨g2, T, none⟩ (.int .i64 (-1))) := by
            have h1 := (HZ.out _ (Below.refl _ _)).1.store HLN.out.1 (k := 2) rfl T (-1)
            have h2 := bsI_set (some p) none bs'
            rw [HLN.out.2] at h2
            refine ⟨by rw [← h2]; exact h1, (HZ.out _ (Below.refl _ _)).2.setCell ((HZ.out _ (Below.refl _ _)).1.rws.base (k := 2) rfl) _⟩
          have hxb := hxs.1.blk
          have x0 := blk_cell (k := 0) hxb rfl
          have x1 := blk_cell (k := 1) hxb rfl
          have x2 := blk_cell (k := 2) hxb rfl
          have x3 := blk_cell (k := 3) hxb rfl
          have x4 := blk_cell (k := 4) hxb rfl
          have HX : Hid (∀ V, Below (Z.setCell ⟨g2, T, none⟩ (.int .i64 (-1))).heap.size (Z.setCell ⟨g2, T, none⟩ (.int .i64 (-1))) V → WD w.heap.size V [(.slice (some ⟨w.heap.size, 0, none⟩) n n, (o.set p ((R : Nat) : Int))), (.slice p1 G c1, gsI gs), (.slice (some ⟨g2, 0, none⟩) (T + 1) c2, bsI (none :: bs')), (.slice (some ⟨g3, 0, none⟩) (k + 1) c3, smsI l k), (.slice (some ⟨g4, 0, none⟩) (k + 1) c4, fcsI l k)] wr.heap.size ⟨5, bE, 0, 0, false⟩ ∧ Below w.heap.size w V) := fun V hV => ⟨hxs.1.below hV, hxs.2.trans (hV.mono hxs.2.size)⟩
          clear hxs hxb
          go_wp2_with (first | (go_at_call 49; refine (KW.out _).mono ?_; rintro e w2 ⟨rfl, hb2⟩; have HT2 : Hid (∀ V, Below w2.heap.size w2 V → WD w.heap.size V [(.slice (some ⟨w.heap.size, 0, none⟩) n n, (o.set p ((R : Nat) : Int))), (.slice p1 G c1, gsI gs), (.slice (some ⟨g2, 0, none⟩) (T + 1) c2, bsI (none :: bs')), (.slice (some ⟨g3, 0, none⟩) (k + 1) c3, smsI l k), (.slice (some ⟨g4, 0, none⟩) (k + 1) c4, fcsI l k)] wr.heap.size ⟨5, bE, 0, 0, false⟩ ∧ Below w.heap.size w V) := (fun V hV => HX.out V (hb2.trans (hV.mono hb2.size))); clear hb2; have x3 := (HT2.out w2 (Below.refl _ _)).1.rws.cell (k := 3) rfl (by rw [smsI_len]) (smsI_at l (Nat.le_refl k)); rw [HSF.out.1] at x3; have x4 := (HT2.out w2 (Below.refl _ _)).1.rws.cell (k := 4) rfl (by rw [fcsI_len]) (fcsI_at l (Nat.le_refl k)); rw [HSF.out.2.1] at x4) | (at_builtin; refine app_wd2 rfl _ _ rfl w.heap.size _ 4 _ (fcsI l k) ((fc : Int) + 1) wr.heap.size ⟨5, bE, 0, 0, false⟩ (k + 1) (by rw [fcsI_len]) rfl (HT3.out _ ((Below.refl _ _).alloc (Nat.le_refl _) _)).1 rfl _ 1 rfl (new_at _ _) (by omega) (HT3.out _ ((Below.refl _ _).alloc (Nat.le_refl _) _)).2.size ?_; intro q4 cq4 w4 hq41 hq42 hr4 hb4; have HT4 : Hid (WD w.heap.size w4 [(.slice (some ⟨w.heap.size, 0, none⟩) n n, (o.set p ((R : Nat) : Int))), (.slice p1 G c1, gsI gs), (.slice (some ⟨g2, 0, none⟩) (T + 1) c2, bsI (none :: bs')), (.slice (some ⟨q3, 0, none⟩) (k + 1 + 1) cq3, smsI l k ++ [(sf : Int)]), (.slice (some ⟨q4, 0, none⟩) (k + 1 + 1) cq4, fcsI l k ++ [((fc : Int) + 1)])] wr.heap.size ⟨5, bE, 0, 0, false⟩ ∧ Below w.heap.size w w4) := ⟨hr4, (HT3.out _ ((Below.refl _ _).alloc (Nat.le_refl _) _)).2.trans hb4⟩; clear hr4 hb4) | (at_builtin; refine app_wd2 rfl _ _ rfl w.heap.size _ 3 _ (smsI l k) (sf : Int) wr.heap.size ⟨5, bE, 0, 0, false⟩ (k + 1) (by rw [smsI_len]) rfl (HT2.out _ ((Below.refl _ _).alloc (Nat.le_refl _) _)).1 rfl _ 1 rfl (new_at _ _) (by omega) (HT2.out _ ((Below.refl _ _).alloc (Nat.le_refl _) _)).2.size ?_; intro q3 cq3 w3 hq31 hq32 hr3 hb3; have hbw3 := (HT2.out _ ((Below.refl _ _).alloc (Nat.le_refl _) _)).2.trans hb3; have HT3 : Hid (∀ V, Below w3.heap.size w3 V → WD w.heap.size V [(.slice (some ⟨w.heap.size, 0, none⟩) n n, (o.set p ((R : Nat) : Int))), (.slice p1 G c1, gsI gs), (.slice (some ⟨g2, 0, none⟩) (T + 1) c2, bsI (none :: bs')), (.slice (some ⟨q3, 0, none⟩) (k + 1 + 1) cq3, smsI l k ++ [(sf : Int)]), (.slice (some ⟨g4, 0, none⟩) (k + 1) c4, fcsI l k)] wr.heap.size ⟨5, bE, 0, 0, false⟩ ∧ Below w.heap.size w V) := (fun V hV => ⟨hr3.below hV, hbw3.trans (hV.mono hbw3.size)⟩); have y4 := (HT3.out w3 (Below.refl _ _)).1.rws.cell (k := 4) rfl (by rw [fcsI_len]) (fcsI_at l (Nat.le_refl k)); rw [HSF.out.2.1] at y4; clear hr3 hb3 hbw3))
          exact ⟨⟨k + 1, gs, (none :: bs'), (o.set p ((R : Nat) : Int)), hlt, by go_num, by rw [smsI_succ, fcsI_succ, HU.out.1, HU.out.2]; exact HT4.out.1.rws, HT4.out.2, HFW.out.1, HFW.out.2⟩, by simp [intOf]; omega⟩
      | «end» =>
        simp only at e0 e1 e2 e3 e4 HW KW HSF HI2 hds hfb hdw
        cases b with
        | none =>
          have hF : isF ⟨7, bE, 0, 0, false⟩ = false := by simp [isF]
          have hdz : dwd ⟨7, bE, 0, 0, false⟩ = fwd ⟨7, bE, 0, 0, false⟩ := by unfold dwd; rw [hF]; rfl
          obtain ⟨z, hz⟩ : ∃ z, fwd ⟨7, bE, 0, 0, false⟩ = z := ⟨_, rfl⟩
          rw [hdz, hz] at KW
          rw [hz] at hfb
          have hne : ((z : Int) == 1099511627776) = false := by rw [beq_eq_false_iff_ne]; omega
          have HU : Hid (((Sf l (k + 1) : Nat) : Int) = (sf : Int) + (z : Nat) ∧ ((Fc l (k + 1) : Nat) : Int) = (fc : Int)) := by
            show _ ∧ _
            rw [HSF.out.2.2.1, HSF.out.2.2.2, hF, hz]
            exact ⟨by omega, by simp⟩
          clear hdz hz hdw hF
          obtain ⟨g, gs', b0, bs0, hgs, hbs, hsg, hst, hfn⟩ := HI2.out.1.fin HI2.out.2.2.1 rfl
          simp only [List.cons.injEq] at hbs
          obtain ⟨rfl, rfl⟩ := hbs
          subst hgs
          obtain ⟨G', rfl⟩ : ∃ G', G = G' + 1 := ⟨gs'.length, by rw [← HI2.out.2.2.2.2]; rfl⟩
          have HGL : Hid (gs'.length = G') := by have := HI2.out.2.2.2.2; rw [List.length_cons] at this; show _ = _; omega
          obtain ⟨g1, c1', e4, _⟩ := (HW.out _ (Below.refl _ _)).1.rws.get (k := 1) rfl (by rw [gsI_len]; simp)
          simp only [Value.slice.injEq] at e4
          obtain ⟨rfl, hxx, rfl⟩ := e4
          clear hxx
          have hou := HI2.out.2.1.top HL.out.2.1 (by rw [HN.out]; exact hk) hst
          have HFW : Hid (FwI l (k + 1) gs' bs' ∧ OutP l (k + 1) gs' bs' (o.set g ((btw l g k : Nat) : Int))) := ⟨hfn, (hou.settle HL.out.2.1 (by rw [HN.out]; exact hk) hsg (fun q hq => hq.elim (fun h => (List.mem_cons.1 h).elim .inl (fun h => .inr (.inl h))) (fun h => .inr (.inr h)))).succ HI2.out.2.2.1 (by simp)⟩
          have HSG : Hid (Set1 l k g) := hsg
          have hgk : g < k := HSG.out.1
          have HLN : Hid (T + 1 = (bsI (none :: bs')).length ∧ bs'.length = T) := ⟨by rw [bsI_len, List.length_cons, HI2.out.2.2.2.1], HI2.out.2.2.2.1⟩
          have HOL : Hid (o.length = n) := HI2.out.2.1.len.trans HN.out
          clear hst hfn hou hsg HI2
          have q3 : (T : Int) < (T : Int) + 1 := by omega
          have q4 : (0 : Int) ≤ T := by omega
          have t2 : (wr.alloc (.cells #[.int .u8 7, .string bE, .int .i64 0, .int .i64 0, .bool false] 26)).cell? ⟨g2, T, none⟩ = some (.int .i64 (-1)) := (HW.out _ (Below.refl _ _)).1.rws.cell (k := 2) rfl HLN.out.1 (by have := bsI_top none bs'; rw [HLN.out.2] at this; exact this)
          have f2 : (wr.alloc (.cells #[.int .u8 7, .string bE, .int .i64 0, .int .i64 0, .bool false] 26)).frozen? ⟨g2, T, none⟩ = false := (HW.out _ (Below.refl _ _)).1.rws.frozen (k := 2) rfl HLN.out.1 T
          have hxs : WD w.heap.size ((wr.alloc (.cells #[.int .u8 7, .string bE, .int .i64 0, .int .i64 0, .bool false] 26)).setCell ⟨g2, T, none⟩ (.int .i64 (-1))) [(.slice (some ⟨w.heap.size, 0, none⟩) n n, o), (.slice (some ⟨g1, 0, none⟩) (G' + 1) c1, gsI (g :: gs')), (.slice (some ⟨g2, 0, none⟩) (T + 1) c2, bsI (none :: bs')), (.slice (some ⟨g3, 0, none⟩) (k + 1) c3, smsI l k), (.slice (some ⟨g4, 0, none⟩) (k + 1) c4, fcsI l k)] wr.heap.size ⟨7, bE, 0, 0, false⟩ ∧ Below w.heap.size w ((wr.alloc (.cells #[.int .u8 7, .string bE, .int .i64 0, .int .i64 0, .bool false] 26)).setCell ⟨g2, T, none⟩ (.int .i64 (-1))) := by
            have h1 := (HW.out _ (Below.refl _ _)).1.store HLN.out.1 (k := 2) rfl T (-1)
            have h2 := bsI_set none none bs'
            rw [HLN.out.2] at h2
            refine ⟨by rw [← h2]; exact h1, (HW.out _ (Below.refl _ _)).2.setCell ((HW.out _ (Below.refl _ _)).1.rws.base (k := 2) rfl) _⟩
          have hxb := hxs.1.blk
          have x0 := blk_cell (k := 0) hxb rfl
          have x1 := blk_cell (k := 1) hxb rfl
          have x2 := blk_cell (k := 2) hxb rfl
          have x3 := blk_cell (k := 3) hxb rfl
          have x4 := blk_cell (k := 4) hxb rfl
          have HX : Hid (∀ V, Below ((wr.alloc (.cells #[.int .u8 7, .string bE, .int .i64 0, .int .i64 0, .bool false] 26)).setCell ⟨g2, T, none⟩ (.int .i64 (-1))).heap.size ((wr.alloc (.cells #[.int .u8 7, .string bE, .int .i64 0, .int .i64 0, .bool false] 26)).setCell ⟨g2, T, none⟩ (.int .i64 (-1))) V → WD w.heap.size V [(.slice (some ⟨w.heap.size, 0, none⟩) n n, o), (.slice (some ⟨g1, 0, none⟩) (G' + 1) c1, gsI (g :: gs')), (.slice (some ⟨g2, 0, none⟩) (T + 1) c2, bsI (none :: bs')), (.slice (some ⟨g3, 0, none⟩) (k + 1) c3, smsI l k), (.slice (some ⟨g4, 0, none⟩) (k + 1) c4, fcsI l k)] wr.heap.size ⟨7, bE, 0, 0, false⟩ ∧ Below w.heap.size w V) := fun V hV => ⟨hxs.1.below hV, hxs.2.trans (hV.mono hxs.2.size)⟩
          have HLN2 : Hid (T + 1 = (bsI (none :: bs')).length ∧ G' + 1 = (gsI (g :: gs')).length) := ⟨by rw [bsI_len, List.length_cons, HLN.out.2], by rw [gsI_len, List.length_cons, HGL.out]⟩
          have tg : ((wr.alloc (.cells #[.int .u8 7, .string bE, .int .i64 0, .int .i64 0, .bool false] 26)).setCell ⟨g2, T, none⟩ (.int .i64 (-1))).cell? ⟨g1, G', none⟩ = some (.int .i64 g) := hxs.1.rws.cell (k := 1) rfl HLN2.out.2 (by have := gsI_top g gs'; rw [HGL.out] at this; exact this)
          clear hxs hxb
          have HOL2 : Hid (o.length = n) := by show _ = _; exact HOL.out
          obtain ⟨old2, hold2⟩ : ∃ x, o[g]? = some x := ⟨_, List.getElem?_eq_getElem (by rw [HOL2.out]; omega)⟩
          have HO2 : Hid (o[g]? = some old2) := hold2
          clear hold2
          obtain ⟨R2, hR2⟩ : ∃ R, btw l g k = R := ⟨_, rfl⟩
          rw [hR2] at HFW
          have KE : Hid (Calls Tryd.prog 48 #[.slice (some ⟨g3, 0, none⟩) (k + 1) c3, .slice (some ⟨g4, 0, none⟩) (k + 1) c4, .int .i64 g, .int .i64 k] ((wr.alloc (.cells #[.int .u8 7, .string bE, .int .i64 0, .int .i64 0, .bool false] 26)).setCell ⟨g2, T, none⟩ (.int .i64 (-1))) fun e w5 => e = .returned (.int .i64 (R2 : Nat)) ∧ w5.cell? ⟨w.heap.size, g, none⟩ = some (.int .i64 old2) ∧ w5.frozen? ⟨w.heap.size, g, none⟩ = false ∧ Hid (WD w.heap.size (w5.setCell ⟨w.heap.size, g, none⟩ (.int .i64 (R2 : Nat))) [(.slice (some ⟨w.heap.size, 0, none⟩) n n, (o.set g ((R2 : Nat) : Int))), (.slice (some ⟨g1, 0, none⟩) G' c1, gsI gs'), (.slice (some ⟨g2, 0, none⟩) T c2, bsI bs'), (.slice (some ⟨g3, 0, none⟩) (k + 1) c3, smsI l k), (.slice (some ⟨g4, 0, none⟩) (k + 1) c4, fcsI l k)] wr.heap.size ⟨7, bE, 0, 0, false⟩ ∧ Below w.heap.size w (w5.setCell ⟨w.heap.size, g, none⟩ (.int .i64 (R2 : Nat))))) := by
            have h1 := (HX.out _ (Below.refl _ _)).1.rws
            rw [← hR2]
            refine (between_any l g k (by omega) g3 g4 (k + 1) (k + 1) c3 c4 _ ⟨hc3, hc3', by omega⟩ ⟨hc4, hc4', by omega⟩ (h1.cell (k := 3) rfl (by rw [smsI_len]) (smsI_at l (by omega))) (h1.cell (k := 3) rfl (by rw [smsI_len]) (smsI_at l (Nat.le_refl k))) (h1.cell (k := 4) rfl (by rw [fcsI_len]) (fcsI_at l (by omega))) (h1.cell (k := 4) rfl (by rw [fcsI_len]) (fcsI_at l (Nat.le_refl k))) (HL.out.2.1 k)).mono ?_
            rintro e w5 ⟨rfl, hb⟩
            obtain ⟨h2, h3⟩ := HX.out w5 hb
            refine ⟨rfl, h2.rws.cell (k := 0) rfl HOL2.out.symm HO2.out, h2.rws.frozen (k := 0) rfl HOL2.out.symm g, ?_, h3.setCell (Nat.le_refl _) _⟩
            have h4 := h2.store HOL2.out.symm (k := 0) rfl g ((btw l g k : Nat) : Int)
            rw [gsI_cons, bsI_cons] at h4
            exact (h4.pop2 (k := 1) (by rw [gsI_len]; exact HGL.out.symm) rfl).pop2 (k := 2) (by rw [bsI_len]; exact HLN.out.2.symm) rfl
          clear hR2
          have q8 : (G' : Int) < (G' : Int) + 1 := by omega
          have q9 : (0 : Int) ≤ G' := by omega
          have q10 : (0 : Int) ≤ g := by omega
          have q11 : (g : Int) < n := by omega
          go_wp2_with (first | (go_at_call 49; refine (KW.out _).mono ?_; rintro e w2 ⟨rfl, hb2⟩; have HT2 : Hid (∀ V, Below w2.heap.size w2 V → WD w.heap.size V [(.slice (some ⟨w.heap.size, 0, none⟩) n n, (o.set g ((R2 : Nat) : Int))), (.slice (some ⟨g1, 0, none⟩) G' c1, gsI gs'), (.slice (some ⟨g2, 0, none⟩) T c2, bsI bs'), (.slice (some ⟨g3, 0, none⟩) (k + 1) c3, smsI l k), (.slice (some ⟨g4, 0, none⟩) (k + 1) c4, fcsI l k)] wr.heap.size ⟨7, bE, 0, 0, false⟩ ∧ Below w.heap.size w V) := (fun V hV => HY.out V (hb2.trans (hV.mono hb2.size))); clear hb2; have x3 := (HT2.out w2 (Below.refl _ _)).1.rws.cell (k := 3) rfl (by rw [smsI_len]) (smsI_at l (Nat.le_refl k)); rw [HSF.out.1] at x3; have x4 := (HT2.out w2 (Below.refl _ _)).1.rws.cell (k := 4) rfl (by rw [fcsI_len]) (fcsI_at l (Nat.le_refl k)); rw [HSF.out.2.1] at x4) | (at_builtin; refine app_wd2 rfl _ _ rfl w.heap.size _ 4 _ (fcsI l k) (fc : Int) wr.heap.size ⟨7, bE, 0, 0, false⟩ (k + 1) (by rw [fcsI_len]) rfl (HT3.out _ ((Below.refl _ _).alloc (Nat.le_refl _) _)).1 rfl _ 1 rfl (new_at _ _) (by omega) (HT3.out _ ((Below.refl _ _).alloc (Nat.le_refl _) _)).2.size ?_; intro q4 cq4 w4 hq41 hq42 hr4 hb4; have HT4 : Hid (WD w.heap.size w4 [(.slice (some ⟨w.heap.size, 0, none⟩) n n, (o.set g ((R2 : Nat) : Int))), (.slice (some ⟨g1, 0, none⟩) G' c1, gsI gs'), (.slice (some ⟨g2, 0, none⟩) T c2, bsI bs'), (.slice (some ⟨q3, 0, none⟩) (k + 1 + 1) cq3, smsI l k ++ [((sf : Int) + (z : Nat))]), (.slice (some ⟨q4, 0, none⟩) (k + 1 + 1) cq4, fcsI l k ++ [(fc : Int)])] wr.heap.size ⟨7, bE, 0, 0, false⟩ ∧ Below w.heap.size w w4) := ⟨hr4, (HT3.out _ ((Below.refl _ _).alloc (Nat.le_refl _) _)).2.trans hb4⟩; clear hr4 hb4) | (at_builtin; refine app_wd2 rfl _ _ rfl w.heap.size _ 3 _ (smsI l k) ((sf : Int) + (z : Nat)) wr.heap.size ⟨7, bE, 0, 0, false⟩ (k + 1) (by rw [smsI_len]) rfl (HT2.out _ ((Below.refl _ _).alloc (Nat.le_refl _) _)).1 rfl _ 1 rfl (new_at _ _) (by omega) (HT2.out _ ((Below.refl _ _).alloc (Nat.le_refl _) _)).2.size ?_; intro q3 cq3 w3 hq31 hq32 hr3 hb3; have hbw3 := (HT2.out _ ((Below.refl _ _).alloc (Nat.le_refl _) _)).2.trans hb3; have HT3 : Hid (∀ V, Below w3.heap.size w3 V → WD w.heap.size V [(.slice (some ⟨w.heap.size, 0, none⟩) n n, (o.set g ((R2 : Nat) : Int))), (.slice (some ⟨g1, 0, none⟩) G' c1, gsI gs'), (.slice (some ⟨g2, 0, none⟩) T c2, bsI bs'), (.slice (some ⟨q3, 0, none⟩) (k + 1 + 1) cq3, smsI l k ++ [((sf : Int) + (z : Nat))]), (.slice (some ⟨g4, 0, none⟩) (k + 1) c4, fcsI l k)] wr.heap.size ⟨7, bE, 0, 0, false⟩ ∧ Below w.heap.size w V) := (fun V hV => ⟨hr3.below hV, hbw3.trans (hV.mono hbw3.size)⟩); have y4 := (HT3.out w3 (Below.refl _ _)).1.rws.cell (k := 4) rfl (by rw [fcsI_len]) (fcsI_at l (Nat.le_refl k)); rw [HSF.out.2.1] at y4; clear hr3 hb3 hbw3) | (go_at_call 48; refine KE.out.mono ?_; rintro e w5 ⟨rfl, u1, u2, HY0⟩; have HY : Hid (∀ V, Below (w5.setCell ⟨w.heap.size, g, none⟩ (.int .i64 (R2 : Nat))).heap.size (w5.setCell ⟨w.heap.size, g, none⟩ (.int .i64 (R2 : Nat))) V → WD w.heap.size V [(.slice (some ⟨w.heap.size, 0, none⟩) n n, (o.set g ((R2 : Nat) : Int))), (.slice (some ⟨g1, 0, none⟩) G' c1, gsI gs'), (.slice (some ⟨g2, 0, none⟩) T c2, bsI bs'), (.slice (some ⟨g3, 0, none⟩) (k + 1) c3, smsI l k), (.slice (some ⟨g4, 0, none⟩) (k + 1) c4, fcsI l k)] wr.heap.size ⟨7, bE, 0, 0, false⟩ ∧ Below w.heap.size w V) := (fun V hV => ⟨HY0.out.1.below hV, HY0.out.2.trans (hV.mono HY0.out.2.size)⟩); have hyb := HY0.out.1.blk; have yy0 := blk_cell (k := 0) hyb rfl; have yy1 := blk_cell (k := 1) hyb rfl; have yy2 := blk_cell (k := 2) hyb rfl; have yy3 := blk_cell (k := 3) hyb rfl; have yy4 := blk_cell (k := 4) hyb rfl; clear hyb))
          exact ⟨⟨k + 1, gs', bs', (o.set g ((R2 : Nat) : Int)), hlt, by go_num, by rw [smsI_succ, fcsI_succ, HU.out.1, HU.out.2]; exact HT4.out.1.rws, HT4.out.2, HFW.out.1, HFW.out.2⟩, by simp [intOf]; omega⟩
        | some p =>
          have hF : isF ⟨7, bE, 0, 0, false⟩ = false := by simp [isF]
          have hdz : dwd ⟨7, bE, 0, 0, false⟩ = fwd ⟨7, bE, 0, 0, false⟩ := by unfold dwd; rw [hF]; rfl
          obtain ⟨z, hz⟩ : ∃ z, fwd ⟨7, bE, 0, 0, false⟩ = z := ⟨_, rfl⟩
          rw [hdz, hz] at KW
          rw [hz] at hfb
          have hne : ((z : Int) == 1099511627776) = false := by rw [beq_eq_false_iff_ne]; omega
          have HU : Hid (((Sf l (k + 1) : Nat) : Int) = (sf : Int) + (z : Nat) ∧ ((Fc l (k + 1) : Nat) : Int) = (fc : Int)) := by
            show _ ∧ _
            rw [HSF.out.2.2.1, HSF.out.2.2.2, hF, hz]
            exact ⟨by omega, by simp⟩
          clear hdz hz hdw hF
          obtain ⟨g, gs', b0, bs0, hgs, hbs, hsg, hst, hfn⟩ := HI2.out.1.fin HI2.out.2.2.1 rfl
          simp only [List.cons.injEq] at hbs
          obtain ⟨rfl, rfl⟩ := hbs
          subst hgs
          obtain ⟨G', rfl⟩ : ∃ G', G = G' + 1 := ⟨gs'.length, by rw [← HI2.out.2.2.2.2]; rfl⟩
          have HGL : Hid (gs'.length = G') := by have := HI2.out.2.2.2.2; rw [List.length_cons] at this; show _ = _; omega
          obtain ⟨g1, c1', e4, _⟩ := (HW.out _ (Below.refl _ _)).1.rws.get (k := 1) rfl (by rw [gsI_len]; simp)
          simp only [Value.slice.injEq] at e4
          obtain ⟨rfl, hxx, rfl⟩ := e4
          clear hxx
          have hou := HI2.out.2.1.top HL.out.2.1 (by rw [HN.out]; exact hk) hst
          have HFW : Hid (FwI l (k + 1) gs' bs' ∧ OutP l (k + 1) gs' bs' ((o.set p ((btw l p k : Nat) : Int)).set g ((btw l g k : Nat) : Int))) := ⟨hfn, (hou.settle HL.out.2.1 (by rw [HN.out]; exact hk) hsg (fun q hq => hq.elim (fun h => (List.mem_cons.1 h).elim .inl (fun h => .inr (.inl h))) (fun h => .inr (.inr h)))).succ HI2.out.2.2.1 (by simp)⟩
          have HSG : Hid (Set1 l k g) := hsg
          have hgk : g < k := HSG.out.1
          have HLN : Hid (T + 1 = (bsI ((some p) :: bs')).length ∧ bs'.length = T) := ⟨by rw [bsI_len, List.length_cons, HI2.out.2.2.2.1], HI2.out.2.2.2.1⟩
          have HOL : Hid (o.length = n) := HI2.out.2.1.len.trans HN.out
          have HSP : Hid (Set1 l k p) := hst p rfl
          have hpk : p < k := HSP.out.1
          clear hst hfn hou hsg HI2
          have q3 : (T : Int) < (T : Int) + 1 := by omega
          have q4 : (0 : Int) ≤ T := by omega
          have q5 : (0 : Int) ≤ p := by omega
          have q6 : (p : Int) < n := by omega
          have hge : ((0 : Int) ≤ (p : Int)) := by omega
          have t2 : (wr.alloc (.cells #[.int .u8 7, .string bE, .int .i64 0, .int .i64 0, .bool false] 26)).cell? ⟨g2, T, none⟩ = some (.int .i64 p) := (HW.out _ (Below.refl _ _)).1.rws.cell (k := 2) rfl HLN.out.1 (by have := bsI_top (some p) bs'; rw [HLN.out.2] at this; exact this)
          go_wp2_with fail
          obtain ⟨W1, hW1⟩ : ∃ W1, (wr.alloc (.cells #[.int .u8 7, .string bE, .int .i64 0, .int .i64 0, .bool false] 26)) = W1 := ⟨_, rfl⟩
          have hs1 : W1.heap.size = wr.heap.size + 1 := by rw [← hW1]; exact World.size_alloc _ _
          rw [hW1] at HW t2 ⊢
          have HW1 : Hid (∀ V, Below W1.heap.size W1 V → WD w.heap.size V [(.slice (some ⟨w.heap.size, 0, none⟩) n n, o), (.slice (some ⟨g1, 0, none⟩) (G' + 1) c1, gsI (g :: gs')), (.slice (some ⟨g2, 0, none⟩) (T + 1) c2, bsI (some p :: bs')), (.slice (some ⟨g3, 0, none⟩) (k + 1) c3, smsI l k), (.slice (some ⟨g4, 0, none⟩) (k + 1) c4, fcsI l k)] wr.heap.size ⟨7, bE, 0, 0, false⟩ ∧ Below w.heap.size w V) := fun V hV => HW.out V (by rw [← hs1]; exact hV)
          clear hW1 hs1 HW
          obtain ⟨old, hold⟩ : ∃ x, o[p]? = some x := ⟨_, List.getElem?_eq_getElem (by rw [HOL.out]; omega)⟩
          have HO : Hid (o[p]? = some old) := hold
          clear hold
          obtain ⟨R, hR⟩ : ∃ R, btw l p k = R := ⟨_, rfl⟩
          have HRR : Hid (btw l p k = R) := hR
          have KB : Hid (∀ V, Below W1.heap.size W1 V → Calls Tryd.prog 48 #[.slice (some ⟨g3, 0, none⟩) (k + 1) c3, .slice (some ⟨g4, 0, none⟩) (k + 1) c4, .int .i64 p, .int .i64 k] V fun e w2 => e = .returned (.int .i64 (R : Nat)) ∧ Hid (Below W1.heap.size W1 w2) ∧ w2.cell? ⟨g2, T, none⟩ = some (.int .i64 p) ∧ w2.cell? ⟨w.heap.size, p, none⟩ = some (.int .i64 old) ∧ w2.frozen? ⟨w.heap.size, p, none⟩ = false ∧ (w2.setCell ⟨w.heap.size, p, none⟩ (.int .i64 (R : Nat))).cell? ⟨g2, T, none⟩ = some (.int .i64 p)) := fun V hV => by
            have h1 := (HW1.out V hV).1.rws
            rw [← hR]
            refine (between_any l p k (by omega) g3 g4 (k + 1) (k + 1) c3 c4 V ⟨hc3, hc3', by omega⟩ ⟨hc4, hc4', by omega⟩ (h1.cell (k := 3) rfl (by rw [smsI_len]) (smsI_at l (by omega))) (h1.cell (k := 3) rfl (by rw [smsI_len]) (smsI_at l (Nat.le_refl k))) (h1.cell (k := 4) rfl (by rw [fcsI_len]) (fcsI_at l (by omega))) (h1.cell (k := 4) rfl (by rw [fcsI_len]) (fcsI_at l (Nat.le_refl k))) (HL.out.2.1 k)).mono ?_
            rintro e w2 ⟨rfl, hb⟩
            have hb' : Below W1.heap.size W1 w2 := hV.trans (hb.mono hV.size)
            have h2 := (HW1.out w2 hb').1.rws
            exact ⟨rfl, hb', h2.cell (k := 2) rfl HLN.out.1 (by have := bsI_top (some p) bs'; rw [HLN.out.2] at this; exact this), h2.cell (k := 0) rfl HOL.out.symm HO.out, h2.frozen (k := 0) rfl HOL.out.symm p, (h2.store HOL.out.symm (k := 0) rfl p _).cell (k := 2) rfl HLN.out.1 (by have := bsI_top (some p) bs'; rw [HLN.out.2] at this; exact this)⟩
          clear hR
          go_region_held3 (fun w' => w'.cell? ⟨g2, T, none⟩ = some (.int .i64 p)) (first | assumption | (exact t2) | go_keep) (first | (go_at_call 48; refine (KB.out _ (by first | exact (Below.refl _ _).drew | exact Below.refl _ _ | exact (Below.refl _ _).drew.drew | exact (Below.refl _ _).drew.drew.drew)).mono ?_; rintro e w2 ⟨rfl, HB2, y1, y2, y3, y5⟩))
          obtain ⟨Z, hZ⟩ : ∃ Z, w2.setCell ⟨w.heap.size, p, none⟩ (.int .i64 (R : Nat)) = Z := ⟨_, rfl⟩
          have hwz : WD w.heap.size Z [(.slice (some ⟨w.heap.size, 0, none⟩) n n, (o.set p ((R : Nat) : Int))), (.slice (some ⟨g1, 0, none⟩) (G' + 1) c1, gsI (g :: gs')), (.slice (some ⟨g2, 0, none⟩) (T + 1) c2, bsI (some p :: bs')), (.slice (some ⟨g3, 0, none⟩) (k + 1) c3, smsI l k), (.slice (some ⟨g4, 0, none⟩) (k + 1) c4, fcsI l k)] wr.heap.size ⟨7, bE, 0, 0, false⟩ ∧ Below w.heap.size w Z := by
            rw [← hZ]
            exact ⟨(HW1.out w2 HB2.out).1.store HOL.out.symm (k := 0) rfl p _, (HW1.out w2 HB2.out).2.setCell (Nat.le_refl _) _⟩
          rw [hZ]
          have HZ : Hid (∀ V, Below Z.heap.size Z V → WD w.heap.size V [(.slice (some ⟨w.heap.size, 0, none⟩) n n, (o.set p ((R : Nat) : Int))), (.slice (some ⟨g1, 0, none⟩) (G' + 1) c1, gsI (g :: gs')), (.slice (some ⟨g2, 0, none⟩) (T + 1) c2, bsI (some p :: bs')), (.slice (some ⟨g3, 0, none⟩) (k + 1) c3, smsI l k), (.slice (some ⟨g4, 0, none⟩) (k + 1) c4, fcsI l k)] wr.heap.size ⟨7, bE, 0, 0, false⟩ ∧ Below w.heap.size w V) := fun V hV => ⟨hwz.1.below hV, hwz.2.trans (hV.mono hwz.2.size)⟩
          rw [HRR.out] at HFW
          clear hZ hwz t2 y1 y2 y3 y5 KB
          have t2 : Z.cell? ⟨g2, T, none⟩ = some (.int .i64 p) := (HZ.out _ (Below.refl _ _)).1.rws.cell (k := 2) rfl HLN.out.1 (by have := bsI_top (some p) bs'; rw [HLN.out.2] at this; exact this)
          have f2 : Z.frozen? ⟨g2, T, none⟩ = false := (HZ.out _ (Below.refl _ _)).1.rws.frozen (k := 2) rfl HLN.out.1 T
          have hzb := (HZ.out _ (Below.refl _ _)).1.blk
          have zz0 := blk_cell (k := 0) hzb rfl
          have zz1 := blk_cell (k := 1) hzb rfl
          have zz2 := blk_cell (k := 2) hzb rfl
          have zz3 := blk_cell (k := 3) hzb rfl
          have zz4 := blk_cell (k := 4) hzb rfl
          clear hzb
          have hxs : WD w.heap.size (Z.setCell ⟨g2, T, none⟩ (.int .i64 (-1))) [(.slice (some ⟨w.heap.size, 0, none⟩) n n, (o.set p ((R : Nat) : Int))), (.slice (some ⟨g1, 0, none⟩) (G' + 1) c1, gsI (g :: gs')), (.slice (some ⟨g2, 0, none⟩) (T + 1) c2, bsI (none :: bs')), (.slice (some ⟨g3, 0, none⟩) (k + 1) c3, smsI l k), (.slice (some ⟨g4, 0, none⟩) (k + 1) c4, fcsI l k)] wr.heap.size ⟨7, bE, 0, 0, false⟩ ∧ Below w.heap.size w (Z.setCell ⟨g2, T, none⟩ (.int .i64 (-1))) := by
            have h1 := (HZ.out _ (Below.refl _ _)).1.store HLN.out.1 (k := 2) rfl T (-1)
            have h2 := bsI_set (some p) none bs'
            rw [HLN.out.2] at h2
            refine ⟨by rw [← h2]; exact h1, (HZ.out _ (Below.refl _ _)).2.setCell ((HZ.out _ (Below.refl _ _)).1.rws.base (k := 2) rfl) _⟩
          have hxb := hxs.1.blk
          have x0 := blk_cell (k := 0) hxb rfl
          have x1 := blk_cell (k := 1) hxb rfl
          have x2 := blk_cell (k := 2) hxb rfl
          have x3 := blk_cell (k := 3) hxb rfl
          have x4 := blk_cell (k := 4) hxb rfl
          have HX : Hid (∀ V, Below (Z.setCell ⟨g2, T, none⟩ (.int .i64 (-1))).heap.size (Z.setCell ⟨g2, T, none⟩ (.int .i64 (-1))) V → WD w.heap.size V [(.slice (some ⟨w.heap.size, 0, none⟩) n n, (o.set p ((R : Nat) : Int))), (.slice (some ⟨g1, 0, none⟩) (G' + 1) c1, gsI (g :: gs')), (.slice (some ⟨g2, 0, none⟩) (T + 1) c2, bsI (none :: bs')), (.slice (some ⟨g3, 0, none⟩) (k + 1) c3, smsI l k), (.slice (some ⟨g4, 0, none⟩) (k + 1) c4, fcsI l k)] wr.heap.size ⟨7, bE, 0, 0, false⟩ ∧ Below w.heap.size w V) := fun V hV => ⟨hxs.1.below hV, hxs.2.trans (hV.mono hxs.2.size)⟩
          have HLN2 : Hid (T + 1 = (bsI (none :: bs')).length ∧ G' + 1 = (gsI (g :: gs')).length) := ⟨by rw [bsI_len, List.length_cons, HLN.out.2], by rw [gsI_len, List.length_cons, HGL.out]⟩
          have tg : (Z.setCell ⟨g2, T, none⟩ (.int .i64 (-1))).cell? ⟨g1, G', none⟩ = some (.int .i64 g) := hxs.1.rws.cell (k := 1) rfl HLN2.out.2 (by have := gsI_top g gs'; rw [HGL.out] at this; exact this)
          clear hxs hxb
          have HOL2 : Hid ((o.set p ((R : Nat) : Int)).length = n) := by show _ = _; rw [List.length_set]; exact HOL.out
          obtain ⟨old2, hold2⟩ : ∃ x, (o.set p ((R : Nat) : Int))[g]? = some x := ⟨_, List.getElem?_eq_getElem (by rw [HOL2.out]; omega)⟩
          have HO2 : Hid ((o.set p ((R : Nat) : Int))[g]? = some old2) := hold2
          clear hold2
          obtain ⟨R2, hR2⟩ : ∃ R, btw l g k = R := ⟨_, rfl⟩
          rw [hR2] at HFW
          have KE : Hid (Calls Tryd.prog 48 #[.slice (some ⟨g3, 0, none⟩) (k + 1) c3, .slice (some ⟨g4, 0, none⟩) (k + 1) c4, .int .i64 g, .int .i64 k] (Z.setCell ⟨g2, T, none⟩ (.int .i64 (-1))) fun e w5 => e = .returned (.int .i64 (R2 : Nat)) ∧ w5.cell? ⟨w.heap.size, g, none⟩ = some (.int .i64 old2) ∧ w5.frozen? ⟨w.heap.size, g, none⟩ = false ∧ Hid (WD w.heap.size (w5.setCell ⟨w.heap.size, g, none⟩ (.int .i64 (R2 : Nat))) [(.slice (some ⟨w.heap.size, 0, none⟩) n n, ((o.set p ((R : Nat) : Int)).set g ((R2 : Nat) : Int))), (.slice (some ⟨g1, 0, none⟩) G' c1, gsI gs'), (.slice (some ⟨g2, 0, none⟩) T c2, bsI bs'), (.slice (some ⟨g3, 0, none⟩) (k + 1) c3, smsI l k), (.slice (some ⟨g4, 0, none⟩) (k + 1) c4, fcsI l k)] wr.heap.size ⟨7, bE, 0, 0, false⟩ ∧ Below w.heap.size w (w5.setCell ⟨w.heap.size, g, none⟩ (.int .i64 (R2 : Nat))))) := by
            have h1 := (HX.out _ (Below.refl _ _)).1.rws
            rw [← hR2]
            refine (between_any l g k (by omega) g3 g4 (k + 1) (k + 1) c3 c4 _ ⟨hc3, hc3', by omega⟩ ⟨hc4, hc4', by omega⟩ (h1.cell (k := 3) rfl (by rw [smsI_len]) (smsI_at l (by omega))) (h1.cell (k := 3) rfl (by rw [smsI_len]) (smsI_at l (Nat.le_refl k))) (h1.cell (k := 4) rfl (by rw [fcsI_len]) (fcsI_at l (by omega))) (h1.cell (k := 4) rfl (by rw [fcsI_len]) (fcsI_at l (Nat.le_refl k))) (HL.out.2.1 k)).mono ?_
            rintro e w5 ⟨rfl, hb⟩
            obtain ⟨h2, h3⟩ := HX.out w5 hb
            refine ⟨rfl, h2.rws.cell (k := 0) rfl HOL2.out.symm HO2.out, h2.rws.frozen (k := 0) rfl HOL2.out.symm g, ?_, h3.setCell (Nat.le_refl _) _⟩
            have h4 := h2.store HOL2.out.symm (k := 0) rfl g ((btw l g k : Nat) : Int)
            rw [gsI_cons, bsI_cons] at h4
            exact (h4.pop2 (k := 1) (by rw [gsI_len]; exact HGL.out.symm) rfl).pop2 (k := 2) (by rw [bsI_len]; exact HLN.out.2.symm) rfl
          clear hR2
          have q8 : (G' : Int) < (G' : Int) + 1 := by omega
          have q9 : (0 : Int) ≤ G' := by omega
          have q10 : (0 : Int) ≤ g := by omega
          have q11 : (g : Int) < n := by omega
          go_wp2_with (first | (go_at_call 49; refine (KW.out _).mono ?_; rintro e w2 ⟨rfl, hb2⟩; have HT2 : Hid (∀ V, Below w2.heap.size w2 V → WD w.heap.size V [(.slice (some ⟨w.heap.size, 0, none⟩) n n, ((o.set p ((R : Nat) : Int)).set g ((R2 : Nat) : Int))), (.slice (some ⟨g1, 0, none⟩) G' c1, gsI gs'), (.slice (some ⟨g2, 0, none⟩) T c2, bsI bs'), (.slice (some ⟨g3, 0, none⟩) (k + 1) c3, smsI l k), (.slice (some ⟨g4, 0, none⟩) (k + 1) c4, fcsI l k)] wr.heap.size ⟨7, bE, 0, 0, false⟩ ∧ Below w.heap.size w V) := (fun V hV => HY.out V (hb2.trans (hV.mono hb2.size))); clear hb2; have x3 := (HT2.out w2 (Below.refl _ _)).1.rws.cell (k := 3) rfl (by rw [smsI_len]) (smsI_at l (Nat.le_refl k)); rw [HSF.out.1] at x3; have x4 := (HT2.out w2 (Below.refl _ _)).1.rws.cell (k := 4) rfl (by rw [fcsI_len]) (fcsI_at l (Nat.le_refl k)); rw [HSF.out.2.1] at x4) | (at_builtin; refine app_wd2 rfl _ _ rfl w.heap.size _ 4 _ (fcsI l k) (fc : Int) wr.heap.size ⟨7, bE, 0, 0, false⟩ (k + 1) (by rw [fcsI_len]) rfl (HT3.out _ ((Below.refl _ _).alloc (Nat.le_refl _) _)).1 rfl _ 1 rfl (new_at _ _) (by omega) (HT3.out _ ((Below.refl _ _).alloc (Nat.le_refl _) _)).2.size ?_; intro q4 cq4 w4 hq41 hq42 hr4 hb4; have HT4 : Hid (WD w.heap.size w4 [(.slice (some ⟨w.heap.size, 0, none⟩) n n, ((o.set p ((R : Nat) : Int)).set g ((R2 : Nat) : Int))), (.slice (some ⟨g1, 0, none⟩) G' c1, gsI gs'), (.slice (some ⟨g2, 0, none⟩) T c2, bsI bs'), (.slice (some ⟨q3, 0, none⟩) (k + 1 + 1) cq3, smsI l k ++ [((sf : Int) + (z : Nat))]), (.slice (some ⟨q4, 0, none⟩) (k + 1 + 1) cq4, fcsI l k ++ [(fc : Int)])] wr.heap.size ⟨7, bE, 0, 0, false⟩ ∧ Below w.heap.size w w4) := ⟨hr4, (HT3.out _ ((Below.refl _ _).alloc (Nat.le_refl _) _)).2.trans hb4⟩; clear hr4 hb4) | (at_builtin; refine app_wd2 rfl _ _ rfl w.heap.size _ 3 _ (smsI l k) ((sf : Int) + (z : Nat)) wr.heap.size ⟨7, bE, 0, 0, false⟩ (k + 1) (by rw [smsI_len]) rfl (HT2.out _ ((Below.refl _ _).alloc (Nat.le_refl _) _)).1 rfl _ 1 rfl (new_at _ _) (by omega) (HT2.out _ ((Below.refl _ _).alloc (Nat.le_refl _) _)).2.size ?_; intro q3 cq3 w3 hq31 hq32 hr3 hb3; have hbw3 := (HT2.out _ ((Below.refl _ _).alloc (Nat.le_refl _) _)).2.trans hb3; have HT3 : Hid (∀ V, Below w3.heap.size w3 V → WD w.heap.size V [(.slice (some ⟨w.heap.size, 0, none⟩) n n, ((o.set p ((R : Nat) : Int)).set g ((R2 : Nat) : Int))), (.slice (some ⟨g1, 0, none⟩) G' c1, gsI gs'), (.slice (some ⟨g2, 0, none⟩) T c2, bsI bs'), (.slice (some ⟨q3, 0, none⟩) (k + 1 + 1) cq3, smsI l k ++ [((sf : Int) + (z : Nat))]), (.slice (some ⟨g4, 0, none⟩) (k + 1) c4, fcsI l k)] wr.heap.size ⟨7, bE, 0, 0, false⟩ ∧ Below w.heap.size w V) := (fun V hV => ⟨hr3.below hV, hbw3.trans (hV.mono hbw3.size)⟩); have y4 := (HT3.out w3 (Below.refl _ _)).1.rws.cell (k := 4) rfl (by rw [fcsI_len]) (fcsI_at l (Nat.le_refl k)); rw [HSF.out.2.1] at y4; clear hr3 hb3 hbw3) | (go_at_call 48; refine KE.out.mono ?_; rintro e w5 ⟨rfl, u1, u2, HY0⟩; have HY : Hid (∀ V, Below (w5.setCell ⟨w.heap.size, g, none⟩ (.int .i64 (R2 : Nat))).heap.size (w5.setCell ⟨w.heap.size, g, none⟩ (.int .i64 (R2 : Nat))) V → WD w.heap.size V [(.slice (some ⟨w.heap.size, 0, none⟩) n n, ((o.set p ((R : Nat) : Int)).set g ((R2 : Nat) : Int))), (.slice (some ⟨g1, 0, none⟩) G' c1, gsI gs'), (.slice (some ⟨g2, 0, none⟩) T c2, bsI bs'), (.slice (some ⟨g3, 0, none⟩) (k + 1) c3, smsI l k), (.slice (some ⟨g4, 0, none⟩) (k + 1) c4, fcsI l k)] wr.heap.size ⟨7, bE, 0, 0, false⟩ ∧ Below w.heap.size w V) := (fun V hV => ⟨HY0.out.1.below hV, HY0.out.2.trans (hV.mono HY0.out.2.size)⟩); have hyb := HY0.out.1.blk; have yy0 := blk_cell (k := 0) hyb rfl; have yy1 := blk_cell (k := 1) hyb rfl; have yy2 := blk_cell (k := 2) hyb rfl; have yy3 := blk_cell (k := 3) hyb rfl; have yy4 := blk_cell (k := 4) hyb rfl; clear hyb))
          exact ⟨⟨k + 1, gs', bs', ((o.set p ((R : Nat) : Int)).set g ((R2 : Nat) : Int)), hlt, by go_num, by rw [smsI_succ, fcsI_succ, HU.out.1, HU.out.2]; exact HT4.out.1.rws, HT4.out.2, HFW.out.1, HFW.out.2⟩, by simp [intOf]; omega⟩
    · have hkn : k = n := by omega
      subst hkn
      have q1 : ¬ ((k : Int) < k) := by omega
      have hfl : FwI l l.length gs (b :: bs') := by rw [HN.out]; exact hfw
      obtain ⟨rfl, b2, hb2, hset⟩ := hfl.last
      simp only [List.cons.injEq] at hb2
      obtain ⟨rfl, rfl⟩ := hb2
      rw [HN.out] at hset
      have hou := hop.top HL.out.2.1 (by rw [HN.out]; exact Nat.le_refl _) hset
      have q3 : (0 : Int) < (T : Int) + 1 := by omega
      have HLN : Hid (T + 1 = (bsI [b]).length) := by show _ = _; rw [bsI_len, ← hT]; rfl
      have HRW : Hid (∀ V, Below wr.heap.size wr V → Rws w.heap.size V [(.slice (some ⟨w.heap.size, 0, none⟩) k k, o), (.slice p1 G c1, gsI []), (.slice (some ⟨g2, 0, none⟩) (T + 1) c2, bsI [b]), (.slice (some ⟨g3, 0, none⟩) (k + 1) c3, smsI l k), (.slice (some ⟨g4, 0, none⟩) (k + 1) c4, fcsI l k)] ∧ Below w.heap.size w V) := fun V hV => ⟨hrw.below hV, hbw.trans (hV.mono hbw.size)⟩
      have HOL : Hid (o.length = k) := hop.len.trans HN.out
      cases b with
      | none =>
        have HE : Hid (OutP l l.length [] [] o) := by rw [HN.out]; exact hou
        have t2 : wr.cell? ⟨g2, 0, none⟩ = some (.int .i64 (-1)) := hrw.cell (k := 2) rfl HLN.out (bsI_top none [])
        clear HI hrw hbw hfw hop hfl hset hou hT hG hln
        go_wp2_with fail
        go_ret
        refine ⟨_, o, rfl, ⟨?_, HE.out⟩, (HRW.out wr (Below.refl _ _)).2⟩
        have := (HRW.out wr (Below.refl _ _)).1.row 0 _ rfl
        rw [← HOL.out]
        rw [← HOL.out] at this
        exact this
      | some p =>
        have HSP : Hid (Set1 l k p) := hset p rfl
        have hpk : p < k := HSP.out.1
        obtain ⟨R, hR⟩ : ∃ R, btw l p k = R := ⟨_, rfl⟩
        have hou' : OutP l k [] [] (o.set p ((btw l p k : Nat) : Int)) := hou
        rw [hR] at hou'
        have HE : Hid (OutP l l.length [] [] (o.set p ((R : Nat) : Int))) := by rw [HN.out]; exact hou'
        have t2 : wr.cell? ⟨g2, 0, none⟩ = some (.int .i64 p) := hrw.cell (k := 2) rfl HLN.out (bsI_top (some p) [])
        have q5 : (0 : Int) ≤ p := by omega
        have q6 : (p : Int) < k := by omega
        obtain ⟨old, hold⟩ : ∃ x, o[p]? = some x := ⟨_, List.getElem?_eq_getElem (by rw [HOL.out]; omega)⟩
        have HO : Hid (o[p]? = some old) := hold
        have KB : Hid (∀ V, Below wr.heap.size wr V → Calls Tryd.prog 48 #[.slice (some ⟨g3, 0, none⟩) (k + 1) c3, .slice (some ⟨g4, 0, none⟩) (k + 1) c4, .int .i64 p, .int .i64 k] V fun e w2 => e = .returned (.int .i64 (R : Nat)) ∧ Hid (Below wr.heap.size wr w2) ∧ w2.cell? ⟨g2, 0, none⟩ = some (.int .i64 p) ∧ w2.cell? ⟨w.heap.size, p, none⟩ = some (.int .i64 old) ∧ w2.frozen? ⟨w.heap.size, p, none⟩ = false ∧ (w2.setCell ⟨w.heap.size, p, none⟩ (.int .i64 (R : Nat))).cell? ⟨g2, 0, none⟩ = some (.int .i64 p)) := fun V hV => by
          have h1 := (HRW.out V hV).1
          rw [← hR]
          refine (between_any l p k (by omega) g3 g4 (k + 1) (k + 1) c3 c4 V ⟨hc3, hc3', by omega⟩ ⟨hc4, hc4', by omega⟩ (h1.cell (k := 3) rfl (by rw [smsI_len]) (smsI_at l (by omega))) (h1.cell (k := 3) rfl (by rw [smsI_len]) (smsI_at l (Nat.le_refl k))) (h1.cell (k := 4) rfl (by rw [fcsI_len]) (fcsI_at l (by omega))) (h1.cell (k := 4) rfl (by rw [fcsI_len]) (fcsI_at l (Nat.le_refl k))) (HL.out.2.1 k)).mono ?_
          rintro e w2 ⟨rfl, hb⟩
          have hb' : Below wr.heap.size wr w2 := hV.trans (hb.mono hV.size)
          have h2 := (HRW.out w2 hb').1
          exact ⟨rfl, hb', h2.cell (k := 2) rfl HLN.out (bsI_top (some p) []), h2.cell (k := 0) rfl HOL.out.symm HO.out, h2.frozen (k := 0) rfl HOL.out.symm p, (h2.store HOL.out.symm (k := 0) rfl p _).cell (k := 2) rfl HLN.out (bsI_top (some p) [])⟩
        clear HI hrw hbw hfw hop hfl hset hou hou' hT hG hln hold hR
        go_wp2_with fail
        go_region_held3 (fun w' => w'.cell? ⟨g2, 0, none⟩ = some (.int .i64 p)) (first | assumption | (exact t2) | go_keep) (first | (go_at_call 48; refine (KB.out _ (by first | exact (Below.refl _ _).drew | exact Below.refl _ _ | exact (Below.refl _ _).drew.drew | exact (Below.refl _ _).drew.drew.drew)).mono ?_; rintro e w2 ⟨rfl, HB2, y1, y2, y3, y5⟩))
        go_wp2_with fail
        go_ret
        have h4 := (HRW.out w2 HB2.out).1.store HOL.out.symm (k := 0) rfl p ((R : Nat) : Int)
        refine ⟨_, o.set p ((R : Nat) : Int), rfl, ⟨?_, HE.out⟩, (HRW.out w2 HB2.out).2.setCell (Nat.le_refl _) _⟩
        have h5 := h4.row 0 _ rfl
        exact h5
end Go.Proofs.YtcokccfbeonlnaaDoor
