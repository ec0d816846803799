import Derived.Test.YtkigadnkclkopaaGreatUq
import Derived.Test.YtkigadnkclkopaaGreatL1
import Derived.Test.YtkigadnkclkopaaGreatPb
import Derived.Test.YtkigadnkclkopaaGreatG9
set_option linter.unusedVariables false
set_option linter.unusedSimpArgs false
namespace Go.Proofs.YtkigadnkclkopaaGreat
open Go.RowKit

/-! The document's Program: its rows. -/
theorem dcom_any (t : Tv) (W : World) : Calls Tryz.prog 21 #[t.v] W fun r w' => r = .returned (.bool (cmm t)) ∧ Below W.heap.size W w' := by
  unfold cmm
  dsimp only [Tv.v]
  obtain ⟨b7, e7⟩ : ∃ b, (t.k == 7) = b := ⟨_, rfl⟩
  obtain ⟨b8, e8⟩ : ∃ b, (t.k == 8) = b := ⟨_, rfl⟩
  rw [e7, e8]
  cases b7
  · cases b8
    · go_enter Tryz.func21, Tryz.ntmps21
      go_wp2_with fail
      go_ret
      exact ⟨rfl, below_new _ _⟩
    · go_enter Tryz.func21, Tryz.ntmps21
      go_wp2_with fail
      go_ret
      exact ⟨rfl, below_new _ _⟩
  · go_enter Tryz.func21, Tryz.ntmps21
    go_wp2_with fail
    go_ret
    exact ⟨rfl, below_new _ _⟩
/-- A row of places. -/
def ics (l : List Nat) : List Value := l.map (fun n : Nat => Value.int .i64 (n : Int))
def Rj (W : World) (v : Value) (l : List Nat) : Prop := W.ownsRow 0 3 1 v l.length (ics l)
theorem rj_nil (W : World) : Rj W nilS [] := World.ownsRow_nil W 0 3 1
theorem Rj.kp {S : Nat → Prop} {W W' : World} {v : Value} {l : List Nat} (h : Rj W v l) (hk : Kp S W W') (hS : ∀ k, v.ownBlock = some k → ¬ S k) : Rj W' v l := hk.row h hS
theorem Rj.below {W W' : World} {v : Value} {l : List Nat} (h : Rj W v l) (hb : Below W.heap.size W W') : Rj W' v l := row_below h hb
theorem Rj.shape {W : World} {v : Value} {l : List Nat} (h : Rj W v l) : ∃ p cap, v = .slice p l.length cap ∧ l.length ≤ cap ∧ cap ≤ maxLen := row_shape h
theorem Rj.at {W : World} {v : Value} {l : List Nat} (h : Rj W v l) {i n : Nat} (hi : l[i]? = some n) : ∃ b cap, v = .slice (some ⟨b, 0, none⟩) l.length cap ∧ b < W.heap.size ∧ W.cell? ⟨b, i, none⟩ = some (.int .i64 (n : Int)) := by
  have hil := (List.getElem?_eq_some_iff.1 hi).1
  rcases h.2 with ⟨_, h0⟩ | ⟨b, cap, cur, rfl, _, h2, _⟩
  · omega
  · have := World.ownsRow.cells h (g := b) rfl i (.int .i64 (n : Int)) (by unfold ics; rw [List.getElem?_map, hi]; rfl)
    rw [Addr.add_lit, Nat.zero_add] at this
    exact ⟨b, cap, rfl, blk_lt h2, this⟩
theorem Rj.ne {W : World} {v : Value} {l : List Nat} (h : Rj W v l) {B : Nat} {u : Value} {m : List Tv} (h' : Rt B W u m) : ∀ k, v.ownBlock = some k → u.ownBlock ≠ some k := by
  intro k hk hu
  rcases h.2 with ⟨rfl, h0⟩ | ⟨b, cap, cur, rfl, hb, h3, _⟩
  · cases hk
  · simp only [Value.ownBlock, Option.some.injEq] at hk
    subst hk
    exact h'.ne h3 (by decide) _ hu rfl
theorem Tryz.info3 : (Tryz.prog.info? 3).map (fun i => (i.zero, i.size, i.bytes)) = some (some (.int .i64 0), 1, 8) := by kernel_rfl
theorem app_pl {W : World} {ops : Array Oper} {rest : List Oper} {o : Oper} {a : Act} {Q : Exit → Act → World → Prop} (hgd : o.guard = none) (s x : Operand)
    (ho : o.op = .call { callee := .builtin .append, args := #[s, x], argTypes := #[60, 60] }) (v : Value) (l : List Nat) (d : Nat) (hs : a.eval s = v) (hr : Rj W v l)
    (g c : Nat) (hx : a.eval x = .slice (some ⟨g, 0, none⟩) 1 c) (hg : W.heap[g]? = some (.cells #[.int .i64 (d : Int)] 3 (0, 0))) (hl : l.length ≤ 1000000000)
    (h : ∀ v' w', Rj w' v' (l ++ [d]) → Kp (fun k => v.ownBlock = some k) W w' → Nb W v v' → wpList Tryz.prog ops Q rest (a.put o.dst v') w') : wpList Tryz.prog ops Q (o :: rest) a W := by
  obtain ⟨i0, hi, hz0, hz1, hz2⟩ := info_parts Tryz.info3
  refine wpList_append_own_at (P := Tryz.prog) (w := W) hgd s x 60 ho 0 3 i0 _ 1 8 Tryz.underlying60 hi hz0 hz1 hz2 rfl (by decide) v _ _ hs hr ⟨g, 0, none⟩ 1 c [.int .i64 (d : Int)] hx rfl ?_ (by intro u hu; simp at hu; subst hu; rfl) (by unfold maxLen; omega) (by omega) (Nat.zero_le _) ?_
  · intro j u hu
    exact World.news_of_block hg j u (by simpa using hu)
  · intro v' w' h1 h2 _ h4
    refine h v' w' ?_ ((Kp.of_grown h2).sub (fun k e => e.symm)) ?_
    · unfold Rj
      rw [List.length_append]
      have : ics (l ++ [d]) = ics l ++ [.int .i64 (d : Int)] := by simp [ics]
      rw [this]
      exact h1
    · rcases h4 with h4 | h4
      · exact .inl h4
      · exact .inr ⟨_, h4, Nat.le_refl _⟩
/-- Where the tokens stand. -/
def plc : List Tv → Nat → List Nat
  | [], _ => []
  | t :: r, i => if cmm t then plc r (i + 1) else i :: plc r (i + 1)
theorem plc_app : ∀ (a b : List Tv) (i : Nat), plc (a ++ b) i = plc a i ++ plc b (i + a.length)
  | [], b, i => by simp [plc]
  | t :: a, b, i => by
    simp only [List.cons_append, plc]
    rw [plc_app a b (i + 1)]
    split
    · simp [Nat.add_assoc, Nat.add_comm 1]
    · simp [Nat.add_assoc, Nat.add_comm 1]
theorem plc_len : ∀ (l : List Tv) (i : Nat), (plc l i).length = (tks l).length
  | [], i => rfl
  | t :: r, i => by
    simp only [plc]
    cases hc : cmm t with
    | true => rw [if_pos rfl, toks_c hc]; exact plc_len r _
    | false => rw [if_neg (by decide), toks_t hc, List.length_cons, List.length_cons, plc_len r]
theorem plc_at : ∀ (l : List Tv) (i m : Nat), m < (tks l).length → (plc l i)[m]? = some (i + ps l m)
  | [], i, m, h => by simp [tks] at h
  | t :: r, i, m, h => by
    simp only [plc]
    cases hc : cmm t with
    | true =>
      rw [if_pos rfl, ps_c hc, plc_at r (i + 1) m (by rw [toks_c hc] at h; exact h)]
      congr 1
      omega
    | false =>
      rw [if_neg (by decide)]
      rw [toks_t hc] at h
      cases m with
      | zero => rw [ps_t0 hc]; rfl
      | succ m =>
        rw [ps_t hc, List.getElem?_cons_succ, plc_at r (i + 1) m (by simp at h; exact h)]
        congr 1
        omega
/-- Between two rounds: the tokens that are no comments, their places. -/
structure SI (W : World) (l : List Tv) (j : Nat) (v u : Value) (V : World) : Prop where
  bel : Below W.heap.size W V
  rt : Rt W.heap.size V v (tks (l.take j))
  rj : Rj V u (plc (l.take j) 0)
  uB : ∀ k, u.ownBlock = some k → W.heap.size ≤ k
  jl : j ≤ l.length
theorem tks_com {l : List Tv} {j : Nat} {t : Tv} (h : l[j]? = some t) (hc : cmm t = true) : tks (l.take (j + 1)) = tks (l.take j) ∧ plc (l.take (j + 1)) 0 = plc (l.take j) 0 := by
  have e : l.take (j + 1) = l.take j ++ [t] := by rw [List.take_add_one, h]; rfl
  rw [e, plc_app]
  simp [tks, plc, hc]
theorem tks_tok {l : List Tv} {j : Nat} {t : Tv} (h : l[j]? = some t) (hc : cmm t = false) : tks (l.take (j + 1)) = tks (l.take j) ++ [t] ∧ plc (l.take (j + 1)) 0 = plc (l.take j) 0 ++ [j] := by
  have hj : j < l.length := (List.getElem?_eq_some_iff.1 h).1
  have e : l.take (j + 1) = l.take j ++ [t] := by rw [List.take_add_one, h]; rfl
  have e2 : (l.take j).length = j := by rw [List.length_take]; omega
  rw [e, plc_app]
  simp [tks, plc, hc, e2]
theorem SI.com {W : World} {l : List Tv} {j : Nat} {v u : Value} {V V' : World} (h : SI W l j v u V) {t : Tv} (ht : l[j]? = some t) (hc : cmm t = true) (hb : Below V.heap.size V V') : SI W l (j + 1) v u V' := by
  obtain ⟨e1, e2⟩ := tks_com ht hc
  exact ⟨h.bel.trans (hb.mono h.bel.size), by rw [e1]; exact h.rt.below hb, by rw [e2]; exact h.rj.below hb, h.uB, (List.getElem?_eq_some_iff.1 ht).1⟩
/-- Behind the first append. -/
structure SJ (W : World) (l : List Tv) (j : Nat) (t : Tv) (v u : Value) (V : World) : Prop where
  bel : Below W.heap.size W V
  rt : Rt W.heap.size V v (tks (l.take j) ++ [t])
  rj : Rj V u (plc (l.take j) 0)
  uB : ∀ k, u.ownBlock = some k → W.heap.size ≤ k
theorem SI.app {W : World} {l : List Tv} {j : Nat} {v v' u : Value} {V V1 w : World} (h : SI W l j v u V) {t : Tv} (hb : Below V.heap.size V V1) (hr : Rt W.heap.size w v' (tks (l.take j) ++ [t])) (hk : V1.grownBy w v.ownBlock) : SJ W l j t v' u w := by
  have hk3 := Kp.of_grown hk
  have b1 := h.bel.trans (hb.mono h.bel.size)
  refine ⟨kp_low b1 hk3 (fun k e => h.rt.own k e.symm) b1.size, hr, (h.rj.below hb).kp hk3 (fun k e e2 => h.rj.ne h.rt k e e2.symm), h.uB⟩
theorem SJ.below {W : World} {l : List Tv} {j : Nat} {t : Tv} {v u : Value} {V V' : World} (h : SJ W l j t v u V) (hb : Below V.heap.size V V') : SJ W l j t v u V' := ⟨h.bel.trans (hb.mono h.bel.size), h.rt.below hb, h.rj.below hb, h.uB⟩
theorem SJ.app {W : World} {l : List Tv} {j : Nat} {t : Tv} {v u u' : Value} {V V1 w : World} (h : SJ W l j t v u V) (ht : l[j]? = some t) (hc : cmm t = false) (hb : Below V.heap.size V V1) (hr : Rj w u' (plc (l.take j) 0 ++ [j])) (hk : Kp (fun k => u.ownBlock = some k) V1 w) (hn : Nb V1 u u') : SI W l (j + 1) v u' w := by
  obtain ⟨e1, e2⟩ := tks_tok ht hc
  have h1 := h.below hb
  refine ⟨kp_low h1.bel hk h.uB h1.bel.size, by rw [e1]; exact h1.rt.kp hk (fun k e e3 => h1.rj.ne h1.rt k e3 e), by rw [e2]; exact hr, ?_, (List.getElem?_eq_some_iff.1 ht).1⟩
  intro k e
  rcases hn with e3 | ⟨q, e3, hq⟩
  · exact h.uB k (by rw [← e3]; exact e)
  · rw [e3] at e
    simp at e
    have := h1.bel.size
    omega

end Go.Proofs.YtkigadnkclkopaaGreat

set_option linter.unusedVariables false
set_option linter.unusedSimpArgs false
namespace Go.Proofs.YtkigadnkclkopaaGreat
open Go.RowKit

/-! The document's Program. -/
theorem rp_new (W : World) (x : Int × Nat) : Rp (W.alloc (.cells #[.int .u8 x.1, .int .i64 (x.2 : Int)] 69)) (.slice (some ⟨W.heap.size, 0, none⟩) 1 1) [x] := by
  refine ⟨rfl, .inr ⟨_, 1, _, rfl, Nat.zero_le _, new_at W _, Nat.le_refl _, by unfold maxLen; omega, rfl, ?_⟩⟩
  simp [scs, flat]
theorem re_rp {W : World} {v u : Value} {E : List Ev} {p : List (Int × Nat)} (h : Re W v E) (h' : Rp W u p) : ∀ k, v.ownBlock = some k → u.ownBlock ≠ some k := by
  intro k hk hu
  rcases h'.2 with ⟨rfl, h0⟩ | ⟨b, cap, cur, rfl, hb, h3, _⟩
  · cases hu
  · simp only [Value.ownBlock, Option.some.injEq] at hu
    subst hu
    exact h.ne h3 (by decide) _ hk rfl

/-- Between two rounds: what is told, the nodes of the last token. -/
structure EP (V0 : World) (l : List Tv) (E : List Ev) (j m : Nat) (ve vn : Value) (V : World) : Prop where
  bel : Below V0.heap.size V0 V
  ex : ∃ (F : List Ev) (p : List (Int × Nat)), Re V ve F ∧ Rp V vn p ∧ p.length ≤ 1000 ∧ E = F ++ rec14 (l.drop j) p ((pz E).drop m)
  vB : ∀ k, ve.ownBlock = some k → V0.heap.size ≤ k
  mm : m + (tks (l.drop j)).length = (pz E).length
  jl : j ≤ l.length
theorem dn_below {b : Nat} {w v : World} (h : Below b w v) : ∀ m, Below b w (v.drewN m)
  | 0 => h
  | m + 1 => (dn_below h m).drew
theorem Rq.at {S : Nat → Prop} {W : World} {v : Value} {ps : List (List (Int × Nat))} (h : Rq W v S ps) {i : Nat} {p : List (Int × Nat)} (hi : ps[i]? = some p) : ∃ b cap x, v = .slice (some ⟨b, 0, none⟩) ps.length cap ∧ b < W.heap.size ∧ W.cell? ⟨b, i, none⟩ = some x ∧ Rp W x p := by
  obtain ⟨xs, h1, h2, h3⟩ := h
  have hil := (List.getElem?_eq_some_iff.1 hi).1
  obtain ⟨x, hx⟩ : ∃ x, xs[i]? = some x := ⟨_, List.getElem?_eq_getElem (by omega)⟩
  have hc := fun g (hg : v.ownBlock = some g) => World.ownsRow.cells h2 hg
  rcases h2.2 with ⟨_, h0⟩ | ⟨b, cap, cur, rfl, _, hb, _⟩
  · omega
  · have := hc b rfl i x hx
    rw [Addr.add_lit, Nat.zero_add] at this
    exact ⟨b, cap, x, rfl, blk_lt hb, this, (h3 i x p hx hi).1⟩
theorem BI.kpush {W V V1 w3 : World} {v v' : Value} {E E' : List Ev} (h : BI W v E V) (hb : Below V.heap.size V V1) (hr : Re w3 v' E') (hk3 : Kp (fun k => v.ownBlock = some k) V1 w3) (hq : Nb V1 v v') : BI W v' E' w3 := by
  refine ⟨kp_low (h.bel.trans (hb.mono h.bel.size)) hk3 (fun k e => h.vB k e) (Nat.le_trans h.bel.size hb.size), hr, ?_⟩
  intro q e
  rcases hq with e1 | ⟨r, e1, hr1⟩
  · exact h.vB q (by rw [← e1]; exact e)
  · rw [e1] at e
    simp at e
    have := h.bel.size
    have := hb.size
    omega
theorem rec_note {l : List Tv} {j : Nat} {t : Tv} (ht : l[j]? = some t) (hc : cmm t = true) (p : List (Int × Nat)) (q : List (List (Int × Nat))) : rec14 (l.drop j) p q = ntE t :: rec14 (l.drop (j + 1)) p q ∧ tks (l.drop j) = tks (l.drop (j + 1)) := by
  obtain ⟨a1, a2⟩ := List.getElem?_eq_some_iff.1 ht
  rw [List.drop_eq_getElem_cons a1, a2]
  exact ⟨by rw [rec14, if_pos hc], toks_c hc⟩
theorem rec_tok {l : List Tv} {j : Nat} {t : Tv} (ht : l[j]? = some t) (hc : cmm t = false) (p q0 : List (Int × Nat)) (q : List (List (Int × Nat))) : rec14 (l.drop j) p (q0 :: q) = btw p q0 ++ ⟨2, 0, t⟩ :: rec14 (l.drop (j + 1)) q0 q ∧ (tks (l.drop j)).length = (tks (l.drop (j + 1))).length + 1 := by
  obtain ⟨a1, a2⟩ := List.getElem?_eq_some_iff.1 ht
  rw [List.drop_eq_getElem_cons a1, a2]
  exact ⟨by rw [rec14, if_neg (by rw [hc]; decide)]; rfl, by rw [toks_t hc]; rfl⟩
/-- The answer, written. -/
theorem prg_out {W V wz : World} {E : List Ev} {code : Int} {a : Nat} {n : Nd} {p : Option Addr} {cv : Nat} (hb : Below W.heap.size W V) (hr : V.heap[W.heap.size]? = some (NdB 0 tv0 (.slice none 0 0))) (ez : sets8 V W.heap.size n.k n.d (.slice p n.c.length cv) = wz) (ht : TN (fun j => W.heap.size < j) V n (.slice p n.c.length cv)) (h0 : code = 0 → bld E [] = some n) (h1 : code ≠ 0 → n = .mk 0 tv0 []) :
    Prg W E code a (.returned (.tuple #[ndv n.k n.d (.slice p n.c.length cv), .int .i64 code, .int .i64 ((if code = 0 then 0 else a : Nat) : Int)])) wz ∧ wz.heap[W.heap.size]? = some (NdB n.k n.d (.slice p n.c.length cv)) := by
  subst ez
  refine ⟨⟨kp_low hb (sets8_kp _ _ _ _ _) (fun j e => by omega) hb.size, n, p, cv, rfl, ?_, h0, h1⟩, sets8_at hr _ _ _⟩
  exact TN.sub (fun b _ h => by omega) _ _ (TN.kp (sets8_kp _ _ _ _ _) (fun b h1 h2 => by omega) _ _ ht)
theorem prg_drew {W : World} {E : List Ev} {code : Int} {a : Nat} {e : Ending} {w : World} (h : Prg W E code a e w) : Prg W E code a e w.drew := by
  obtain ⟨h1, n, p, cv, h2, h3, h4⟩ := h
  exact ⟨h1.drew, n, p, cv, h2, TN.kp (Kp.of_below (S := fun _ => False) (Below.refl _ _).drew) (fun _ _ h => h) _ _ h3, h4⟩
set_option maxRecDepth 100000 in
set_option maxHeartbeats 8000000 in
theorem doc_any {W : World} {ao : Option Addr} {l : List Tv} {cap : Nat} (hl : Lt W ao l) (hn : l.length ≤ 4194304) {E : List Ev} {code : Int} {a : Nat} (ha : Alr (.live [] 0) l E code a) :
    Calls Tryz.prog 7 #[.slice ao l.length cap] W (Prg W E code a) := by
  have HCm : Hid (∀ (t : Tv) V, Calls Tryz.prog 21 #[.agg #[.int .u8 t.k, .string t.t, .int .i64 t.a, .int .i64 t.l, .int .i64 t.c, .int .i64 t.f]] V fun r w' => r = .returned (.bool (cmm t)) ∧ Below V.heap.size V w') := dcom_any
  have HA : Hid (Alr (.live [] 0) l E code a) := ha
  obtain ⟨W1, eW1⟩ : ∃ W1, W.alloc (NdB 0 tv0 (.slice none 0 0)) = W1 := ⟨_, rfl⟩
  have H1 : Hid (Below W.heap.size W W1 ∧ W1.heap[W.heap.size]? = some (NdB 0 tv0 (.slice none 0 0))) := by rw [← eW1]; exact ⟨below_new _ _, new_at _ _⟩
  have HLt : Hid (∀ V, Below W1.heap.size W1 V → Lt V ao l) := fun V hb => (hl.below H1.out.1).below hb
  have HOut : Hid (∀ V, Below W1.heap.size W1 V → Below W.heap.size W V ∧ V.heap[W.heap.size]? = some (NdB 0 tv0 (.slice none 0 0)) ∧ W.heap.size < V.heap.size) := fun V hb => ⟨H1.out.1.trans (hb.mono H1.out.1.size), blk_below H1.out.2 hb, blk_lt (blk_below H1.out.2 hb)⟩
  clear hl ha
  go_enter Tryz.func7, Tryz.ntmps7
  go_wp2_with fail
  dsimp only [NdB, tv0] at eW1
  try rw [eW1]
  clear eW1
  go_loopw [5, 6, 7, 8] (fun v u i _ wr => ∃ j : Nat, i = .int .i64 j ∧ Hid (SI W1 l j v u wr)) (fun _ _ i _ _ => l.length - (intOf i).toNat)
  case atStart => exact ⟨0, rfl, Below.refl _ _, by simpa [tks] using rt_nil _ _, by simpa [plc] using rj_nil _, (fun k e => by cases e), Nat.zero_le _⟩
  case round =>
    obtain ⟨j, rfl, HJ⟩ := hrel
    have hjl0 := HJ.out.jl
    obtain ⟨pt5, ct5, hu5, _, _⟩ := HJ.out.rt.shape
    obtain ⟨pu6, cu6, hu6, _, _⟩ := HJ.out.rj.shape
    have e5 : (tks (l.take j)).length ≤ 4194304 := by
      have := tks_le (l.take j)
      rw [List.length_take] at this
      omega
    have e6 : (plc (l.take j) 0).length ≤ 4194304 := by rw [plc_len]; exact e5
    by_cases hjl : j < l.length
    · obtain ⟨t, ht⟩ : ∃ t, l[j]? = some t := ⟨_, List.getElem?_eq_getElem hjl⟩
      obtain ⟨bb, off, rfl, y0, y1, y2, y3, y4, y5⟩ := HLt.out wr HJ.out.bel j t ht
      have yl := World.block_lt_of_cell? _ _ y0
      have z1 : (j : Int) < l.length := by omega
      have z3 : (0 : Int) ≤ j := by omega
      have HLt' : Hid (∀ V, Below W1.heap.size W1 V → Lt V (some ⟨bb, off, none⟩) l) := HLt.out
      obtain ⟨k5, hk5⟩ : ∃ k5, (tks (l.take j)).length = k5 := ⟨_, rfl⟩
      obtain ⟨k6, hk6⟩ : ∃ k6, (plc (l.take j) 0).length = k6 := ⟨_, rfl⟩
      rw [hk5] at hu5
      rw [hk6] at hu6
      subst hu5 hu6
      have HT := show Hid _ from ht
      clear ht
      go_wp2_with fail
      refine (HCm.out t _).mono ?_
      rintro r w1 ⟨rfl, hb1⟩
      have HB1 := show Hid _ from hb1
      clear hb1 y0 y1 y2 y3 y4 y5 yl
      cases hc : cmm t with
      | true =>
        go_wp2_with fail
        exact ⟨⟨j + 1, by go_num, HJ.out.com HT.out hc HB1.out⟩, by simp [intOf]; omega⟩
      | false =>
        have hbx : Below W1.heap.size W1 w1 := HJ.out.bel.trans (HB1.out.mono HJ.out.bel.size)
        obtain ⟨bb2, off2, eb, y0, y1, y2, y3, y4, y5⟩ := HLt'.out w1 hbx j t HT.out
        cases eb
        have yl := World.block_lt_of_cell? _ _ y0
        have HR5 : Hid (∀ V, Below wr.heap.size wr V → Rt W1.heap.size V (.slice pt5 k5 ct5) (tks (l.take j)) ∧ W1.heap.size ≤ V.heap.size) := fun V hb => ⟨HJ.out.rt.below hb, Nat.le_trans HJ.out.bel.size hb.size⟩
        have HN1 : Hid (∀ o, Below wr.heap.size wr (w1.alloc o)) := fun o => HB1.out.trans ((below_new w1 o).mono HB1.out.size)
        have HX5 : Hid (∀ V v' w, Below wr.heap.size wr V → Rt W1.heap.size w v' (tks (l.take j) ++ [t]) → V.grownBy w (Value.slice pt5 k5 ct5).ownBlock → SJ W1 l j t v' (.slice pu6 k6 cu6) w) := fun V v' w h1 h2 h3 => HJ.out.app h1 h2 h3
        clear hbx
        go_upto_region 9 with (at_builtin; refine app_tok (by rfl) _ _ (by rfl) W1.heap.size (.slice pt5 k5 ct5) (tks (l.take j)) t (by rfl) (HR5.out _ (HN1.out _)).1 w1.heap.size 1 (by rfl) (new_at _ _) (by omega) (HR5.out _ (HN1.out _)).2 ?_; intro v6 w6 hr6 hb6 hg6 _; have HW6 := show Hid _ from HX5.out _ v6 w6 (HN1.out _) hr6 hg6; obtain ⟨p6, c6, hv6, _⟩ := hr6.shape; rw [List.length_append, List.length_singleton, hk5] at hv6; subst hv6; clear hr6 hb6 hg6)
        have HS6 : Hid (∀ o v' w, Rj w v' (plc (l.take j) 0 ++ [j]) → Kp (fun k => (Value.slice pu6 k6 cu6).ownBlock = some k) (w6.alloc o) w → Nb (w6.alloc o) (.slice pu6 k6 cu6) v' → SI W1 l (j + 1) (.slice p6 (k5 + 1) c6) v' w) := fun o v' w h1 h2 h3 => HW6.out.app HT.out hc (below_new _ _) h1 h2 h3
        go_wp2_with (at_builtin; refine app_pl (by rfl) _ _ (by rfl) (.slice pu6 k6 cu6) (plc (l.take j) 0) j (by rfl) (HW6.out.rj.below (below_new _ _)) w6.heap.size 1 (by rfl) (new_at _ _) (by omega) ?_; intro v7 w7 h1 h2 h3; have HW7 := show Hid _ from HS6.out _ v7 w7 h1 h2 h3; obtain ⟨p7, c7, hv7, _⟩ := h1.shape; rw [List.length_append, List.length_singleton, hk6] at hv7; subst hv7; clear h1 h2 h3)
        exact ⟨⟨j + 1, by go_num, HW7.out⟩, by simp [intOf]; omega⟩
    · obtain rfl : j = l.length := by omega
      have z1 : ¬ ((l.length : Int) < l.length) := by omega
      have hrt := HJ.out.rt
      have hrj := HJ.out.rj
      rw [List.take_length] at hrt hrj e5 e6
      obtain ⟨p7, c7, hu7, hlt7, _, _, _⟩ := Lt.row hrt
      have HRd : Hid (Calls Tryz.prog 22 #[.slice p7 (tks l).length c7, .bool true] wr fun e w' => e = .returned (pt wr.heap.size) ∧ RdO ⟨wr, p7, c7, tks l, wr.heap.size⟩ (fun j => (nts l j).map ntE) w') := read_doc _ (fun j e he => by obtain ⟨c, _, rfl⟩ := List.mem_map.1 he; rfl) p7 c7 (tks l) wr hlt7 e5
      have HWr : Hid (Below W1.heap.size W1 wr) := HJ.out.bel
      obtain ⟨k7, hk7⟩ : ∃ k7, (tks l).length = k7 := ⟨_, rfl⟩
      have hu6' : u6 = .slice pu6 k7 cu6 := by rw [hu6, plc_len, List.take_length, hk7]
      rw [hu6'] at hrj
      have HRj : Hid (Rj wr (.slice pu6 k7 cu6) (plc l 0)) := hrj
      have HUB : Hid (∀ k, (Value.slice pu6 k7 cu6).ownBlock = some k → W1.heap.size ≤ k) := by have := HJ.out.uB; rw [hu6'] at this; exact this
      rw [hk7] at hu7 HRd
      clear hu5
      subst hu7 hu6'
      clear hrt hrj hlt7 HJ hu6
      go_wp2_with fail
      refine HRd.out.mono ?_
      rintro r w8 ⟨rfl, dz, d', hz1, hz2, hz3⟩
      obtain ⟨n1, n2, n3⟩ := doc_ans HA.out hz1 hz2
      have hb8 := hz3.bel
      have HB8 : Hid (Below W1.heap.size W1 w8) := HWr.out.trans (hb8.mono HWr.out.size)
      obtain ⟨vp, vq, vl, hv⟩ := hz3.rv
      obtain ⟨c0, c1, c2, c3, c4, c5, c6, c7'⟩ := hv.rb.cells
      have cl := hv.rb.lt
      dsimp only [Rx.g] at c0 c1 c2 c3 c4 c5 c6 c7' cl
      rw [n1] at c7'
      obtain ⟨HO1, HO2, HO3⟩ := HOut.out w8 HB8.out
      obtain ⟨⟨x0, x1, x2, x3, x4, x5, x6, x7⟩, xl⟩ := nd_cells HO2
      obtain ⟨f0, f1, f2, f3, f4, f5, f6, f7⟩ := nd_frozen HO2
      by_cases hcd : code = 0
      · subst hcd
        obtain ⟨r1, r2, r3⟩ := alr_doc HA.out
        have hEl : E.length ≤ 100000000 := by have := alr_len HA.out; omega
        have HR : Hid (∀ V, Below w8.heap.size w8 V → Rq V vq (fun _ => True) (pz E)) := fun V hb => by
          have := hv.rq
          rw [n3 rfl] at this
          exact (this.below hb).sub (fun _ _ _ => trivial)
        have HRB : Hid (∀ V, Below w8.heap.size w8 V → V.cell? ⟨wr.heap.size, 5, none⟩ = some vq ∧ wr.heap.size < V.heap.size) := fun V hb => ⟨blk_cell (blk_below hv.rb hb) (k := 5) rfl, blk_lt (blk_below hv.rb hb)⟩
        have HE0 : Hid (EP w8 l E 0 0 (.slice (some ⟨w8.heap.size, 0, none⟩) 1 1) (.slice (some ⟨w8.heap.size + 1, 0, none⟩) 1 1) ((w8.alloc (EvB 1 1 tv0)).alloc (.cells #[.int .u8 1, .int .i64 1] 69))) := by
          have b1 := below_new w8 (EvB 1 1 tv0)
          have b2 := below_new (w8.alloc (EvB 1 1 tv0)) (.cells #[.int .u8 1, .int .i64 1] 69)
          have hp := rp_new (w8.alloc (EvB 1 1 tv0)) (1, 1)
          rw [World.size_alloc] at hp
          exact ⟨b1.trans (b2.mono b1.size), ⟨[⟨1, 1, tv0⟩], [(1, 1)], (re_new w8 ⟨1, 1, tv0⟩).below b2, hp, by decide, r1⟩, (fun k e => by cases e; exact Nat.le_refl _), by rw [r2]; simp, Nat.zero_le _⟩
        have HP1 : Hid (∀ q ∈ pz E, q.length ≤ 1000) := r3
        have HPL : Hid ((pz E).length ≤ 4194304) := by rw [r2]; exact e5
        have HEl := show Hid _ from hEl
        clear hz1 hz2 hz3 hv hb8 c0 c1 c2 c3 c4 c5 c6 n1 n2 n3 HO1 HO2 r1 r2 r3 x0 x1 x2 x3 x4 x5 x6 x7 f0 f1 f2 f3 f4 f5 f6 f7
        go_wp2_with fail
        go_loopw [10, 11, 12, 13, 14] (fun ve vn nv iv _ wr => ∃ j m : Nat, iv = .int .i64 j ∧ nv = .int .i64 m ∧ Hid (EP w8 l E j m ve vn wr)) (fun _ _ _ iv _ _ => l.length - (intOf iv).toNat)
        case atStart => exact ⟨0, 0, rfl, rfl, HE0.out⟩
        case round =>
          obtain ⟨j, m, rfl, rfl, HJ⟩ := hrel
          obtain ⟨F, p, hre, hrp, hpl, hEq⟩ := HJ.out.ex
          have hFl : F.length ≤ 100000000 := by
            have := congrArg List.length hEq
            have := HEl.out
            simp only [List.length_append] at *
            omega
          have hjl0 := HJ.out.jl
          have hmm := HJ.out.mm
          obtain ⟨pF, cF, hF, _, _⟩ := hre.shape
          obtain ⟨pN, cN, hN, _, _⟩ := hrp.shape
          have HBI : Hid (BI w8 (.slice pF F.length cF) F wr) := by rw [← hF]; exact ⟨HJ.out.bel, hre, HJ.out.vB⟩
          have HRp : Hid (Rp wr (.slice pN p.length cN) p) := by rw [← hN]; exact hrp
          have HEq := show Hid _ from hEq
          subst hF hN
          clear hre hrp hEq
          by_cases hjl : j < l.length
          · obtain ⟨t, ht⟩ : ∃ t, l[j]? = some t := ⟨_, List.getElem?_eq_getElem hjl⟩
            have hW1 : Below W1.heap.size W1 wr := HB8.out.trans (HJ.out.bel.mono HB8.out.size)
            obtain ⟨bb, off, rfl, y0, y1, y2, y3, y4, y5⟩ := HLt.out wr hW1 j t ht
            have yl := World.block_lt_of_cell? _ _ y0
            have z1 : (j : Int) < l.length := by omega
            have z3 : (0 : Int) ≤ j := by omega
            have HT := show Hid _ from ht
            have HLt' : Hid (∀ V, Below W1.heap.size W1 V → Lt V (some ⟨bb, off, none⟩) l) := HLt.out
            clear ht hW1
            go_wp2_with fail
            refine (HCm.out t _).mono ?_
            rintro r w1 ⟨rfl, hb1⟩
            have HB1 := show Hid _ from hb1
            clear hb1 y0 y1 y2 y3 y4 y5 yl
            have hbx : Below W1.heap.size W1 w1 := by
              have q := HB8.out.trans (HJ.out.bel.mono HB8.out.size)
              exact q.trans (HB1.out.mono q.size)
            obtain ⟨bb2, off2, eb, y0, y1, y2, y3, y4, y5⟩ := HLt'.out w1 hbx j t HT.out
            cases eb
            have yl := World.block_lt_of_cell? _ _ y0
            clear hbx
            cases hc : cmm t with
            | true =>
              obtain ⟨e1, e2⟩ := rec_note HT.out hc p ((pz E).drop m)
              have HN1 : Hid (∀ o v' w', Re w' v' (F ++ [ntE t]) → (w1.alloc o).grownBy w' (Value.slice pF F.length cF).ownBlock → Nb (w1.alloc o) (.slice pF F.length cF) v' → EP w8 l E (j + 1) m v' (.slice pN p.length cN) w') := fun o v' w' h1 h2 h3 => by
                have hb : Below wr.heap.size wr (w1.alloc o) := HB1.out.trans ((below_new w1 o).mono HB1.out.size)
                have hk : Kp (fun k => (Value.slice pF F.length cF).ownBlock = some k) (w1.alloc o) w' := (Kp.of_grown h2).sub (fun k e => e.symm)
                have b := HBI.out.kpush hb h1 hk h3
                refine ⟨b.bel, ⟨_, p, b.re, (HRp.out.below hb).kp hk (fun k e1 e2 => re_rp (HBI.out.re.below hb) (HRp.out.below hb) k e2 e1), hpl, ?_⟩, b.vB, by rw [← e2]; exact hmm, hjl⟩
                have := HEq.out
                rw [e1] at this
                rw [List.append_assoc]
                exact this
              have HR1 : Hid (∀ o, Re (w1.alloc o) (.slice pF F.length cF) F) := fun o => HBI.out.re.below (HB1.out.trans ((below_new w1 o).mono HB1.out.size))
              clear e1 e2
              go_wp2_with (at_builtin; refine app_ev (by rfl) _ _ (by rfl) (.slice pF F.length cF) F (ntE t) (by rfl) (HR1.out _) w1.heap.size 1 (by rfl) (new_at _ _) (by omega) ?_; intro v6 w6 h1 h2 h3; have H6 := show Hid _ from HN1.out _ v6 w6 h1 h2 h3; obtain ⟨p6, c6, hv6, _⟩ := h1.shape; rw [List.length_append, List.length_singleton] at hv6; subst hv6; clear h1 h2 h3)
              exact ⟨⟨j + 1, m, by go_num, rfl, H6.out⟩, by simp [intOf]; omega⟩
            | false =>
              have hml : m < (pz E).length := by
                have := (rec_tok HT.out hc p [] []).2
                omega
              obtain ⟨q0, hq0⟩ : ∃ q0, (pz E)[m]? = some q0 := ⟨_, List.getElem?_eq_getElem hml⟩
              have hdq : (pz E).drop m = q0 :: (pz E).drop (m + 1) := by
                obtain ⟨a1, a2⟩ := List.getElem?_eq_some_iff.1 hq0
                rw [List.drop_eq_getElem_cons a1, a2]
              obtain ⟨e1, e2⟩ := rec_tok HT.out hc p q0 ((pz E).drop (m + 1))
              have hq1 : q0.length ≤ 1000 := HP1.out q0 (List.mem_of_getElem? hq0)
              have hw8 : Below w8.heap.size w8 w1 := HJ.out.bel.trans (HB1.out.mono HJ.out.bel.size)
              obtain ⟨bq, cq, xq, evq, hbq, hcq, hrq⟩ := (HR.out w1 hw8).at hq0
              obtain ⟨px, cx, hxq, _, _⟩ := hrq.shape
              subst evq hxq
              obtain ⟨g5, g6⟩ := HRB.out w1 hw8
              have HBt : Hid (Calls Tryz.prog 23 #[.slice pN p.length cN, .slice px q0.length cx] w1 fun e w' => ∃ v, e = .returned v ∧ Re w' v (btw p q0) ∧ Below w1.heap.size w1 w' ∧ (∀ k, v.ownBlock = some k → w1.heap.size ≤ k)) := between_any _ _ p q0 w1 (HRp.out.below HB1.out) hrq (by omega) (by omega)
              have hbl : (btw p q0).length ≤ 2000 := by unfold btw; simp; omega
              have z4 : (0 : Int) ≤ m := by omega
              have z6 : (m : Int) ≤ 4194304 := by have := HPL.out; omega
              have z5 : (m : Int) < (pz E).length := by omega
              have HW8 : Hid (Below w8.heap.size w8 w1) := hw8
              have HQ0 : Hid ((pz E)[m]? = some q0) := hq0
              have HRQ : Hid (Rq w1 (.slice (some ⟨bq, 0, none⟩) (pz E).length cq) (fun _ => True) (pz E)) := HR.out w1 hw8
              have HB9 : Hid (∀ V v', BI w8 v' ((F ++ btw p q0) ++ [⟨2, 0, t⟩]) V → ∀ x, Rp V x q0 → EP w8 l E (j + 1) (m + 1) v' x V) := fun V v' b x hx => by
                refine ⟨b.bel, ⟨_, q0, b.re, hx, hq1, ?_⟩, b.vB, by rw [e2] at hmm; omega, hjl⟩
                have := HEq.out
                rw [hdq, e1] at this
                simp only [List.append_assoc, List.singleton_append]
                exact this
              clear hrq hw8 e1 e2 hdq hq0
              go_wp2_with fail
              refine HBt.out.mono ?_
              rintro r w9 ⟨v9, rfl, hre9, hb9, hv9⟩
              obtain ⟨p9, c9, hv9', _, _⟩ := hre9.shape
              subst hv9'
              have hbw : Below wr.heap.size wr w9 := HB1.out.trans (hb9.mono HB1.out.size)
              have HRF : Hid (Re w9 (.slice pF F.length cF) F) := HBI.out.re.below hbw
              have HR9 := show Hid _ from hre9
              have HK9 : Hid (∀ v' w', Re w' v' (F ++ btw p q0) → Kp (fun k => (Value.slice pF F.length cF).ownBlock = some k) w9 w' → Nb w9 (.slice pF F.length cF) v' → BI w8 v' (F ++ btw p q0) w') := fun v' w' h1 h2 h3 => HBI.out.kpush hbw h1 h2 h3
              clear hre9 hb9 hv9 hbw y0 y1 y2 y3 y4 y5 yl g5 g6 hcq hbq
              go_upto_region 25 with (at_builtin; refine app_evs (by rfl) _ _ (by rfl) (.slice pF F.length cF) (.slice p9 (btw p q0).length c9) F (btw p q0) (by rfl) HRF.out (by rfl) HR9.out (by omega) ?_; intro v10 w10 h1 h2 h3; have H10 := show Hid _ from HK9.out v10 w10 h1 h2 h3; obtain ⟨p10, c10, hv10, _⟩ := h1.shape; rw [List.length_append] at hv10; subst hv10; clear h1 h2 h3)
              have hx10 : Below W1.heap.size W1 w10 := HB8.out.trans (H10.out.bel.mono HB8.out.size)
              obtain ⟨bb2, off2, eb, y0, y1, y2, y3, y4, y5⟩ := HLt'.out w10 hx10 j t HT.out
              cases eb
              have yl := World.block_lt_of_cell? _ _ y0
              have HK10 : Hid (∀ o v' w', Re w' v' ((F ++ btw p q0) ++ [⟨2, 0, t⟩]) → (w10.alloc o).grownBy w' (Value.slice p10 (F.length + (btw p q0).length) c10).ownBlock → Nb (w10.alloc o) (.slice p10 (F.length + (btw p q0).length) c10) v' → BI w8 v' ((F ++ btw p q0) ++ [⟨2, 0, t⟩]) w') := fun o v' w' h1 h2 h3 => H10.out.kpush (below_new _ _) h1 ((Kp.of_grown h2).sub (fun k e => e.symm)) h3
              have HRe10 : Hid (∀ o, Re (w10.alloc o) (.slice p10 (F.length + (btw p q0).length) c10) (F ++ btw p q0)) := fun o => H10.out.re.below (below_new _ _)
              have hl10 : (F ++ btw p q0).length ≤ 1000000000 := by rw [List.length_append]; omega
              clear hx10
              go_upto_region 26 with (at_builtin; refine app_ev (by rfl) _ _ (by rfl) (.slice p10 (F.length + (btw p q0).length) c10) (F ++ btw p q0) ⟨2, 0, t⟩ (by rfl) (HRe10.out _) w10.heap.size 1 (by rfl) (new_at _ _) hl10 ?_; intro v11 w11 h1 h2 h3; have H11 := show Hid _ from HK10.out _ v11 w11 h1 h2 h3; obtain ⟨p11, c11, hv11, _⟩ := h1.shape; rw [List.length_append, List.length_append, List.length_singleton] at hv11; subst hv11; clear h1 h2 h3)
              obtain ⟨g5, g6⟩ := HRB.out w11 H11.out.bel
              obtain ⟨bq2, cq2, xq2, evq, hbq, hcq, hrq⟩ := (HR.out w11 H11.out.bel).at HQ0.out
              obtain ⟨px2, cx2, hxq, _, _⟩ := hrq.shape
              cases evq
              subst hxq
              have HFin := show Hid _ from HB9.out w11 _ H11.out _ hrq
              clear hrq y0 y1 y2 y3 y4 y5 yl
              go_wp2_with fail
              exact ⟨⟨j + 1, m + 1, by go_num, by go_num, HFin.out⟩, by simp [intOf]; omega⟩
          · obtain rfl : j = l.length := by omega
            have z1 : ¬ ((l.length : Int) < l.length) := by omega
            have HBt : Hid (Calls Tryz.prog 23 #[.slice pN p.length cN, .slice none 0 0] wr fun e w' => ∃ v, e = .returned v ∧ Re w' v (btw p []) ∧ Below wr.heap.size wr w' ∧ (∀ k, v.ownBlock = some k → wr.heap.size ≤ k)) := between_any _ _ p [] wr HRp.out (rp_nil _) (by omega) (by simp)
            have hE1 : E = F ++ btw p [] := by
              have := HEq.out
              rw [List.drop_length] at this
              exact this
            have hbl : (btw p []).length ≤ 2000 := by unfold btw; simp; omega
            go_wp2_with fail
            refine HBt.out.mono ?_
            rintro r w9 ⟨v9, rfl, hre9, hb9, hv9⟩
            obtain ⟨p9, c9, hv9', _, _⟩ := hre9.shape
            subst hv9'
            have HRF : Hid (Re w9 (.slice pF F.length cF) F) := HBI.out.re.below hb9
            have HR9 := show Hid _ from hre9
            have HK9 : Hid (∀ v' w', Re w' v' (F ++ btw p []) → Kp (fun k => (Value.slice pF F.length cF).ownBlock = some k) w9 w' → Nb w9 (.slice pF F.length cF) v' → BI w8 v' E w') := fun v' w' h1 h2 h3 => by
              have := HBI.out.kpush hb9 h1 h2 h3
              rw [← hE1] at this
              exact this
            have hE2 : F.length + (btw p []).length = E.length := by have := congrArg List.length hE1; rw [List.length_append] at this; omega
            clear hre9 hb9 hv9 hE1
            go_upto_region 29 with (at_builtin; refine app_evs (by rfl) _ _ (by rfl) (.slice pF F.length cF) (.slice p9 (btw p []).length c9) F (btw p []) (by rfl) HRF.out (by rfl) HR9.out (by omega) ?_; intro v10 w10 h1 h2 h3; have H10 := show Hid _ from HK9.out v10 w10 h1 h2 h3; obtain ⟨p10, c10, hv10, _⟩ := h1.shape; rw [List.length_append, hE2] at hv10; subst hv10; clear h1 h2 h3)
            obtain ⟨p11, c11, e11, hle11, _, _, _⟩ := Le.row H10.out.re
            cases e11
            obtain ⟨cc, hb0, _, _⟩ := alr_tree HA.out
            have HBd : Hid (Calls Tryz.prog 24 #[.slice p10 E.length c10] w10 (BdP E w10)) := rbuild_any E w10 p10 c10 hle11 (by omega)
            have HBo : Hid (bo E = (.mk 1 tv0 cc, 0) ∧ bld E [] = some (.mk 1 tv0 cc)) := ⟨bo_some hb0, hb0⟩
            clear hle11 hb0
            go_wp2_with fail
            refine HBd.out.mono ?_
            rintro x w12 ⟨sv, hx, htn, hb12⟩
            rw [HBo.out.1] at hx htn
            obtain ⟨p12, c12, rfl, _⟩ := tn_shape htn
            subst hx
            dsimp only [Nd.k, Nd.d, Nd.c] at htn ⊢
            obtain ⟨W13, e13⟩ : ∃ W13, w12.alloc (NdB 1 tv0 (.slice p12 cc.length c12)) = W13 := ⟨_, rfl⟩
            have hb10 : Below W1.heap.size W1 w10 := HB8.out.trans (H10.out.bel.mono HB8.out.size)
            have hb13 : Below w12.heap.size w12 W13 := by rw [← e13]; exact below_new _ _
            have ht13 : W13.heap[w12.heap.size]? = some (NdB 1 tv0 (.slice p12 cc.length c12)) := by rw [← e13]; exact new_at _ _
            have hbb : Below W1.heap.size W1 W13 := by
              have q := hb10.trans (hb12.mono hb10.size)
              exact q.trans (hb13.mono q.size)
            obtain ⟨HO1, HO2, HO3'⟩ := HOut.out W13 hbb
            obtain ⟨⟨x0, x1, x2, x3, x4, x5, x6, x7⟩, xl'⟩ := nd_cells HO2
            obtain ⟨f0, f1, f2, f3, f4, f5, f6, f7⟩ := nd_frozen HO2
            obtain ⟨⟨t0, t1, t2, t3, t4, t5, t6, t7⟩, tl'⟩ := nd_cells ht13
            have HPr : Hid (∀ wz, sets8 W13 W.heap.size 1 tv0 (.slice p12 cc.length c12) = wz → Prg W E 0 a (.returned (.tuple #[ndv 1 tv0 (.slice p12 cc.length c12), .int .i64 0, .int .i64 0])) wz ∧ wz.heap[W.heap.size]? = some (NdB 1 tv0 (.slice p12 cc.length c12))) := fun wz ez => by
              have hw : W.heap.size < w10.heap.size := (HOut.out w10 hb10).2.2
              have htn2 : TN (fun j => W.heap.size < j) W13 (.mk 1 tv0 cc) (.slice p12 cc.length c12) := TN.sub (fun k _ h => by omega) _ _ (TN.kp (Kp.of_below (S := fun _ => False) hb13) (fun _ _ h => h) _ _ htn)
              exact prg_out (E := E) (code := 0) (a := a) (n := .mk 1 tv0 cc) HO1 HO2 ez htn2 (fun _ => HBo.out.2) (fun h => absurd rfl h)
            dsimp only [NdB, tv0] at e13
            dsimp only [tv0] at t0 t1 t2 t3 t4 t5 t6 t7
            clear htn hb12 hb10 hb13 ht13 hbb HO1 HO2
            try dsimp only [ndv, tv0]
            go_upto_region 30 with fail
            try rw [e13]
            clear e13
            go_wp2_with fail
            obtain ⟨wz, ez⟩ : ∃ wz, sets8 W13 W.heap.size 1 tv0 (.slice p12 cc.length c12) = wz := ⟨_, rfl⟩
            obtain ⟨g1, g2⟩ := HPr.out wz ez
            dsimp only [sets8, tv0] at ez
            rw [ez]
            obtain ⟨⟨x0, x1, x2, x3, x4, x5, x6, x7⟩, xl⟩ := nd_cells g2
            refine bodyPost_ret (v := .tuple #[ndv 1 tv0 (.slice p12 cc.length c12), .int .i64 0, .int .i64 0]) (by simp [results, Tryz.f7, go_sem, x0, x1, x2, x3, x4, x5, x6, x7]) rfl ?_
            exact g1
      · obtain ⟨m1, m2⟩ := alr_at good_new ini_new HA.out hcd
        have HPr : Hid (∀ wz, sets8 w8 W.heap.size 0 tv0 (.slice none 0 0) = wz → Prg W E code a (.returned (.tuple #[ndv 0 tv0 (.slice none 0 0), .int .i64 code, .int .i64 (a : Int)])) wz.drew ∧ wz.drew.heap[W.heap.size]? = some (NdB 0 tv0 (.slice none 0 0))) := fun wz ez => by
          have := prg_out (E := E) (code := code) (a := a) (n := .mk 0 tv0 []) (p := none) (cv := 0) HO1 HO2 ez (tn_nil _ _ _ _) (fun h => absurd h hcd) (fun _ => rfl)
          rw [if_neg hcd] at this
          exact ⟨prg_drew this.1, blk_below this.2 (Below.refl _ _).drew⟩
        have hne : wr.heap.size ≠ W.heap.size := by have := HWr.out.size; have := blk_lt H1.out.2; omega
        have hk8 := sets8_kp w8 W.heap.size 0 tv0 (.slice none 0 0)
        have d7 : (sets8 w8 W.heap.size 0 tv0 (.slice none 0 0)).cell? ⟨wr.heap.size, 7, none⟩ = some (.int .i64 code) := by
          have := blk_cell (hk8.blk hv.rb hne) (k := 7) rfl
          rw [n1] at this
          exact this
        have d1 : (sets8 w8 W.heap.size 0 tv0 (.slice none 0 0)).cell? ⟨wr.heap.size, 1, none⟩ = some (.int .i64 (d'.i : Int)) := blk_cell (hk8.blk hv.rb hne) (k := 1) rfl
        dsimp only [sets8, tv0] at d7 d1
        by_cases h121 : code = 121
        · obtain rfl : a = l.length := m1.1 h121
          subst h121
          clear hz1 hz2 hz3 hv hb8 c0 c1 c2 c3 c4 c5 c6 n1 n2 n3 HO1 HO2 m1 m2 hcd
          go_wp2_with fail
          go_region_law (fail)
          all_goals (
            go_wp2_with fail
            obtain ⟨wz, ez⟩ : ∃ wz, sets8 w8 W.heap.size 0 tv0 (.slice none 0 0) = wz := ⟨_, rfl⟩
            obtain ⟨g1, g2⟩ := HPr.out wz ez
            dsimp only [sets8, tv0] at ez
            rw [ez]
            obtain ⟨⟨x0, x1, x2, x3, x4, x5, x6, x7⟩, xl⟩ := nd_cells g2
            refine bodyPost_ret (v := .tuple #[ndv 0 tv0 (.slice none 0 0), .int .i64 121, .int .i64 (l.length : Int)]) (by simp [results, Tryz.f7, go_sem, x0, x1, x2, x3, x4, x5, x6, x7]) rfl ?_
            exact g1)
        · have y1 : (code == 121) = false := by simpa using h121
          have y2 : (code != 0) = true := by simpa using hcd
          have hlt : a < l.length := by
            have : a ≠ l.length := fun h => h121 (m1.2 h)
            omega
          have hlt2 : d'.i < (tks l).length := ps_lt.1 (by rw [← n2 hcd]; exact hlt)
          obtain ⟨bj, cj, ej, hjl, hj2⟩ := (HRj.out.below hb8).at (plc_at l 0 d'.i hlt2)
          rw [Nat.zero_add, ← n2 hcd] at hj2
          rw [plc_len, hk7] at ej
          have ej' : pu6 = some ⟨bj, 0, none⟩ := by injection ej
          subst ej'
          have hjc : (sets8 w8 W.heap.size 0 tv0 (.slice none 0 0)).cell? ⟨bj, d'.i, none⟩ = some (.int .i64 (a : Int)) := by
            have hbn : bj ≠ W.heap.size := by have := HUB.out bj rfl; have := blk_lt H1.out.2; omega
            exact (World.cell?_of_block (a := ⟨bj, _, none⟩) (hk8.block bj hjl hbn)).trans hj2
          dsimp only [sets8, tv0] at hjc
          have y3 : (d'.i : Int) < k7 := by omega
          have y4 : (0 : Int) ≤ d'.i := by omega
          clear hz1 hz2 hz3 hv hb8 c0 c2 c3 c4 c5 c6 n1 n2 n3 HO1 HO2 m1 m2 hcd h121
          go_wp2_with fail
          go_region_law (fail)
          all_goals (
            go_wp2_with fail
            obtain ⟨wz, ez⟩ : ∃ wz, sets8 w8 W.heap.size 0 tv0 (.slice none 0 0) = wz := ⟨_, rfl⟩
            obtain ⟨g1, g2⟩ := HPr.out wz ez
            dsimp only [sets8, tv0] at ez
            rw [ez]
            obtain ⟨⟨x0, x1, x2, x3, x4, x5, x6, x7⟩, xl⟩ := nd_cells g2
            refine bodyPost_ret (v := .tuple #[ndv 0 tv0 (.slice none 0 0), .int .i64 code, .int .i64 (a : Int)]) (by simp [results, Tryz.f7, go_sem, x0, x1, x2, x3, x4, x5, x6, x7]) rfl ?_
            exact g1)

end Go.Proofs.YtkigadnkclkopaaGreat
