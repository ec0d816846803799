import Derived.Test.YtcokccfbeonlnaaDoorGa9
import Derived.Test.YtcokccfbeonlnaaDoorUa
set_option linter.unusedVariables false
set_option linter.unusedSimpArgs false
namespace Go.Proofs.YtcokccfbeonlnaaDoor

/-! Words in lines. -/
abbrev Wg := List UInt8 × Nat
def rep (m : Nat) : List UInt8 := List.replicate m 32
def fnext (n : Int) (ind : Nat) (y : Wg) (p : List UInt8 × Nat) : List UInt8 × Nat :=
  if n < (p.2 : Int) + y.2 + y.1.length then (p.1 ++ ([10] ++ (rep ind ++ y.1)), ind + y.1.length) else (p.1 ++ (rep y.2 ++ y.1), p.2 + y.2 + y.1.length)
def flz (n : Int) (ind : Nat) : List Wg → List UInt8 × Nat
  | [] => ([], 0)
  | x :: r => r.foldl (fun p y => fnext n ind y p) (x.1, x.1.length)
theorem flz_snoc (n : Int) (ind : Nat) (zs : List Wg) (y : Wg) (h : zs ≠ []) : flz n ind (zs ++ [y]) = fnext n ind y (flz n ind zs) := by
  cases zs with
  | nil => exact absurd rfl h
  | cons x r => simp [flz]
def txt (w : List UInt8) : Dc := ⟨1, ⟨w.toArray⟩, 0, 0, false⟩
def brk (g : Nat) : Dc := ⟨3, bE, g, 0, false⟩
def rsp : List Wg → List Dc
  | [] => []
  | y :: r => brk y.2 :: txt y.1 :: rsp r
def pcs : List Wg → List Dc
  | [] => []
  | x :: r => txt x.1 :: rsp r
/-- A word: letters. -/
def Wd (w : List UInt8) : Prop := 1 ≤ w.length ∧ w.length ≤ 14 ∧ ∀ x ∈ w, 97 ≤ x.toNat ∧ x.toNat ≤ 122
def Wgs (zs : List Wg) : Prop := ∀ y ∈ zs, Wd y.1 ∧ y.2 ≤ 3
theorem Wd.as {w : List UInt8} (h : Wd w) : As w := fun x hx => by have := h.2.2 x hx; omega
theorem Wd.rt {w : List UInt8} (h : Wd w) : rt (txt w) = true := by
  refine rt_mk (.text _ ?_)
  have hl : (lsb ⟨w.toArray⟩) = w := ls_mk w
  have hz : (⟨w.toArray⟩ : ByteArray).size = w.length := by rw [← ls_len, hl]
  have hg : ∀ i, i < w.length → edg (w.getD i 0) = false := by
    intro i hi
    have := h.2.2 _ (List.getElem_mem hi)
    rw [List.getD_eq_getElem?_getD, List.getElem?_eq_getElem hi]
    show (w[i] == 32 || w[i] == 10) = false
    rw [Bool.or_eq_false_iff, beq_eq_false_iff_ne, beq_eq_false_iff_ne]
    exact ⟨fun e => by rw [e] at this; exact absurd this.1 (by decide), fun e => by rw [e] at this; exact absurd this.1 (by decide)⟩
  unfold rtT
  rw [hl, hz, hg 0 (by have := h.1; omega), hg (w.length - 1) (by have := h.1; omega)]
  have h1 := h.1
  have h2 := h.2.1
  simp; omega
theorem brk_rt {g : Nat} (h : g ≤ 3) : rt (brk g) = true := rt_mk (.brk _ (by simp [rtN]; omega))
theorem hasF_wd {w : List UInt8} (h : Wd w) : hasF ⟨w.toArray⟩ = false := by
  unfold hasF
  refine decide_eq_false ?_
  intro hm
  have : (10 : UInt8) ∈ w := by simpa using hm
  have := h.2.2 _ this
  exact absurd this.1 (by decide)
theorem pw_txt {w : List UInt8} (h : Wd w) : pw (txt w) = w.length := by
  show (if hasF ⟨w.toArray⟩ then 4097 else (tw ⟨w.toArray⟩).toNat) = w.length
  rw [hasF_wd h, tw_ascii w h.as]; simp
theorem pw_brk (g : Nat) : pw (brk g) = g := by simp [pw, brk]
def tot : List Wg → Nat
  | [] => 0
  | y :: r => y.2 + y.1.length + tot r
def ndz : List Wg → List Nat
  | [] => []
  | y :: r => (y.2 + y.1.length) :: 0 :: ndz r
theorem ndz_of (tl : List Dc) (h0 : (nds tl).2.1 = ⟨0, 0⟩) : ∀ zs, Wgs zs → (nds (rsp zs ++ tl)).1 = ndz zs ++ (nds tl).1 ∧ (nds (rsp zs ++ tl)).2 = (⟨min (tot zs) 4097, 0⟩, (nds tl).2.2)
  | [], _ => ⟨rfl, by show (nds tl).2 = _; exact Prod.ext (h0.trans rfl) rfl⟩
  | y :: r, h => by
    obtain ⟨i1, i2⟩ := ndz_of tl h0 r (fun z hz => h z (List.mem_cons_of_mem _ hz))
    obtain ⟨hw, hg⟩ := h y List.mem_cons_self
    have hl := hw.2.1
    have e1 : ∀ s, tell (txt y.1) s = (0, s.1.wid y.1.length, s.2) := fun s => by rw [← pw_txt hw]; unfold tell; rw [if_neg (by show ¬ (1 : Int) = 7; decide), if_neg (by show ¬ (1 : Int) = 6; decide), if_neg (by show ¬ (1 : Int) = 3; decide), if_neg (by show ¬ ((1 : Int) = 4 ∨ (1 : Int) = 5); decide)]
    have e2 : ∀ s, tell (brk y.2) s = ((s.1.wid y.2).hang, ⟨(s.1.wid y.2).all, 0⟩, s.2) := fun s => by
      conv => rhs; rw [← pw_brk y.2]
      unfold tell; rw [if_neg (by show ¬ (3 : Int) = 7; decide), if_neg (by show ¬ (3 : Int) = 6; decide), if_pos (show (brk y.2).k = 3 from rfl)]
    show (nds (brk y.2 :: txt y.1 :: (rsp r ++ tl))).1 = _ ∧ (nds (brk y.2 :: txt y.1 :: (rsp r ++ tl))).2 = _
    simp only [nds, e1, e2, i2, i1]
    simp only [Sp.wid, ndz, tot, List.cons_append, Nat.zero_add]
    refine ⟨?_, ?_⟩
    · congr 1; omega
    · congr 2; omega
/-- How the printing stands in a line of words. -/
structure Ln (p : Pr) (out : List UInt8) (at' : Nat) (b : Bk) : Prop where
  sk : p.sk = ⟨false, at', 0, out⟩
  bl : p.bl = b
theorem text_ln {s : St6} {w : List UInt8} (h : Wd w) : s.text ⟨w.toArray⟩ = ⟨false, s.col + s.wait + w.length, 0, s.out ++ ((if s.fresh then rep s.col else []) ++ (rep s.wait ++ w))⟩ := by
  have h1 := h.1
  have hz : (⟨w.toArray⟩ : ByteArray).size = w.length := by rw [← ls_len, ls_mk]
  unfold St6.text
  rw [if_neg (by omega)]
  have hn : ncol s.col s.wait ⟨w.toArray⟩ = ((s.col + s.wait + w.length : Nat) : Int) := by
    unfold ncol
    rw [if_pos (lf_none w h.as), tw_ascii w h.as]
    omega
  rw [hn]
  rfl
theorem put_word {n m m' : Nat} {p : Pr} {out : List UInt8} {a : Nat} {b : Bk} (h : Ln p out a b) {y : Wg} (hy : Wd y.1 ∧ y.2 ≤ 3) (n' : Int) (hm : m = y.2 + y.1.length)
    (hd : (b.ev = false ∧ n' = n) ∨ (b.ev = true ∧ b.ft = false ∧ n' = -1) ∨ (b.ev = true ∧ b.ft = true ∧ (a : Int) + y.2 + y.1.length ≤ n')) :
    Ln (put n (txt y.1) m' (put n (brk y.2) m p)) (fnext n' b.ind y (out, a)).1 (fnext n' b.ind y (out, a)).2 b := by
  obtain ⟨hw, hg⟩ := hy
  have hp := h.sk
  have hb := h.bl
  have e1 : put n (brk y.2) m p = if p.brk n m then p.endl else p.hold y.2 := by
    unfold put brk
    simp
  have e2 : ∀ q : Pr, put n (txt y.1) m' q = { q with sk := q.sk.text ⟨y.1.toArray⟩, en := false } := fun q => by simp [put, txt]
  have hc : p.brk n m = decide (n' < (a : Int) + y.2 + y.1.length) := by
    unfold Pr.brk
    rw [hb]
    rcases hd with ⟨k1, k2⟩ | ⟨k1, k2, k3⟩ | ⟨k1, k2, k3⟩
    · rw [k1]
      unfold Pr.fits Pr.at
      rw [hp, hm, k2]
      simp only [Bool.false_eq_true, if_false]
      rw [← decide_not, decide_eq_decide]
      simp; omega
    · rw [k1, k2, k3]
      simp; omega
    · rw [k1, k2]
      simp; omega
  rw [e2, e1, hc]
  unfold fnext
  by_cases hlt : n' < (a : Int) + y.2 + y.1.length
  · rw [if_pos (by simpa using hlt), if_pos hlt]
    have e3 : p.endl = { p with sk := p.sk.feed p.bl.ind, en := true } := by unfold Pr.endl; rw [if_neg (by rw [hp]; simp)]
    rw [e3]
    refine ⟨?_, hb⟩
    show (p.sk.feed p.bl.ind).text ⟨y.1.toArray⟩ = _
    rw [text_ln hw, hp, hb]
    simp [St6.feed, rep]
  · rw [if_neg (by simpa using hlt), if_neg hlt]
    have e3 : p.hold y.2 = { p with sk := p.sk.blanks y.2 } := by unfold Pr.hold; rw [if_neg (by rw [hp]; simp)]
    rw [e3]
    refine ⟨?_, hb⟩
    show (p.sk.blanks y.2).text ⟨y.1.toArray⟩ = _
    rw [text_ln hw, hp]
    simp [St6.blanks, rep]
theorem puts_words {n : Nat} (n' : Int) (b : Bk) (tl : List Dc) (ms : List Nat) : ∀ (zs : List Wg) (p : Pr) (out : List UInt8) (a : Nat), Wgs zs → Ln p out a b →
    ((b.ev = false ∧ n' = n) ∨ (b.ev = true ∧ b.ft = false ∧ n' = -1) ∨ (b.ev = true ∧ b.ft = true ∧ (a : Int) + tot zs ≤ n')) →
    ∃ q, puts n (rsp zs ++ tl) (ndz zs ++ ms) p = puts n tl ms q ∧ Ln q (zs.foldl (fun p y => fnext n' b.ind y p) (out, a)).1 (zs.foldl (fun p y => fnext n' b.ind y p) (out, a)).2 b
  | [], p, out, a, _, h, _ => ⟨p, rfl, h⟩
  | y :: r, p, out, a, hz, h, hd => by
    have hy := hz y List.mem_cons_self
    have h1 := put_word (n := n) (m' := 0) h hy n' rfl (by
      rcases hd with hd | hd | ⟨k1, k2, k3⟩
      · exact .inl hd
      · exact .inr (.inl hd)
      · exact .inr (.inr ⟨k1, k2, by unfold tot at k3; omega⟩))
    obtain ⟨q, q1, q2⟩ := puts_words n' b tl ms r _ _ _ (fun z hz' => hz z (List.mem_cons_of_mem _ hz')) h1 (by
      rcases hd with hd | hd | ⟨k1, k2, k3⟩
      · exact .inl hd
      · exact .inr (.inl hd)
      · refine .inr (.inr ⟨k1, k2, ?_⟩)
        unfold tot at k3
        have : (fnext n' b.ind y (out, a)).2 = a + y.2 + y.1.length := by unfold fnext; rw [if_neg (by show ¬ n' < (a : Int) + y.2 + y.1.length; omega)]
        rw [this]; omega)
    exact ⟨q, q1, q2⟩
theorem frm_rsp (tl : List Dc) : ∀ (zs : List Wg) (o : Int) (j : Nat), 0 ≤ o → Wgs zs → (∀ j, frm o j tl = none) → frm o j (rsp zs ++ tl) = none
  | [], o, j, _, _, h => h j
  | y :: r, o, j, ho, hz, h => by
    obtain ⟨hw, hg⟩ := hz y List.mem_cons_self
    show frm o j (brk y.2 :: txt y.1 :: (rsp r ++ tl)) = none
    simp only [frm]
    rw [if_pos ⟨brk_rt hg, by show 0 ≤ o + 0; omega⟩, if_pos ⟨hw.rt, by show 0 ≤ o + 0 + 0; omega⟩]
    have := frm_rsp tl r o (j + 1 + 1) ho (fun z hz' => hz z (List.mem_cons_of_mem _ hz')) h
    have e : o + dep (brk y.2).k + dep (txt y.1).k = o := by show o + 0 + 0 = o; omega
    rw [e]; exact this
theorem ln_first {n m : Nat} {p : Pr} {x : List UInt8} (h : Wd x) (hp : p.sk = st0) : Ln (put n (txt x) m p) x x.length p.bl := by
  have e2 : put n (txt x) m p = { p with sk := p.sk.text ⟨x.toArray⟩, en := false } := by simp [put, txt]
  rw [e2]
  refine ⟨?_, rfl⟩
  show p.sk.text ⟨x.toArray⟩ = _
  rw [text_ln h, hp]
  simp [st0, rep]
/-- Words outside of all blocks. -/
theorem fill_a {n : Nat} (hn : 1 ≤ n ∧ n ≤ 4096) (zs : List Wg) (hz : Wgs zs) : wprn n (pcs zs) = (⟨(flz n 0 zs).1.toArray⟩, 0) := by
  have h0 : ¬ ((n : Int) < 1 ∨ 4096 < (n : Int)) := by omega
  cases zs with
  | nil =>
    unfold wprn
    rw [if_neg h0, if_neg (by simp [pcs, frm])]
    rfl
  | cons x r =>
    have hx := hz x List.mem_cons_self
    have hr : Wgs r := fun z hz' => hz z (List.mem_cons_of_mem _ hz')
    have hf : frm 0 0 (pcs (x :: r)) = none := by
      show frm 0 0 (txt x.1 :: rsp r) = none
      simp only [frm]
      rw [if_pos ⟨hx.1.rt, by show (0 : Int) ≤ 0 + 0; decide⟩]
      have := frm_rsp [] r 0 1 (Int.le_refl _) hr (fun j => by simp [frm])
      rw [List.append_nil] at this
      exact this
    unfold wprn
    rw [if_neg h0, if_neg (by simp [hf])]
    have hnd := ndz_of [] rfl r hr
    rw [List.append_nil] at hnd
    have hw : wout n (pcs (x :: r)) = (flz n 0 (x :: r)).1 := by
      unfold wout
      show (puts n (txt x.1 :: rsp r) ((tell (txt x.1) (nds (rsp r)).2).1 :: (nds (rsp r)).1) pr0).sk.out = _
      rw [puts, hnd.1]
      obtain ⟨q, q1, q2⟩ := puts_words (n := n) n pr0.bl [] [] r _ _ _ hr (ln_first (n := n) (m := (tell (txt x.1) (nds (rsp r)).2).1) hx.1 (p := pr0) rfl) (.inl ⟨rfl, rfl⟩)
      rw [List.append_nil] at q1
      show (puts n (rsp r) (ndz r ++ []) _).sk.out = _
      rw [q1]
      show q.sk.out = _
      rw [q2.sk]
      rfl
    rw [Int.toNat_natCast, hw]
/-- Words in a block. -/
def blk8 (ind : Nat) (e : Bool) (zs : List Wg) : List Dc := ⟨6, bE, 0, ind, e⟩ :: (pcs zs ++ [dK 7])
theorem fill_b {n ind : Nat} (hn : 1 ≤ n ∧ n ≤ 4096) (hi : ind ≤ 1000) (e : Bool) (zs : List Wg) (hz : Wgs zs) (n' : Int)
    (hd : (e = false ∧ n' = n) ∨ (e = true ∧ ¬ tot zs ≤ n + (zs.headD ([], 0)).2 ∧ n' = -1) ∨ (e = true ∧ tot zs ≤ n + (zs.headD ([], 0)).2 ∧ n' = tot zs - (zs.headD ([], 0)).2)) : wprn n (blk8 ind e zs) = (⟨(flz n' ind zs).1.toArray⟩, 0) := by
  have h0 : ¬ ((n : Int) < 1 ∨ 4096 < (n : Int)) := by omega
  have h7 : rt (dK 7) = true := rt_mk .end
  have hb : rt ⟨6, bE, 0, ind, e⟩ = true := rt_mk (.beg _ _ (by simp [rtN]; omega))
  have ht7 : ∀ j, frm 1 j [dK 7] = none := fun j => by
    have : frm 1 j [dK 7] = if rt (dK 7) = true ∧ 0 ≤ 1 + dep (dK 7).k then frm (1 + dep (dK 7).k) (j + 1) [] else some j := rfl
    rw [this, if_pos ⟨h7, by decide⟩]; rfl
  have n7 : nds [dK 7] = ([0], ⟨0, 0⟩, [⟨0, 0⟩]) := rfl
  cases zs with
  | nil =>
    have hf : frm 0 0 (blk8 ind e []) = none := by
      have : frm 0 0 (blk8 ind e []) = if rt ⟨6, bE, 0, (ind : Int), e⟩ = true ∧ 0 ≤ (0 : Int) + 1 then frm (0 + 1) 1 [dK 7] else some 0 := rfl
      rw [this, if_pos ⟨hb, by decide⟩]; exact ht7 1
    unfold wprn
    rw [if_neg h0, if_neg (by simp [hf])]
    rfl
  | cons x r =>
    have hx := hz x List.mem_cons_self
    have hr : Wgs r := fun z hz' => hz z (List.mem_cons_of_mem _ hz')
    have hf : frm 0 0 (blk8 ind e (x :: r)) = none := by
      have : frm 0 0 (blk8 ind e (x :: r)) = if rt ⟨6, bE, 0, (ind : Int), e⟩ = true ∧ 0 ≤ (0 : Int) + 1 then frm (0 + 1) 1 (txt x.1 :: (rsp r ++ [dK 7])) else some 0 := rfl
      rw [this, if_pos ⟨hb, by decide⟩]
      simp only [frm]
      rw [if_pos ⟨hx.1.rt, by show (0 : Int) ≤ 0 + 1 + 0; decide⟩]
      exact frm_rsp [dK 7] r 1 2 (by decide) hr ht7
    unfold wprn
    rw [if_neg h0, if_neg (by simp [hf])]
    obtain ⟨hn1, hn2⟩ := ndz_of [dK 7] (by rw [n7]) r hr
    have hl := hx.1.2.1
    have e1 : tell (txt x.1) (nds (rsp r ++ [dK 7])).2 = (0, ⟨min (min (tot r) 4097 + x.1.length) 4097, min (0 + x.1.length) 4097⟩, [⟨0, 0⟩]) := by
      rw [hn2, n7]
      unfold tell
      rw [if_neg (by show ¬ (1 : Int) = 7; decide), if_neg (by show ¬ (1 : Int) = 6; decide), if_neg (by show ¬ (1 : Int) = 3; decide), if_neg (by show ¬ ((1 : Int) = 4 ∨ (1 : Int) = 5); decide), pw_txt hx.1]
      rfl
    have e2 : (nds (blk8 ind e (x :: r))).1 = min (tot r + x.1.length) 4097 :: 0 :: (ndz r ++ [0]) := by
      show (tell ⟨6, bE, 0, (ind : Int), e⟩ (tell (txt x.1) (nds (rsp r ++ [dK 7])).2).2).1 :: (tell (txt x.1) (nds (rsp r ++ [dK 7])).2).1 :: (nds (rsp r ++ [dK 7])).1 = _
      rw [e1, hn1, n7]
      have : (tell ⟨6, bE, 0, (ind : Int), e⟩ ((⟨min (min (tot r) 4097 + x.1.length) 4097, min (0 + x.1.length) 4097⟩ : Sp), [(⟨0, 0⟩ : Sp)])).1 = min (min (tot r) 4097 + x.1.length) 4097 := rfl
      rw [this]
      congr 1
      omega
    have hw : wout n (blk8 ind e (x :: r)) = (flz n' ind (x :: r)).1 := by
      unfold wout
      rw [e2]
      show (puts n (⟨6, bE, 0, (ind : Int), e⟩ :: txt x.1 :: (rsp r ++ [dK 7])) (min (tot r + x.1.length) 4097 :: 0 :: (ndz r ++ [0])) pr0).sk.out = _
      rw [puts, puts]
      obtain ⟨P, hP⟩ : ∃ P, put n ⟨6, bE, 0, (ind : Int), e⟩ (min (tot r + x.1.length) 4097) pr0 = P := ⟨_, rfl⟩
      have hPe : P = { pr0 with ar := [⟨0, false, false⟩], bl := ⟨min (0 + ind) 1000, e, decide (min (tot r + x.1.length) 4097 + (0 + 0) ≤ n)⟩ } := by
        rw [← hP]; rfl
      rw [hP]
      have hbl : P.bl = ⟨ind, e, decide (tot r + x.1.length ≤ n)⟩ := by
        rw [hPe]
        show (⟨min (0 + ind) 1000, e, _⟩ : Bk) = _
        congr 1
        · omega
        · rw [decide_eq_decide]; omega
      have hl1 := ln_first (n := n) (m := 0) hx.1 (p := P) (by rw [hPe]; rfl)
      rw [hbl] at hl1
      have htot : tot (x :: r) = x.2 + x.1.length + tot r := rfl
      obtain ⟨q, q1, q2⟩ := puts_words (n := n) n' ⟨ind, e, decide (tot r + x.1.length ≤ n)⟩ [dK 7] [0] r _ _ _ hr hl1 (by
        rcases hd with ⟨k1, k2⟩ | ⟨k1, k2, k3⟩ | ⟨k1, k2, k3⟩
        · exact .inl ⟨k1, k2⟩
        · rw [htot] at k2
          exact .inr (.inl ⟨k1, decide_eq_false (by simp at k2; omega), k3⟩)
        · rw [htot] at k2 k3
          simp at k2 k3
          exact .inr (.inr ⟨k1, decide_eq_true (by omega), by omega⟩))
      rw [q1]
      have : puts n [dK 7] [0] q = put n (dK 7) 0 q := rfl
      rw [this]
      have : (put n (dK 7) 0 q).sk = q.sk := rfl
      rw [this, q2.sk]
      rfl
    rw [Int.toNat_natCast, hw]
end Go.Proofs.YtcokccfbeonlnaaDoor
