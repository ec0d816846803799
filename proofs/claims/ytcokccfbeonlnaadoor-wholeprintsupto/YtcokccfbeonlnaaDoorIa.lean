import Derived.Test.YtcokccfbeonlnaaDoorGa9
set_option linter.unusedVariables false
set_option linter.unusedSimpArgs false
namespace Go.Proofs.YtcokccfbeonlnaaDoor
open Go.RowKit

/-- A layout with idle blocks around its Texts and Blanks. -/
inductive Idl : List Dc → List Dc → Prop
  | nil : Idl [] []
  | wrap (d : Dc) (m : Int) (e : Bool) (l r : List Dc) (hd : d.k = 1 ∨ d.k = 2) (hm : rtN m = true) (h : Idl l r) : Idl (d :: l) (⟨6, bE, 0, m, e⟩ :: d :: bg0 :: dK 7 :: dK 7 :: r)
  | keep (d : Dc) (l r : List Dc) (hd : ¬ (d.k = 1 ∨ d.k = 2)) (h : Idl l r) : Idl (d :: l) (d :: r)
theorem Idl.snocW {l r : List Dc} (h : Idl l r) (d : Dc) (m : Int) (e : Bool) (hd : d.k = 1 ∨ d.k = 2) (hm : rtN m = true) : Idl (l ++ [d]) (r ++ [⟨6, bE, 0, m, e⟩, d, bg0, dK 7, dK 7]) := by
  induction h with
  | nil => exact .wrap d m e [] [] hd hm .nil
  | wrap d' m' e' l r hd' hm' h ih => exact .wrap d' m' e' _ _ hd' hm' ih
  | keep d' l r hd' h ih => exact .keep d' _ _ hd' ih
theorem Idl.snocK {l r : List Dc} (h : Idl l r) (d : Dc) (hd : ¬ (d.k = 1 ∨ d.k = 2)) : Idl (l ++ [d]) (r ++ [d]) := by
  induction h with
  | nil => exact .keep d [] [] hd .nil
  | wrap d' m' e' l r hd' hm' h ih => exact .wrap d' m' e' _ _ hd' hm' ih
  | keep d' l r hd' h ih => exact .keep d' _ _ hd' ih
theorem rt_b (m : Int) (e : Bool) (hm : rtN m = true) : rt ⟨6, bE, 0, m, e⟩ = true := rt_mk (.beg m e hm)
theorem rt_7 : rt (dK 7) = true := rt_mk .end
theorem rt_bg0 : rt bg0 = true := rt_mk (.beg 0 false rfl)
theorem frm_cons (o : Int) (j : Nat) (d : Dc) (r : List Dc) : frm o j (d :: r) = if rt d = true ∧ 0 ≤ o + dep d.k then frm (o + dep d.k) (j + 1) r else some j := rfl
theorem Idl.frm {l r : List Dc} (h : Idl l r) : ∀ (o : Int) (i j : Nat), 0 ≤ o → (Go.Proofs.YtcokccfbeonlnaaDoor.frm o i l = none ↔ Go.Proofs.YtcokccfbeonlnaaDoor.frm o j r = none) := by
  induction h with
  | nil => intro o i j ho; simp [Go.Proofs.YtcokccfbeonlnaaDoor.frm]
  | wrap d m e l r hd hm h ih =>
    intro o i j ho
    have d0 : dep d.k = 0 := by unfold dep; rw [if_neg (by omega), if_neg (by omega)]
    have hA : Go.Proofs.YtcokccfbeonlnaaDoor.frm o i (d :: l) = if rt d = true then Go.Proofs.YtcokccfbeonlnaaDoor.frm o (i + 1) l else some i := by
      rw [frm_cons, d0, Int.add_zero]
      by_cases hr : rt d = true
      · rw [if_pos ⟨hr, ho⟩, if_pos hr]
      · rw [if_neg (fun h => hr h.1), if_neg hr]
    have hB : Go.Proofs.YtcokccfbeonlnaaDoor.frm o j (⟨6, bE, 0, m, e⟩ :: d :: bg0 :: dK 7 :: dK 7 :: r) = if rt d = true then Go.Proofs.YtcokccfbeonlnaaDoor.frm o (j + 1 + 1 + 1 + 1 + 1) r else some (j + 1) := by
      have e6 : dep (⟨6, bE, 0, m, e⟩ : Dc).k = 1 := rfl
      have e0 : dep bg0.k = 1 := rfl
      have e7 : dep (dK 7).k = -1 := rfl
      rw [frm_cons, e6, if_pos ⟨rt_b m e hm, by omega⟩, frm_cons, d0, Int.add_zero]
      by_cases hr : rt d = true
      · rw [if_pos ⟨hr, by omega⟩, if_pos hr, frm_cons, e0, if_pos ⟨rt_bg0, by omega⟩, frm_cons, e7, if_pos ⟨rt_7, by omega⟩, frm_cons, e7, if_pos ⟨rt_7, by omega⟩]
        rw [show o + 1 + 1 + -1 + -1 = o by omega]
      · rw [if_neg (fun h => hr h.1), if_neg hr]
    rw [hA, hB]
    by_cases hr : rt d = true
    · rw [if_pos hr, if_pos hr]; exact ih o _ _ ho
    · rw [if_neg hr, if_neg hr]; simp
  | keep d l r hd h ih =>
    intro o i j ho
    rw [frm_cons o i, frm_cons o j]
    by_cases hc : rt d = true ∧ 0 ≤ o + dep d.k
    · rw [if_pos hc, if_pos hc]; exact ih _ _ _ hc.2
    · rw [if_neg hc, if_neg hc]; simp
theorem tell_plain {d : Dc} (hd : d.k = 1 ∨ d.k = 2) (s : Sp × List Sp) : tell d s = (0, s.1.wid (pw d), s.2) := by
  unfold tell
  rw [if_neg (by omega), if_neg (by omega), if_neg (by omega), if_neg (by omega)]
theorem tell_6 (d : Dc) (hd : d.k = 6) (s : Sp × List Sp) : tell d s = (s.1.all, (s.2.headD ⟨0, 0⟩).wid s.1.all, s.2.tail) := by
  unfold tell
  rw [if_neg (by omega), if_pos hd]
theorem tell_7 (d : Dc) (hd : d.k = 7) (s : Sp × List Sp) : tell d s = (0, ⟨0, 0⟩, s.1 :: s.2) := by
  unfold tell
  rw [if_pos hd]
theorem nds_cons (d : Dc) (r : List Dc) : nds (d :: r) = ((tell d (nds r).2).1 :: (nds r).1, (tell d (nds r).2).2) := rfl
theorem Idl.nds {l r : List Dc} (h : Idl l r) : (Go.Proofs.YtcokccfbeonlnaaDoor.nds r).2 = (Go.Proofs.YtcokccfbeonlnaaDoor.nds l).2 := by
  induction h with
  | nil => rfl
  | wrap d m e l r hd hm h ih =>
    simp only [nds_cons]
    rw [tell_7 (dK 7) rfl, tell_7 (dK 7) rfl, tell_6 bg0 rfl, tell_plain hd, tell_6 ⟨6, bE, 0, m, e⟩ rfl, tell_plain hd, ih]
    simp only [List.headD_cons, List.tail_cons, Sp.wid, Prod.mk.injEq, Sp.mk.injEq, and_true, true_and]
    omega
  | keep d l r hd h ih =>
    simp only [nds_cons]
    rw [ih]
theorem put_plain {n m m' : Nat} {d : Dc} (hd : d.k = 1 ∨ d.k = 2) (p : Pr) (b : Bk) (a : List Bk) : put n d m { p with bl := b, ar := a } = { put n d m' p with bl := b, ar := a } := by
  rcases hd with hd | hd
  · simp [put, hd]
  · simp only [put, hd]
    simp only [show ¬ (2 : Int) = 1 by decide, if_false, if_true]
    unfold Pr.hold
    split <;> rfl
theorem put_plain_bl {n m : Nat} {d : Dc} (hd : d.k = 1 ∨ d.k = 2) (p : Pr) : (put n d m p).bl = p.bl ∧ (put n d m p).ar = p.ar := by
  rcases hd with hd | hd
  · simp [put, hd]
  · simp only [put, hd]
    simp only [show ¬ (2 : Int) = 1 by decide, if_false, if_true]
    unfold Pr.hold
    split <;> exact ⟨rfl, rfl⟩
theorem put_6 {n m : Nat} {d : Dc} (hd : d.k = 6) (p : Pr) : put n d m p = { p with ar := p.bl :: p.ar, bl := ⟨min (p.bl.ind + d.i.toNat) 1000, d.e, p.fits n m⟩ } := by
  simp [put, hd]
theorem put_7 {n m : Nat} {d : Dc} (hd : d.k = 7) (p : Pr) : put n d m p = { p with bl := p.ar.headD ⟨0, false, false⟩, ar := p.ar.tail } := by
  simp [put, hd]
theorem Idl.puts {n : Nat} {l r : List Dc} (h : Idl l r) : ∀ p, Go.Proofs.YtcokccfbeonlnaaDoor.puts n r (Go.Proofs.YtcokccfbeonlnaaDoor.nds r).1 p = Go.Proofs.YtcokccfbeonlnaaDoor.puts n l (Go.Proofs.YtcokccfbeonlnaaDoor.nds l).1 p := by
  induction h with
  | nil => intro p; rfl
  | wrap d m e l r hd hm h ih =>
    intro p
    simp only [nds_cons, Go.Proofs.YtcokccfbeonlnaaDoor.puts]
    rw [ih]
    congr 1
    rw [put_7 (d := dK 7) rfl, put_7 (d := dK 7) rfl, put_6 (d := bg0) rfl, put_6 (d := ⟨6, bE, 0, m, e⟩) rfl]
    have h1 := put_plain (n := n) (m := (tell d (tell bg0 (tell (dK 7) (tell (dK 7) (Go.Proofs.YtcokccfbeonlnaaDoor.nds r).2).2).2).2).1) (m' := (tell d (Go.Proofs.YtcokccfbeonlnaaDoor.nds l).2).1) hd p ⟨min (p.bl.ind + m.toNat) 1000, e, p.fits n (tell ⟨6, bE, 0, m, e⟩ (tell d (tell bg0 (tell (dK 7) (tell (dK 7) (Go.Proofs.YtcokccfbeonlnaaDoor.nds r).2).2).2).2).2).1⟩ (p.bl :: p.ar)
    rw [h1]
    have h2 := put_plain_bl (n := n) (m := (tell d (Go.Proofs.YtcokccfbeonlnaaDoor.nds l).2).1) hd p
    generalize put n d (tell d (Go.Proofs.YtcokccfbeonlnaaDoor.nds l).2).1 p = q at *
    obtain ⟨sk, bl, ar, en⟩ := q
    simp only at h2
    simp [h2.1, h2.2]
  | keep d l r hd h ih =>
    intro p
    simp only [nds_cons, Go.Proofs.YtcokccfbeonlnaaDoor.puts]
    rw [ih, h.nds]
theorem Idl.prn {l r : List Dc} (h : Idl l r) (n : Int) : wprn n r = wprn n l := by
  unfold wprn wout
  rw [h.puts]
  have := h.frm 0 0 0 (Int.le_refl _)
  by_cases hl : Go.Proofs.YtcokccfbeonlnaaDoor.frm 0 0 l = none
  · rw [if_neg (c := Go.Proofs.YtcokccfbeonlnaaDoor.frm 0 0 l ≠ none) (by simp [hl]), if_neg (c := Go.Proofs.YtcokccfbeonlnaaDoor.frm 0 0 r ≠ none) (by simp [this.1 hl])]
  · rw [if_pos (c := Go.Proofs.YtcokccfbeonlnaaDoor.frm 0 0 l ≠ none) hl, if_pos (c := Go.Proofs.YtcokccfbeonlnaaDoor.frm 0 0 r ≠ none) (fun hr => hl (this.2 hr))]
theorem Idl.uds {l r : List Dc} (h : Idl l r) : Go.Proofs.YtcokccfbeonlnaaDoor.uds r = Go.Proofs.YtcokccfbeonlnaaDoor.uds l ∧ r.length ≤ 5 * l.length := by
  induction h with
  | nil => exact ⟨rfl, by simp⟩
  | wrap d m e l r hd hm h ih =>
    have e1 : ud ⟨6, bE, 0, m, e⟩ = 0 := rfl
    have e2 : ud bg0 = 0 := by decide +kernel
    have e3 : ud (dK 7) = 0 := by decide +kernel
    refine ⟨?_, by simp only [List.length_cons]; omega⟩
    have hu : ∀ (d : Dc) (l : List Dc), Go.Proofs.YtcokccfbeonlnaaDoor.uds (d :: l) = ud d + Go.Proofs.YtcokccfbeonlnaaDoor.uds l := fun d l => by simp [Go.Proofs.YtcokccfbeonlnaaDoor.uds]
    rw [hu, hu, hu, hu, hu, hu, e1, e2, e3, ih.1]; omega
  | keep d l r hd h ih =>
    have hu : ∀ (d : Dc) (l : List Dc), Go.Proofs.YtcokccfbeonlnaaDoor.uds (d :: l) = ud d + Go.Proofs.YtcokccfbeonlnaaDoor.uds l := fun d l => by simp [Go.Proofs.YtcokccfbeonlnaaDoor.uds]
    refine ⟨by rw [hu, hu, ih.1], by simp only [List.length_cons]; omega⟩
theorem Idl.size {l r : List Dc} (h : Idl l r) (ht : ∀ d ∈ l, d.t.size ≤ 9223372036854775807) : ∀ d ∈ r, d.t.size ≤ 9223372036854775807 := by
  induction h with
  | nil => simp
  | wrap d m e l r hd hm h ih =>
    intro x hx
    have := ih (fun y hy => ht y (List.mem_cons_of_mem _ hy))
    simp only [List.mem_cons] at hx
    rcases hx with rfl | rfl | rfl | rfl | rfl | hx
    · exact Nat.zero_le _
    · exact ht _ List.mem_cons_self
    · exact Nat.zero_le _
    · exact Nat.zero_le _
    · exact Nat.zero_le _
    · exact this x hx
  | keep d l r hd h ih =>
    intro x hx
    rcases List.mem_cons.1 hx with rfl | hx
    · exact ht _ List.mem_cons_self
    · exact ih (fun y hy => ht y (List.mem_cons_of_mem _ hy)) x hx
end Go.Proofs.YtcokccfbeonlnaaDoor
