import Derived.Test.YtmjhfabdbajchaaGreatDoorG2
import Derived.Test.YtmjhfabdbajchaaGreatDoorG3
import Derived.Test.YtmjhfabdbajchaaGreatDoorG7
import Derived.Test.YtmjhfabdbajchaaGreatDoorG4
import Derived.WalkSmall
set_option linter.unusedVariables false
set_option linter.unusedSimpArgs false
namespace Go.Proofs.YtmjhfabdbajchaaGreatDoor

/-! How wide pieces are. -/
def hasF (t : ByteArray) : Bool := decide ((10 : UInt8) ∈ t.data.toList)
/-- A piece's width; that of one which has no end counts 4097. -/
def pw (d : Dc) : Nat := if d.k = 1 then (if hasF d.t then 4097 else (tw d.t).toNat) else if d.k = 2 then 1 else if d.k = 3 then d.b.toNat else if d.k = 4 ∨ d.k = 5 then 4097 else 0

structure Sp where
  all : Nat
  hang : Nat
  deriving DecidableEq
def Sp.wid (s : Sp) (c : Nat) : Sp := ⟨min (s.all + c) 4097, min (s.hang + c) 4097⟩
/-- What a piece needs, and how it stands ahead of it. -/
def tell (d : Dc) (s : Sp × List Sp) : Nat × Sp × List Sp :=
  if d.k = 7 then (0, ⟨0, 0⟩, s.1 :: s.2)
  else if d.k = 6 then (s.1.all, (s.2.headD ⟨0, 0⟩).wid s.1.all, s.2.tail)
  else if d.k = 3 then ((s.1.wid (pw d)).hang, ⟨(s.1.wid (pw d)).all, 0⟩, s.2)
  else if d.k = 4 ∨ d.k = 5 then (0, ⟨(s.1.wid (pw d)).all, 0⟩, s.2)
  else (0, s.1.wid (pw d), s.2)
def nds : List Dc → List Nat × Sp × List Sp
  | [] => ([], ⟨0, 0⟩, [])
  | d :: r => ((tell d (nds r).2).1 :: (nds r).1, (tell d (nds r).2).2)
theorem nds_len : ∀ l, (nds l).1.length = l.length
  | [] => rfl
  | d :: r => by simp [nds, nds_len r]
theorem nds_drop : ∀ (l : List Dc) (i : Nat), (nds (l.drop i)).1 = (nds l).1.drop i
  | l, 0 => by simp
  | [], i + 1 => by simp [nds]
  | d :: r, i + 1 => by simp [nds, nds_drop r i]
theorem wid_bd (s : Sp) (c : Nat) : (s.wid c).all ≤ 4097 ∧ (s.wid c).hang ≤ 4097 := by simp only [Sp.wid]; omega
def Sb (s : Sp) : Prop := s.all ≤ 4097 ∧ s.hang ≤ 4097
theorem tell_bd (d : Dc) (s : Sp × List Sp) (h : Sb s.1) (h2 : ∀ x ∈ s.2, Sb x) : (tell d s).1 ≤ 4097 ∧ Sb (tell d s).2.1 ∧ ∀ x ∈ (tell d s).2.2, Sb x := by
  unfold tell
  repeat' split
  · refine ⟨Nat.zero_le _, ⟨Nat.zero_le _, Nat.zero_le _⟩, ?_⟩
    intro x hx
    rcases List.mem_cons.1 hx with rfl | hx
    · exact h
    · exact h2 x hx
  · exact ⟨h.1, wid_bd _ _, fun x hx => h2 x (List.mem_of_mem_tail hx)⟩
  · exact ⟨(wid_bd _ _).2, ⟨(wid_bd _ _).1, Nat.zero_le _⟩, h2⟩
  · exact ⟨Nat.zero_le _, ⟨(wid_bd _ _).1, Nat.zero_le _⟩, h2⟩
  · exact ⟨Nat.zero_le _, wid_bd _ _, h2⟩
theorem nds_bd : ∀ l, (∀ x ∈ (nds l).1, x ≤ 4097) ∧ Sb (nds l).2.1 ∧ ∀ x ∈ (nds l).2.2, Sb x
  | [] => ⟨by simp [nds], ⟨Nat.zero_le _, Nat.zero_le _⟩, by simp [nds]⟩
  | d :: r => by
    obtain ⟨h1, h2, h3⟩ := nds_bd r
    obtain ⟨k1, k2, k3⟩ := tell_bd d (nds r).2 h2 h3
    refine ⟨?_, k2, k3⟩
    intro x hx
    rcases List.mem_cons.1 hx with rfl | hx
    · exact k1
    · exact h1 x hx
/-- How deep. -/
theorem nds_deep : ∀ (l : List Dc) (o : Int) (j : Nat), 0 ≤ o → frm o j l = none → ((nds l).2.2.length : Int) = o
  | [], o, j, ho, h => by
    simp only [frm] at h
    split at h
    · cases h
    · show (0 : Int) = o; omega
  | d :: r, o, j, ho, h => by
    simp only [frm] at h
    split at h
    · rename_i hc
      have ih := nds_deep r _ _ hc.2 h
      show ((tell d (nds r).2).2.2.length : Int) = o
      unfold tell
      unfold dep at ih
      split
      · rename_i h7
        rw [if_neg (by omega), if_pos h7] at ih
        show (((nds r).2.2.length + 1 : Nat) : Int) = o
        omega
      · rename_i h7
        split
        · rename_i h6
          rw [if_pos h6] at ih
          show ((nds r).2.2.tail.length : Int) = o
          rw [List.length_tail]; omega
        · rename_i h6
          rw [if_neg h6, if_neg h7] at ih
          repeat' split
          all_goals (show ((nds r).2.2.length : Int) = o; omega)
    · cases h

end Go.Proofs.YtmjhfabdbajchaaGreatDoor
set_option linter.unusedVariables false
set_option linter.unusedSimpArgs false
namespace Go.Proofs.YtmjhfabdbajchaaGreatDoor

/-! What is printed. -/
structure Bk where
  ind : Nat
  ev : Bool
  ft : Bool
structure Pr where
  sk : St6
  bl : Bk
  ar : List Bk
  en : Bool
def Pr.at (p : Pr) : Nat := p.sk.col + p.sk.wait
def Pr.fits (n need : Nat) (p : Pr) : Bool := decide (need + p.at ≤ n)
def Pr.hold (p : Pr) (m : Nat) : Pr := if p.sk.fresh then p else { p with sk := p.sk.blanks m }
def Pr.endl (p : Pr) : Pr := if p.sk.fresh then p else { p with sk := p.sk.feed p.bl.ind, en := true }
def Pr.brk (n need : Nat) (p : Pr) : Bool := if p.bl.ev then !p.bl.ft else !p.fits n need
def put (n : Nat) (d : Dc) (need : Nat) (p : Pr) : Pr :=
  if d.k = 1 then { p with sk := p.sk.text d.t, en := false }
  else if d.k = 2 then p.hold 1
  else if d.k = 3 then (if p.brk n need then p.endl else p.hold d.b.toNat)
  else if d.k = 4 then p.endl
  else if d.k = 5 then (if p.en then { p with sk := p.sk.empty, en := false } else p)
  else if d.k = 6 then { p with ar := p.bl :: p.ar, bl := ⟨min (p.bl.ind + d.i.toNat) 1000, d.e, p.fits n need⟩ }
  else if d.k = 7 then { p with bl := p.ar.headD ⟨0, false, false⟩, ar := p.ar.tail }
  else p
def puts (n : Nat) : List Dc → List Nat → Pr → Pr
  | d :: r, m :: ms, p => puts n r ms (put n d m p)
  | _, _, p => p
def pr0 : Pr := ⟨st0, ⟨0, false, false⟩, [], false⟩
def wout (n : Nat) (l : List Dc) : List UInt8 := (puts n l (nds l).1 pr0).sk.out
/-- What Print answers. -/
def wprn (n : Int) (l : List Dc) : ByteArray × Int := if n < 1 ∨ 4096 < n then (⟨#[]⟩, 1) else if frm 0 0 l ≠ none then (⟨#[]⟩, 70) else (⟨(wout n.toNat l).toArray⟩, 0)

/-! How much that may be. -/
def ud (d : Dc) : Nat := 2 * d.t.size + (if d.k = 6 ∨ d.k = 7 then 0 else 1001)
def uds (l : List Dc) : Nat := (l.map ud).sum
structure Bp (p : Pr) (U : Nat) : Prop where
  out : p.sk.out.length + p.sk.wait + (if p.sk.fresh then p.sk.col else 0) ≤ U
  col : p.sk.col + p.sk.wait ≤ U
  ind : p.bl.ind ≤ 1000
  ar : ∀ b ∈ p.ar, b.ind ≤ 1000
  wt : p.sk.fresh = true → p.sk.wait = 0
theorem bp0 : Bp pr0 0 := ⟨by simp [pr0, st0], by simp [pr0, st0], by simp [pr0], by simp [pr0], fun _ => rfl⟩
theorem Bp.mono {p : Pr} {U V : Nat} (h : Bp p U) (hv : U ≤ V) : Bp p V := ⟨Nat.le_trans h.out hv, Nat.le_trans h.col hv, h.ind, h.ar, h.wt⟩
theorem Bp.hold {p : Pr} {U : Nat} (h : Bp p U) (m : Nat) : Bp (p.hold m) (U + m) := by
  unfold Pr.hold
  split
  · exact h.mono (by omega)
  · rename_i hf
    have h1 := h.out; have h2 := h.col
    refine ⟨?_, ?_, h.ind, h.ar, fun e => absurd e hf⟩
    · show p.sk.out.length + (p.sk.wait + m) + (if p.sk.fresh then p.sk.col else 0) ≤ _
      omega
    · show p.sk.col + (p.sk.wait + m) ≤ _
      omega
theorem Bp.endl {p : Pr} {U : Nat} (h : Bp p U) : Bp p.endl (U + 1001) := by
  unfold Pr.endl
  split
  · exact h.mono (by omega)
  · rename_i hf
    have h1 := h.out; have h2 := h.col; have h3 := h.ind
    refine ⟨?_, ?_, h.ind, h.ar, fun _ => rfl⟩
    · show (p.sk.out ++ [10]).length + 0 + p.bl.ind ≤ _
      rw [List.length_append]; simp only [List.length_cons, List.length_nil]; omega
    · show p.bl.ind + 0 ≤ _
      omega
theorem put_bd {n need U : Nat} {d : Dc} {p : Pr} (hd : rt d = true) (h : Bp p U) : Bp (put n d need p) (U + ud d) := by
  have h1 := h.out; have h2 := h.col; have h3 := h.ind
  cases rt_of hd with
  | text t hq =>
    have hs := (rtT_len hq).1
    refine ⟨?_, ?_, h.ind, h.ar, ?_⟩
    · show (p.sk.text t).out.length + (p.sk.text t).wait + (if (p.sk.text t).fresh then (p.sk.text t).col else 0) ≤ U + ud ⟨1, t, 0, 0, false⟩
      unfold St6.text ud
      rw [if_neg (by omega)]
      have e : t.data.toList.length = t.size := by rw [Array.length_toList]; rfl
      simp only [List.length_append, List.length_replicate, e]
      cases hf : p.sk.fresh
      · rw [hf] at h1; simp at h1 ⊢; omega
      · rw [hf] at h1; simp at h1 ⊢; omega
    · show (p.sk.text t).col + (p.sk.text t).wait ≤ U + ud ⟨1, t, 0, 0, false⟩
      unfold St6.text ud
      rw [if_neg (by omega)]
      have := ncol_bd p.sk.col p.sk.wait t
      show (ncol p.sk.col p.sk.wait t).toNat + 0 ≤ _
      simp; omega
    · intro e
      exfalso
      have : (p.sk.text t).fresh = true := e
      unfold St6.text at this
      rw [if_neg (by omega)] at this
      cases this
  | brk m hq =>
    obtain ⟨q1, q2⟩ := rtN_of hq
    show Bp (if p.brk n need then p.endl else p.hold m.toNat) _
    split
    · exact h.endl.mono (by simp [ud, bE])
    · exact (h.hold _).mono (by simp [ud, bE]; omega)
  | beg m e hq =>
    refine ⟨Nat.le_trans h1 (by omega), Nat.le_trans h2 (by omega), ?_, ?_, h.wt⟩
    · show min (p.bl.ind + m.toNat) 1000 ≤ 1000
      omega
    · intro b hb
      rcases List.mem_cons.1 hb with rfl | hb
      · exact h3
      · exact h.ar b hb
  | blank => exact (h.hold 1).mono (by simp [ud, bE])
  | hard => exact h.endl.mono (by simp [ud, bE])
  | empty =>
    show Bp (if p.en then { p with sk := p.sk.empty, en := false } else p) _
    split
    · unfold St6.empty
      split
      · rename_i hf
        rw [if_pos hf] at h1
        refine ⟨?_, ?_, h3, h.ar, fun _ => rfl⟩
        · show (p.sk.out ++ [10]).length + 0 + p.sk.col ≤ _
          rw [List.length_append]; simp [ud, bE]; omega
        · show p.sk.col + 0 ≤ _
          omega
      · rename_i hf
        exact ⟨Nat.le_trans h1 (by omega), Nat.le_trans h2 (by omega), h3, h.ar, h.wt⟩
    · exact h.mono (by omega)
  | «end» =>
    refine ⟨Nat.le_trans h1 (by omega), Nat.le_trans h2 (by omega), ?_, fun b hb => h.ar b (List.mem_of_mem_tail hb), h.wt⟩
    show (p.ar.headD ⟨0, false, false⟩).ind ≤ 1000
    cases ha : p.ar with
    | nil => simp
    | cons b r => exact h.ar b (by rw [ha]; exact List.mem_cons_self)
theorem puts_bd {n : Nat} : ∀ (l : List Dc) (ms : List Nat) (p : Pr) (U : Nat), (∀ d ∈ l, rt d = true) → Bp p U → Bp (puts n l ms p) (U + uds l)
  | [], ms, p, U, _, h => by simpa [puts, uds] using h
  | d :: r, [], p, U, _, h => h.mono (by omega)
  | d :: r, m :: ms, p, U, hr, h => by
    have := puts_bd (n := n) r ms _ _ (fun x hx => hr x (List.mem_cons_of_mem _ hx)) (put_bd (n := n) (need := m) (hr d List.mem_cons_self) h)
    have e : U + uds (d :: r) = U + ud d + uds r := by simp [uds]; omega
    rw [e]; exact this
/-- How deep the printing stands. -/
theorem put_deep {n need : Nat} {d : Dc} {p : Pr} (hd : rt d = true) {o : Int} (h : (p.ar.length : Int) = o) (ho : 0 ≤ o + dep d.k) : ((put n d need p).ar.length : Int) = o + dep d.k := by
  cases rt_of hd with
  | text t hq => simpa [put, dep] using h
  | brk m hq =>
    have : ((put n ⟨3, bE, m, 0, false⟩ need p).ar) = p.ar := by
      show (if p.brk n need then p.endl else p.hold m.toNat).ar = p.ar
      unfold Pr.endl Pr.hold
      repeat' split
      all_goals rfl
    rw [this]; simpa [dep] using h
  | beg m e hq =>
    show (((p.bl :: p.ar).length : Nat) : Int) = o + 1
    simp; omega
  | blank =>
    have : (p.hold 1).ar = p.ar := by unfold Pr.hold; split <;> rfl
    show ((p.hold 1).ar.length : Int) = o + 0
    rw [this]; omega
  | hard =>
    have : p.endl.ar = p.ar := by unfold Pr.endl; split <;> rfl
    show (p.endl.ar.length : Int) = o + 0
    rw [this]; omega
  | empty =>
    have : (if p.en then { p with sk := p.sk.empty, en := false } else p).ar = p.ar := by split <;> rfl
    show (((if p.en then { p with sk := p.sk.empty, en := false } else p).ar.length : Nat) : Int) = o + 0
    rw [this]; omega
  | «end» =>
    show ((p.ar.tail.length : Nat) : Int) = o + -1
    have : 0 ≤ o + -1 := ho
    rw [List.length_tail]; omega
end Go.Proofs.YtmjhfabdbajchaaGreatDoor
set_option linter.unusedVariables false
set_option linter.unusedSimpArgs false
namespace Go.Proofs.YtmjhfabdbajchaaGreatDoor

/-! The widths, from the front. -/
def okB (N S : Nat → Nat) (Y a h : Nat) : Option Nat → Prop
  | none => True
  | some p => S p ≤ Y ∧ N p = min (Y - S p + (a + h)) 4097
theorem okB.cong {N S : Nat → Nat} {Y a h a' h' : Nat} {b : Option Nat} (k : okB N S Y a h b) (e : min (a + h) 4097 = min (a' + h') 4097) : okB N S Y a' h' b := by
  cases b with
  | none => trivial
  | some p => exact ⟨k.1, by rw [k.2]; omega⟩
theorem okB.shift {N S : Nat → Nat} {Y w a h : Nat} {b : Option Nat} (k : okB N S Y (w + a) h b) : okB N S (Y + w) a h b := by
  cases b with
  | none => trivial
  | some p => have := k.1; exact ⟨by omega, by rw [k.2]; congr 1; omega⟩
inductive Fw (N S : Nat → Nat) : Nat → Nat → Sp → List Sp → List Nat → List (Option Nat) → Prop
  | base {Y a : Nat} {sp : Sp} {b : Option Nat} : okB N S Y a sp.hang b → Fw N S Y a sp [] [] [b]
  | cons {Y a : Nat} {sp s : Sp} {stk : List Sp} {g : Nat} {gs : List Nat} {b : Option Nat} {bs : List (Option Nat)} : okB N S Y a sp.hang b → okB N S Y a sp.all (some g) → Fw N S Y (a + sp.all) s stk gs bs → Fw N S Y a sp (s :: stk) (g :: gs) (b :: bs)
theorem Fw.cong {N S : Nat → Nat} {Y a : Nat} {sp : Sp} {stk : List Sp} {gs : List Nat} {bs : List (Option Nat)} (h : Fw N S Y a sp stk gs bs) : ∀ {a' : Nat}, min a 4097 = min a' 4097 → Fw N S Y a' sp stk gs bs := by
  induction h with
  | base k => exact fun e => .base (k.cong (by omega))
  | cons k1 k2 _ ih => exact fun e => .cons (k1.cong (by omega)) (k2.cong (by omega)) (ih (by omega))
theorem Fw.wid {N S : Nat → Nat} {Y a w : Nat} {sp : Sp} {stk : List Sp} {gs : List Nat} {bs : List (Option Nat)} (h : Fw N S Y a (sp.wid w) stk gs bs) : Fw N S Y (a + w) sp stk gs bs := by
  cases h with
  | base k => exact .base (k.cong (by simp only [Sp.wid]; omega))
  | cons k1 k2 k3 => exact .cons (k1.cong (by simp only [Sp.wid]; omega)) (k2.cong (by simp only [Sp.wid]; omega)) (k3.cong (by simp only [Sp.wid]; omega))
theorem Fw.shift {N S : Nat → Nat} {Y A : Nat} {sp : Sp} {stk : List Sp} {gs : List Nat} {bs : List (Option Nat)} (h : Fw N S Y A sp stk gs bs) : ∀ {w a : Nat}, A = w + a → Fw N S (Y + w) a sp stk gs bs := by
  induction h with
  | base k => intro w a e; subst e; exact .base k.shift
  | cons k1 k2 _ ih => intro w a e; subst e; exact .cons k1.shift k2.shift (ih (by omega))
theorem Fw.plain {N S : Nat → Nat} {Y w : Nat} {sp : Sp} {stk : List Sp} {gs : List Nat} {bs : List (Option Nat)} (h : Fw N S Y 0 (sp.wid w) stk gs bs) : Fw N S (Y + w) 0 sp stk gs bs := h.wid.shift (by omega)
theorem Fw.top {N S : Nat → Nat} {Y a : Nat} {sp : Sp} {stk : List Sp} {gs : List Nat} {bs : List (Option Nat)} (h : Fw N S Y a sp stk gs bs) : ∃ b bs', bs = b :: bs' ∧ okB N S Y a sp.hang b := by
  cases h with
  | base k => exact ⟨_, _, rfl, k⟩
  | cons k1 _ _ => exact ⟨_, _, rfl, k1⟩
theorem Fw.setTop {N S : Nat → Nat} {Y a A h h' : Nat} {stk : List Sp} {gs : List Nat} {b b' : Option Nat} {bs : List (Option Nat)} (k : Fw N S Y a ⟨A, h⟩ stk gs (b :: bs)) (hb : okB N S Y a h' b') : Fw N S Y a ⟨A, h'⟩ stk gs (b' :: bs) := by
  cases k with
  | base _ => exact .base hb
  | cons _ k2 k3 => exact .cons hb k2 k3
theorem Fw.lens {N S : Nat → Nat} {Y a : Nat} {sp : Sp} {stk : List Sp} {gs : List Nat} {bs : List (Option Nat)} (h : Fw N S Y a sp stk gs bs) : gs.length = stk.length ∧ bs.length = stk.length + 1 := by
  induction h with
  | base _ => exact ⟨rfl, rfl⟩
  | cons _ _ _ ih => exact ⟨by simp [ih.1], by simp [ih.2]⟩

/-- Far, and how wide the others are. -/
def isF (d : Dc) : Bool := decide (d.k = 1) && hasF d.t || decide (d.k = 4) || decide (d.k = 5)
def fwd (d : Dc) : Nat := if isF d then 0 else pw d
theorem pw_split (d : Dc) : pw d = fwd d + (if isF d then 4097 else 0) := by
  unfold fwd
  by_cases h : isF d = true
  · rw [if_pos h, if_pos h]
    unfold isF at h
    unfold pw
    simp only [Bool.or_eq_true, Bool.and_eq_true, decide_eq_true_eq] at h
    rcases h with (⟨h1, h2⟩ | h) | h
    · rw [if_pos h1, if_pos h2]
    · rw [if_neg (by omega), if_neg (by omega), if_neg (by omega), if_pos (.inl h)]
    · rw [if_neg (by omega), if_neg (by omega), if_neg (by omega), if_pos (.inr h)]
  · rw [if_neg h, if_neg h]; omega
def Sf (l : List Dc) (i : Nat) : Nat := ((l.take i).map fwd).sum
def Fc (l : List Dc) (i : Nat) : Nat := ((l.take i).map fun d => if isF d then 1 else 0).sum
def Sg (l : List Dc) (i : Nat) : Nat := Sf l i + 4097 * Fc l i
theorem Sf_succ {l : List Dc} {i : Nat} {d : Dc} (h : l[i]? = some d) : Sf l (i + 1) = Sf l i + fwd d := by
  unfold Sf; rw [List.take_add_one, h]; simp
theorem Fc_succ {l : List Dc} {i : Nat} {d : Dc} (h : l[i]? = some d) : Fc l (i + 1) = Fc l i + (if isF d then 1 else 0) := by
  unfold Fc; rw [List.take_add_one, h]; simp
theorem Sg_succ {l : List Dc} {i : Nat} {d : Dc} (h : l[i]? = some d) : Sg l (i + 1) = Sg l i + pw d := by
  unfold Sg
  rw [Sf_succ h, Fc_succ h, pw_split]
  by_cases hf : isF d = true
  · rw [if_pos hf, if_pos hf]; omega
  · rw [if_neg hf, if_neg hf]; omega
theorem Sf_mono (l : List Dc) {p i : Nat} (h : p ≤ i) : Sf l p ≤ Sf l i ∧ Fc l p ≤ Fc l i := by
  induction i with
  | zero => have : p = 0 := by omega
            subst this; exact ⟨Nat.le_refl _, Nat.le_refl _⟩
  | succ i ih =>
    by_cases he : p = i + 1
    · subst he; exact ⟨Nat.le_refl _, Nat.le_refl _⟩
    · obtain ⟨h1, h2⟩ := ih (by omega)
      cases hd : l[i]? with
      | none =>
        have e : l.take (i + 1) = l.take i := by rw [List.take_add_one, hd]; simp
        unfold Sf Fc at *
        rw [e]; exact ⟨h1, h2⟩
      | some d => rw [Sf_succ hd, Fc_succ hd]; omega
/-- What the document's 'between' answers. -/
def btw (l : List Dc) (p i : Nat) : Nat := if Fc l p < Fc l i then 1099511627776 else Sf l i - Sf l p
theorem btw_min (l : List Dc) {p i : Nat} (h : p ≤ i) : min (btw l p i) 4097 = min (Sg l i - Sg l p) 4097 := by
  obtain ⟨h1, h2⟩ := Sf_mono l h
  unfold btw Sg
  split <;> omega

/-- How the widths stand ahead of the piece i. -/
def Nd (l : List Dc) (p : Nat) : Nat := (nds l).1.getD p 0
structure FwI (l : List Dc) (i : Nat) (gs : List Nat) (bs : List (Option Nat)) : Prop where
  fr : frm gs.length i (l.drop i) = none
  fw : Fw (Nd l) (Sg l) (Sg l i) 0 (nds (l.drop i)).2.1 (nds (l.drop i)).2.2 gs bs
  lg : ∀ g ∈ gs, g < i
  lb : ∀ p, some p ∈ bs → p < i
theorem fw_first {l : List Dc} (h : frm 0 0 l = none) : FwI l 0 [] [none] := by
  have hd := nds_deep l 0 0 (Int.le_refl _) h
  have h0 : (nds l).2.2 = [] := List.eq_nil_of_length_eq_zero (by omega)
  refine ⟨by simpa using h, ?_, by simp, by simp⟩
  rw [List.drop_zero, h0]
  exact .base trivial
theorem Nd_at {l : List Dc} {i : Nat} {d : Dc} (h : l[i]? = some d) : Nd l i = (tell d (nds (l.drop (i + 1))).2).1 ∧ (nds (l.drop i)).2 = (tell d (nds (l.drop (i + 1))).2).2 ∧ l.drop i = d :: l.drop (i + 1) := by
  have hl := (List.getElem?_eq_some_iff.1 h).1
  have e : l.drop i = d :: l.drop (i + 1) := by
    rw [List.drop_eq_getElem_cons hl]; congr 1; exact (List.getElem?_eq_some_iff.1 h).2
  refine ⟨?_, by rw [e]; rfl, e⟩
  have := nds_drop l i
  rw [e] at this
  unfold Nd
  have e2 : (nds l).1.getD i 0 = ((nds l).1.drop i).getD 0 0 := by simp [List.getD_eq_getElem?_getD]
  rw [e2, ← this]; rfl
theorem FwI.rt {l : List Dc} {i : Nat} {gs : List Nat} {bs : List (Option Nat)} (h : FwI l i gs bs) {d : Dc} (hd : l[i]? = some d) : Go.Proofs.YtmjhfabdbajchaaGreatDoor.rt d = true ∧ 0 ≤ (gs.length : Int) + dep d.k ∧ frm ((gs.length : Int) + dep d.k) (i + 1) (l.drop (i + 1)) = none := by
  have hf := h.fr
  rw [(Nd_at hd).2.2] at hf
  have e : ∀ o j r, frm o j (d :: r) = if Go.Proofs.YtmjhfabdbajchaaGreatDoor.rt d = true ∧ 0 ≤ o + dep d.k then frm (o + dep d.k) (j + 1) r else some j := fun _ _ _ => rfl
  rw [e] at hf
  by_cases hc : Go.Proofs.YtmjhfabdbajchaaGreatDoor.rt d = true ∧ 0 ≤ (gs.length : Int) + dep d.k
  · rw [if_pos hc] at hf; exact ⟨hc.1, hc.2, hf⟩
  · rw [if_neg hc] at hf; cases hf
def Set1 (l : List Dc) (i p : Nat) : Prop := p < i ∧ Nd l p = min (btw l p i) 4097
theorem set_of {l : List Dc} {i p : Nat} (hp : p < i) (k : okB (Nd l) (Sg l) (Sg l i) 0 0 (some p)) : Set1 l i p :=
  ⟨hp, by rw [k.2, btw_min l (Nat.le_of_lt hp)]; rfl⟩
theorem FwI.plain {l : List Dc} {i : Nat} {gs : List Nat} {bs : List (Option Nat)} (h : FwI l i gs bs) {d : Dc} (hd : l[i]? = some d) (hk : d.k = 1 ∨ d.k = 2) : FwI l (i + 1) gs bs := by
  obtain ⟨h1, h2, h3⟩ := h.rt hd
  obtain ⟨_, n2, _⟩ := Nd_at hd
  have e0 : dep d.k = 0 := by unfold dep; rw [if_neg (by omega), if_neg (by omega)]
  rw [e0, Int.add_zero] at h3
  refine ⟨h3, ?_, fun g hg => Nat.lt_succ_of_lt (h.lg g hg), fun p hp => Nat.lt_succ_of_lt (h.lb p hp)⟩
  have hw := h.fw
  have e : tell d (nds (l.drop (i + 1))).2 = (0, (nds (l.drop (i + 1))).2.1.wid (pw d), (nds (l.drop (i + 1))).2.2) := by
    unfold tell; rw [if_neg (by omega), if_neg (by omega), if_neg (by omega), if_neg (by omega)]
  rw [n2, e] at hw
  rw [Sg_succ hd]
  exact hw.plain
theorem FwI.brk {l : List Dc} {i : Nat} {gs : List Nat} {b : Option Nat} {bs : List (Option Nat)} (h : FwI l i gs (b :: bs)) {d : Dc} (hd : l[i]? = some d) (hk : d.k = 3) : (∀ p, b = some p → Set1 l i p) ∧ FwI l (i + 1) gs (some i :: bs) := by
  obtain ⟨h1, h2, h3⟩ := h.rt hd
  obtain ⟨n1, n2, _⟩ := Nd_at hd
  have e0 : dep d.k = 0 := by unfold dep; rw [if_neg (by omega), if_neg (by omega)]
  rw [e0, Int.add_zero] at h3
  have hw := h.fw
  have e : tell d (nds (l.drop (i + 1))).2 = (((nds (l.drop (i + 1))).2.1.wid (pw d)).hang, ⟨((nds (l.drop (i + 1))).2.1.wid (pw d)).all, 0⟩, (nds (l.drop (i + 1))).2.2) := by
    unfold tell; rw [if_neg (by omega), if_neg (by omega), if_pos hk]
  rw [e] at n1
  rw [n2, e] at hw
  obtain ⟨b', bs', eb, ob⟩ := hw.top
  simp only [List.cons.injEq] at eb
  obtain ⟨rfl, rfl⟩ := eb
  refine ⟨fun p hp => set_of (h.lb p (by rw [hp]; exact List.mem_cons_self)) (by rw [hp] at ob; exact ob), h3, ?_, fun g hg => Nat.lt_succ_of_lt (h.lg g hg), ?_⟩
  · have hs := hw.setTop (h' := ((nds (l.drop (i + 1))).2.1.wid (pw d)).hang) (b' := some i) ⟨Nat.le_refl _, by rw [n1]; have := (wid_bd (nds (l.drop (i + 1))).2.1 (pw d)).2; omega⟩
    rw [Sg_succ hd]
    exact Fw.plain hs
  · intro p hp
    rcases List.mem_cons.1 hp with hp | hp
    · cases hp; omega
    · exact Nat.lt_succ_of_lt (h.lb p (List.mem_cons_of_mem _ hp))
theorem FwI.hard {l : List Dc} {i : Nat} {gs : List Nat} {b : Option Nat} {bs : List (Option Nat)} (h : FwI l i gs (b :: bs)) {d : Dc} (hd : l[i]? = some d) (hk : d.k = 4 ∨ d.k = 5) : (∀ p, b = some p → Set1 l i p) ∧ FwI l (i + 1) gs (none :: bs) := by
  obtain ⟨h1, h2, h3⟩ := h.rt hd
  obtain ⟨n1, n2, _⟩ := Nd_at hd
  have e0 : dep d.k = 0 := by unfold dep; rw [if_neg (by omega), if_neg (by omega)]
  rw [e0, Int.add_zero] at h3
  have hw := h.fw
  have e : tell d (nds (l.drop (i + 1))).2 = (0, ⟨((nds (l.drop (i + 1))).2.1.wid (pw d)).all, 0⟩, (nds (l.drop (i + 1))).2.2) := by
    unfold tell; rw [if_neg (by omega), if_neg (by omega), if_neg (by omega), if_pos hk]
  rw [n2, e] at hw
  obtain ⟨b', bs', eb, ob⟩ := hw.top
  simp only [List.cons.injEq] at eb
  obtain ⟨rfl, rfl⟩ := eb
  refine ⟨fun p hp => set_of (h.lb p (by rw [hp]; exact List.mem_cons_self)) (by rw [hp] at ob; exact ob), h3, ?_, fun g hg => Nat.lt_succ_of_lt (h.lg g hg), ?_⟩
  · have hs := hw.setTop (h' := ((nds (l.drop (i + 1))).2.1.wid (pw d)).hang) (b' := none) trivial
    rw [Sg_succ hd]
    exact Fw.plain hs
  · intro p hp
    rcases List.mem_cons.1 hp with hp | hp
    · cases hp
    · exact Nat.lt_succ_of_lt (h.lb p (List.mem_cons_of_mem _ hp))
theorem pw_6 {d : Dc} (hk : d.k = 6 ∨ d.k = 7) : pw d = 0 := by
  unfold pw; rw [if_neg (by omega), if_neg (by omega), if_neg (by omega), if_neg (by omega)]
theorem FwI.beg {l : List Dc} {i : Nat} {gs : List Nat} {bs : List (Option Nat)} (h : FwI l i gs bs) {d : Dc} (hd : l[i]? = some d) (hk : d.k = 6) : FwI l (i + 1) (i :: gs) (none :: bs) := by
  obtain ⟨h1, h2, h3⟩ := h.rt hd
  obtain ⟨n1, n2, _⟩ := Nd_at hd
  have e0 : dep d.k = 1 := by unfold dep; rw [if_pos hk]
  rw [e0] at h3
  have hw := h.fw
  have e : tell d (nds (l.drop (i + 1))).2 = ((nds (l.drop (i + 1))).2.1.all, ((nds (l.drop (i + 1))).2.2.headD ⟨0, 0⟩).wid (nds (l.drop (i + 1))).2.1.all, (nds (l.drop (i + 1))).2.2.tail) := by
    unfold tell; rw [if_neg (by omega), if_pos hk]
  rw [e] at n1
  rw [n2, e] at hw
  have hdp := nds_deep _ _ _ (by omega) h3
  have hbd := (nds_bd (l.drop (i + 1))).2.1.1
  refine ⟨by simpa using h3, ?_, ?_, ?_⟩
  · rw [Sg_succ hd, pw_6 (.inl hk), Nat.add_zero]
    cases hs : (nds (l.drop (i + 1))).2.2 with
    | nil => rw [hs] at hdp; simp at hdp; omega
    | cons s stk =>
      rw [hs] at hw
      refine .cons trivial ⟨Nat.le_refl _, by rw [n1]; simp only; omega⟩ ?_
      exact hw.wid
  · intro g hg
    rcases List.mem_cons.1 hg with rfl | hg
    · omega
    · exact Nat.lt_succ_of_lt (h.lg g hg)
  · intro p hp
    rcases List.mem_cons.1 hp with hp | hp
    · cases hp
    · exact Nat.lt_succ_of_lt (h.lb p hp)
theorem FwI.fin {l : List Dc} {i : Nat} {gs : List Nat} {bs : List (Option Nat)} (h : FwI l i gs bs) {d : Dc} (hd : l[i]? = some d) (hk : d.k = 7) :
    ∃ g gs' b bs', gs = g :: gs' ∧ bs = b :: bs' ∧ Set1 l i g ∧ (∀ p, b = some p → Set1 l i p) ∧ FwI l (i + 1) gs' bs' := by
  obtain ⟨h1, h2, h3⟩ := h.rt hd
  obtain ⟨n1, n2, _⟩ := Nd_at hd
  have e0 : dep d.k = -1 := by unfold dep; rw [if_neg (by omega), if_pos hk]
  rw [e0] at h3 h2
  have hw := h.fw
  have e : tell d (nds (l.drop (i + 1))).2 = (0, ⟨0, 0⟩, (nds (l.drop (i + 1))).2.1 :: (nds (l.drop (i + 1))).2.2) := by
    unfold tell; rw [if_pos hk]
  rw [n2, e] at hw
  generalize hsp : (nds (l.drop (i + 1))).2.1 = sp at hw
  generalize hst : (nds (l.drop (i + 1))).2.2 = st at hw
  have lg := h.lg
  have lb := h.lb
  cases hw with
  | cons k1 k2 k3 =>
    rename_i g gs' b bs'
    refine ⟨g, gs', b, bs', rfl, rfl, set_of (lg g List.mem_cons_self) k2, fun p hp => set_of (lb p (by rw [hp]; exact List.mem_cons_self)) (by rw [hp] at k1; exact k1), ?_, ?_, fun g hg => Nat.lt_succ_of_lt (lg g (List.mem_cons_of_mem _ hg)), fun p hp => Nat.lt_succ_of_lt (lb p (List.mem_cons_of_mem _ hp))⟩
    · have e : (((g :: gs').length : Nat) : Int) + -1 = gs'.length := by simp; omega
      rw [e] at h3; exact h3
    · rw [Sg_succ hd, pw_6 (.inr hk), Nat.add_zero, hsp, hst]
      exact k3
theorem FwI.last {l : List Dc} {gs : List Nat} {bs : List (Option Nat)} (h : FwI l l.length gs bs) : gs = [] ∧ ∃ b, bs = [b] ∧ ∀ p, b = some p → Set1 l l.length p := by
  have hw := h.fw
  rw [List.drop_length] at hw
  have lb := h.lb
  have hw' : Fw (Nd l) (Sg l) (Sg l l.length) 0 ⟨0, 0⟩ [] gs bs := hw
  cases hw' with
  | base k =>
    rename_i b
    exact ⟨rfl, b, rfl, fun p hp => set_of (lb p (by rw [hp]; exact List.mem_cons_self)) (by rw [hp] at k; exact k)⟩
end Go.Proofs.YtmjhfabdbajchaaGreatDoor
set_option linter.unusedVariables false
set_option linter.unusedSimpArgs false
namespace Go.Proofs.YtmjhfabdbajchaaGreatDoor
open Go.RowKit

/-! Of layer 8, what stands without the package whole. -/
/-- What is no printer's and no sink's stands. -/
def Sd (own own' : Nat → Nat) (W W' : World) : Prop := ∀ k, k < W.heap.size → own k = 0 → W'.heap[k]? = W.heap[k]? ∧ own' k = 0
theorem Sd.refl (own : Nat → Nat) (W : World) : Sd own own W W := fun k _ h => ⟨rfl, h⟩
theorem Sd.trans {o1 o2 o3 : Nat → Nat} {A C D : World} (h : Sd o1 o2 A C) (hs : A.heap.size ≤ C.heap.size) (k : Sd o2 o3 C D) : Sd o1 o3 A D := fun j hj h0 =>
  ⟨(k j (by omega) (h j hj h0).2).1.trans (h j hj h0).1, (k j (by omega) (h j hj h0).2).2⟩
theorem puts_snoc (n : Nat) : ∀ (l : List Dc) (ms : List Nat) (p : Pr) (k : Nat) (d : Dc) (m : Nat), l[k]? = some d → ms[k]? = some m → puts n (l.take (k + 1)) (ms.take (k + 1)) p = put n d m (puts n (l.take k) (ms.take k) p)
  | [], ms, p, k, d, m, h, _ => by simp at h
  | x :: l, [], p, k, d, m, _, h => by simp at h
  | x :: l, y :: ms, p, 0, d, m, h1, h2 => by
    simp at h1 h2
    subst h1 h2
    simp [puts]
  | x :: l, y :: ms, p, k + 1, d, m, h1, h2 => by
    have := puts_snoc n l ms (put n x y p) k d m (by simpa using h1) (by simpa using h2)
    simpa [puts] using this
/-- How the printing stands behind k pieces. -/
def pst (n : Nat) (l : List Dc) (k : Nat) : Pr := puts n (l.take k) ((nds l).1.take k) pr0
theorem pst_succ {n : Nat} {l : List Dc} {k : Nat} {d : Dc} (h : l[k]? = some d) : ∃ m, (nds l).1[k]? = some m ∧ m ≤ 4097 ∧ pst n l (k + 1) = put n d m (pst n l k) := by
  have hk := (List.getElem?_eq_some_iff.1 h).1
  obtain ⟨m, hm⟩ : ∃ m, (nds l).1[k]? = some m := ⟨_, List.getElem?_eq_getElem (by rw [nds_len]; exact hk)⟩
  exact ⟨m, hm, (nds_bd l).1 m (List.mem_of_getElem? hm), puts_snoc n l _ pr0 k d m h hm⟩
theorem pst_end (n : Nat) (l : List Dc) : (pst n l l.length).sk.out = wout n l := by
  unfold pst wout
  rw [List.take_length, List.take_of_length_le (by rw [nds_len]; exact Nat.le_refl _)]
theorem uds_take (l : List Dc) (k : Nat) : uds (l.take k) ≤ uds l := by
  unfold uds
  have : (l.map ud).sum = ((l.take k).map ud).sum + ((l.drop k).map ud).sum := by
    rw [← List.sum_append, ← List.map_append, List.take_append_drop]
  omega
theorem pst_bd {n : Nat} {l : List Dc} (hr : ∀ d ∈ l, rt d = true) (k : Nat) : Bp (pst n l k) (uds l) := by
  have := puts_bd (n := n) (l.take k) ((nds l).1.take k) pr0 0 (fun d hd => hr d (List.mem_of_mem_take hd)) bp0
  exact this.mono (by have := uds_take l k; omega)
theorem pst_deep {n : Nat} {l : List Dc} (hf : frm 0 0 l = none) : ∀ k : Nat, k ≤ l.length → ∃ o : Int, 0 ≤ o ∧ o ≤ k ∧ ((pst n l k).ar.length : Int) = o ∧ frm o k (l.drop k) = none
  | 0, _ => ⟨0, Int.le_refl _, Int.le_refl _, by simp [pst, puts, pr0], by simpa using hf⟩
  | k + 1, hk => by
    obtain ⟨o, h0, h1, h2, h3⟩ := pst_deep hf k (by omega)
    obtain ⟨d, hd⟩ : ∃ d, l[k]? = some d := ⟨_, List.getElem?_eq_getElem (by omega)⟩
    obtain ⟨m, _, _, e⟩ := pst_succ (n := n) hd
    rw [frm_step hd] at h3
    split at h3
    · rename_i hc
      refine ⟨o + dep d.k, hc.2, ?_, ?_, h3⟩
      · have : dep d.k ≤ 1 := by unfold dep; split; omega; split <;> omega
        omega
      · rw [e]
        exact put_deep hc.1 h2 hc.2
    · cases h3
theorem pst_seven {n : Nat} {l : List Dc} (hf : frm 0 0 l = none) {k : Nat} {d : Dc} (hd : l[k]? = some d) : d.k = 7 → (pst n l k).ar ≠ [] := by
  intro h7 hn
  have hk := (List.getElem?_eq_some_iff.1 hd).1
  obtain ⟨o, h0, h1, h2, h3⟩ := pst_deep (n := n) hf k (by omega)
  rw [frm_step hd] at h3
  split at h3
  · rename_i hc
    have := hc.2
    rw [h7, show dep 7 = -1 from rfl] at this
    rw [hn] at h2
    simp at h2
    omega
  · cases h3
def dT (l : List UInt8) : Dc := ⟨1, ⟨l.toArray⟩, 0, 0, false⟩
def dK (k : Int) : Dc := ⟨k, bE, 0, 0, false⟩
theorem u8_ne (c d : UInt8) (h : c ≠ d) : ((c.toNat : Int) == (d.toNat : Int)) = false := by
  rw [beq_eq_false_iff_ne]
  intro e
  exact h (UInt8.toNat_inj.1 (by omega))
theorem at_ls (s : ByteArray) (k : Nat) (h : k < s.size) : (lsb s).getD k 0 = s[k] := (Lib.getD_at s k h).symm
theorem at_ls' (s : ByteArray) (k : Nat) (h : k < s.size) : (lsb s)[k]? = some s[k] := by
  have := at_ls s k h
  rw [List.getD_eq_getElem?_getD, List.getElem?_eq_getElem (by rw [ls_len]; exact h)] at this
  rw [List.getElem?_eq_getElem (by rw [ls_len]; exact h), ← this]; rfl
theorem put_6 {n m : Nat} {d : Dc} (hd : d.k = 6) (p : Pr) : put n d m p = { p with ar := p.bl :: p.ar, bl := ⟨min (p.bl.ind + d.i.toNat) 1000, d.e, p.fits n m⟩ } := by
  simp [put, hd]
def rep (m : Nat) : List UInt8 := List.replicate m 32
theorem row_kept {B e sz n : Nat} {w w' : World} {v : Value} {xs : List Value} (hr : w.ownsRow B e sz v n xs) (hb : Below w.heap.size w w') : w'.ownsRow B e sz v n xs := by
  refine ⟨hr.1, ?_⟩
  rcases hr.2 with h1 | ⟨g, cap, cur, rfl, h2, h3, h4⟩
  · exact .inl h1
  · exact .inr ⟨g, cap, cur, rfl, h2, blk_below h3 hb, h4⟩
def dwd (d : Dc) : Nat := if isF d then 1099511627776 else fwd d
set_option maxHeartbeats 1000000 in
theorem dwide_any (d : Dc) (hd : rt d = true) (hs : d.t.size ≤ 2147483647) (w : World) : Calls Tryz.prog 110 #[.agg #[.int .u8 d.k, .string d.t, .int .i64 d.b, .int .i64 d.i, .bool d.e]] w fun e w' => e = .returned (.int .i64 (dwd d : Nat)) ∧ Below w.heap.size w w' := by
  cases rt_of hd with
  | text t hq =>
    have hz : dwd ⟨1, t, 0, 0, false⟩ = if hasF t then 1099511627776 else (tw t).toNat := by
      unfold dwd fwd isF pw; cases h : hasF t <;> simp [h]
    rw [hz]
    have hb := tw_bd t
    have HH : Hid (hasF t = decide ((10 : UInt8) ∈ lsb t)) := rfl
    have HT : Hid (∀ W, Calls Tryz.prog 140 #[.string t] W fun e w' => e = .returned (.int .i64 ((tw t).toNat : Nat)) ∧ Below W.heap.size W w') := fun W => by
      rw [show (((tw t).toNat : Nat) : Int) = tw t by omega]; exact rtext_any t W hs
    generalize (tw t).toNat = z at *
    generalize hasF t = b at *
    clear hz hb
    simp only at hs
    obtain ⟨R, hR⟩ : ∃ R : Nat, (if b = true then 1099511627776 else z) = R := ⟨_, rfl⟩
    rw [hR]
    have HR : Hid ((if b = true then 1099511627776 else z) = R) := hR
    clear hR
    have hB1 := (Below.refl w.heap.size w).alloc (Nat.le_refl _) (.cells #[.int .u8 1, .string t, .int .i64 0, .int .i64 0, .bool false] 37)
    go_enter Tryz.func110, Tryz.ntmps110
    go_wp2_with fail
    go_loopw [3] (fun i wr => ∃ k : Nat, k ≤ t.size ∧ i = .int .i64 k ∧ Hid ((10 : UInt8) ∉ (lsb t).take k) ∧ wr = w.alloc (.cells #[.int .u8 1, .string t, .int .i64 0, .int .i64 0, .bool false] 37)) (fun i _ => t.size - (intOf i).toNat)
    case atStart => exact ⟨0, Nat.zero_le _, rfl, (by show ¬ _; simp), rfl⟩
    case round =>
      obtain ⟨k, hk, rfl, HI, rfl⟩ := hrel
      by_cases hlt : k < t.size
      · have q1 : (k : Int) < t.size := by omega
        have q2 : (0 : Int) ≤ k := by omega
        have hat := at_ls' t k hlt
        obtain ⟨c, hc⟩ : ∃ c, t[k] = c := ⟨_, rfl⟩
        rw [hc] at hat
        by_cases h10 : c = 10
        · subst h10
          have HE : Hid (b = true) := by
            show _ = _
            rw [HH.out]; exact decide_eq_true (List.mem_of_getElem? hat)
          clear hat HI HH
          go_wp2_with fail
          go_ret
          exact ⟨by rw [← HR.out, HE.out]; rfl, hB1⟩
        · have n2 : ((c.toNat : Int) == 10) = false := u8_ne c 10 h10
          have HE : Hid ((10 : UInt8) ∉ (lsb t).take (k + 1)) := by
            show ¬ _
            rw [List.take_add_one, hat]
            intro hm
            rcases List.mem_append.1 hm with hm | hm
            · exact HI.out hm
            · simp at hm; exact h10 hm.symm
          clear hat HI
          go_wp2_with fail
          exact ⟨⟨k + 1, hlt, by go_num, HE.out, by trivial⟩, by simp [intOf]; omega⟩
      · obtain rfl : k = t.size := by omega
        have q1 : ¬ ((t.size : Int) < t.size) := by omega
        have HE : Hid (b = false) := by
          show _ = _
          rw [HH.out]
          have := HI.out
          rw [List.take_of_length_le (by rw [ls_len]; exact Nat.le_refl _)] at this
          exact decide_eq_false this
        clear HI HH
        go_wp2_with (go_at_call 140; refine (HT.out _).mono ?_; rintro e w2 ⟨rfl, hb2⟩)
        go_ret
        exact ⟨by rw [← HR.out, HE.out]; rfl, hB1.trans (hb2.mono hB1.size)⟩
  | brk m hq =>
    obtain ⟨q1, q2⟩ := rtN_of hq
    have hz : ((dwd ⟨3, bE, m, 0, false⟩ : Nat) : Int) = m := by
      have : dwd ⟨3, bE, m, 0, false⟩ = m.toNat := by unfold dwd fwd isF pw; simp
      rw [this]; omega
    rw [hz]
    go_enter Tryz.func110, Tryz.ntmps110
    go_wp2_with fail
    go_ret
    exact ⟨rfl, (Below.refl _ _).alloc (Nat.le_refl _) _⟩
  | beg m e hq =>
    have hz : dwd ⟨6, bE, 0, m, e⟩ = 0 := by unfold dwd fwd isF pw; simp
    rw [hz]
    go_enter Tryz.func110, Tryz.ntmps110
    go_wp2_with fail
    go_ret
    exact ⟨rfl, (Below.refl _ _).alloc (Nat.le_refl _) _⟩
  | blank =>
    go_enter Tryz.func110, Tryz.ntmps110
    go_wp2_with fail
    go_ret
    exact ⟨rfl, (Below.refl _ _).alloc (Nat.le_refl _) _⟩
  | hard =>
    go_enter Tryz.func110, Tryz.ntmps110
    go_wp2_with fail
    go_ret
    exact ⟨rfl, (Below.refl _ _).alloc (Nat.le_refl _) _⟩
  | empty =>
    go_enter Tryz.func110, Tryz.ntmps110
    go_wp2_with fail
    go_ret
    exact ⟨rfl, (Below.refl _ _).alloc (Nat.le_refl _) _⟩
  | «end» =>
    go_enter Tryz.func110, Tryz.ntmps110
    go_wp2_with fail
    go_ret
    exact ⟨rfl, (Below.refl _ _).alloc (Nat.le_refl _) _⟩
end Go.Proofs.YtmjhfabdbajchaaGreatDoor
