import Derived.Test.YtcokccfbeonlnaaDoorSq
import Derived.Test.YtcokccfbeonlnaaDoorH0
set_option linter.unusedVariables false
set_option linter.unusedSimpArgs false
namespace Go.Proofs.YtcokccfbeonlnaaDoor

/-! What is printed. -/
structure Bk where
  ind : Nat
  ev : Bool
  ft : Bool
structure Pr where
  sk : St6
  bl : Bk
  ar : List Bk
  en : Bool
def Pr.at (p : Pr) : Nat := p.sk.col + p.sk.wait
def Pr.fits (n need : Nat) (p : Pr) : Bool := decide (need + p.at ≤ n)
def Pr.hold (p : Pr) (m : Nat) : Pr := if p.sk.fresh then p else { p with sk := p.sk.blanks m }
def Pr.endl (p : Pr) : Pr := if p.sk.fresh then p else { p with sk := p.sk.feed p.bl.ind, en := true }
def Pr.brk (n need : Nat) (p : Pr) : Bool := if p.bl.ev then !p.bl.ft else !p.fits n need
def put (n : Nat) (d : Dc) (need : Nat) (p : Pr) : Pr :=
  if d.k = 1 then { p with sk := p.sk.text d.t, en := false }
  else if d.k = 2 then p.hold 1
  else if d.k = 3 then (if p.brk n need then p.endl else p.hold d.b.toNat)
  else if d.k = 4 then p.endl
  else if d.k = 5 then (if p.en then { p with sk := p.sk.empty, en := false } else p)
  else if d.k = 6 then { p with ar := p.bl :: p.ar, bl := ⟨min (p.bl.ind + d.i.toNat) 1000, d.e, p.fits n need⟩ }
  else if d.k = 7 then { p with bl := p.ar.headD ⟨0, false, false⟩, ar := p.ar.tail }
  else p
def puts (n : Nat) : List Dc → List Nat → Pr → Pr
  | d :: r, m :: ms, p => puts n r ms (put n d m p)
  | _, _, p => p
def pr0 : Pr := ⟨st0, ⟨0, false, false⟩, [], false⟩
def wout (n : Nat) (l : List Dc) : List UInt8 := (puts n l (nds l).1 pr0).sk.out
/-- What Print answers. -/
def wprn (n : Int) (l : List Dc) : ByteArray × Int := if n < 1 ∨ 4096 < n then (⟨#[]⟩, 1) else if frm 0 0 l ≠ none then (⟨#[]⟩, 70) else (⟨(wout n.toNat l).toArray⟩, 0)

/-! How much that may be. -/
def ud (d : Dc) : Nat := 2 * d.t.size + (if d.k = 6 ∨ d.k = 7 then 0 else 1001)
def uds (l : List Dc) : Nat := (l.map ud).sum
structure Bp (p : Pr) (U : Nat) : Prop where
  out : p.sk.out.length + p.sk.wait + (if p.sk.fresh then p.sk.col else 0) ≤ U
  col : p.sk.col + p.sk.wait ≤ U
  ind : p.bl.ind ≤ 1000
  ar : ∀ b ∈ p.ar, b.ind ≤ 1000
  wt : p.sk.fresh = true → p.sk.wait = 0
theorem bp0 : Bp pr0 0 := ⟨by simp [pr0, st0], by simp [pr0, st0], by simp [pr0], by simp [pr0], fun _ => rfl⟩
theorem Bp.mono {p : Pr} {U V : Nat} (h : Bp p U) (hv : U ≤ V) : Bp p V := ⟨Nat.le_trans h.out hv, Nat.le_trans h.col hv, h.ind, h.ar, h.wt⟩
theorem Bp.hold {p : Pr} {U : Nat} (h : Bp p U) (m : Nat) : Bp (p.hold m) (U + m) := by
  unfold Pr.hold
  split
  · exact h.mono (by omega)
  · rename_i hf
    have h1 := h.out; have h2 := h.col
    refine ⟨?_, ?_, h.ind, h.ar, fun e => absurd e hf⟩
    · show p.sk.out.length + (p.sk.wait + m) + (if p.sk.fresh then p.sk.col else 0) ≤ _
      omega
    · show p.sk.col + (p.sk.wait + m) ≤ _
      omega
theorem Bp.endl {p : Pr} {U : Nat} (h : Bp p U) : Bp p.endl (U + 1001) := by
  unfold Pr.endl
  split
  · exact h.mono (by omega)
  · rename_i hf
    have h1 := h.out; have h2 := h.col; have h3 := h.ind
    refine ⟨?_, ?_, h.ind, h.ar, fun _ => rfl⟩
    · show (p.sk.out ++ [10]).length + 0 + p.bl.ind ≤ _
      rw [List.length_append]; simp only [List.length_cons, List.length_nil]; omega
    · show p.bl.ind + 0 ≤ _
      omega
theorem put_bd {n need U : Nat} {d : Dc} {p : Pr} (hd : rt d = true) (h : Bp p U) : Bp (put n d need p) (U + ud d) := by
  have h1 := h.out; have h2 := h.col; have h3 := h.ind
  cases rt_of hd with
  | text t hq =>
    have hs := (rtT_len hq).1
    refine ⟨?_, ?_, h.ind, h.ar, ?_⟩
    · show (p.sk.text t).out.length + (p.sk.text t).wait + (if (p.sk.text t).fresh then (p.sk.text t).col else 0) ≤ U + ud ⟨1, t, 0, 0, false⟩
      unfold St6.text ud
      rw [if_neg (by omega)]
      have e : t.data.toList.length = t.size := by rw [Array.length_toList]; rfl
      simp only [List.length_append, List.length_replicate, e]
      cases hf : p.sk.fresh
      · rw [hf] at h1; simp at h1 ⊢; omega
      · rw [hf] at h1; simp at h1 ⊢; omega
    · show (p.sk.text t).col + (p.sk.text t).wait ≤ U + ud ⟨1, t, 0, 0, false⟩
      unfold St6.text ud
      rw [if_neg (by omega)]
      have := ncol_bd p.sk.col p.sk.wait t
      show (ncol p.sk.col p.sk.wait t).toNat + 0 ≤ _
      simp; omega
    · intro e
      exfalso
      have : (p.sk.text t).fresh = true := e
      unfold St6.text at this
      rw [if_neg (by omega)] at this
      cases this
  | brk m hq =>
    obtain ⟨q1, q2⟩ := rtN_of hq
    show Bp (if p.brk n need then p.endl else p.hold m.toNat) _
    split
    · exact h.endl.mono (by simp [ud, bE])
    · exact (h.hold _).mono (by simp [ud, bE]; omega)
  | beg m e hq =>
    refine ⟨Nat.le_trans h1 (by omega), Nat.le_trans h2 (by omega), ?_, ?_, h.wt⟩
    · show min (p.bl.ind + m.toNat) 1000 ≤ 1000
      omega
    · intro b hb
      rcases List.mem_cons.1 hb with rfl | hb
      · exact h3
      · exact h.ar b hb
  | blank => exact (h.hold 1).mono (by simp [ud, bE])
  | hard => exact h.endl.mono (by simp [ud, bE])
  | empty =>
    show Bp (if p.en then { p with sk := p.sk.empty, en := false } else p) _
    split
    · unfold St6.empty
      split
      · rename_i hf
        rw [if_pos hf] at h1
        refine ⟨?_, ?_, h3, h.ar, fun _ => rfl⟩
        · show (p.sk.out ++ [10]).length + 0 + p.sk.col ≤ _
          rw [List.length_append]; simp [ud, bE]; omega
        · show p.sk.col + 0 ≤ _
          omega
      · rename_i hf
        exact ⟨Nat.le_trans h1 (by omega), Nat.le_trans h2 (by omega), h3, h.ar, h.wt⟩
    · exact h.mono (by omega)
  | «end» =>
    refine ⟨Nat.le_trans h1 (by omega), Nat.le_trans h2 (by omega), ?_, fun b hb => h.ar b (List.mem_of_mem_tail hb), h.wt⟩
    show (p.ar.headD ⟨0, false, false⟩).ind ≤ 1000
    cases ha : p.ar with
    | nil => simp
    | cons b r => exact h.ar b (by rw [ha]; exact List.mem_cons_self)
theorem puts_bd {n : Nat} : ∀ (l : List Dc) (ms : List Nat) (p : Pr) (U : Nat), (∀ d ∈ l, rt d = true) → Bp p U → Bp (puts n l ms p) (U + uds l)
  | [], ms, p, U, _, h => by simpa [puts, uds] using h
  | d :: r, [], p, U, _, h => h.mono (by omega)
  | d :: r, m :: ms, p, U, hr, h => by
    have := puts_bd (n := n) r ms _ _ (fun x hx => hr x (List.mem_cons_of_mem _ hx)) (put_bd (n := n) (need := m) (hr d List.mem_cons_self) h)
    have e : U + uds (d :: r) = U + ud d + uds r := by simp [uds]; omega
    rw [e]; exact this
/-- How deep the printing stands. -/
theorem put_deep {n need : Nat} {d : Dc} {p : Pr} (hd : rt d = true) {o : Int} (h : (p.ar.length : Int) = o) (ho : 0 ≤ o + dep d.k) : ((put n d need p).ar.length : Int) = o + dep d.k := by
  cases rt_of hd with
  | text t hq => simpa [put, dep] using h
  | brk m hq =>
    have : ((put n ⟨3, bE, m, 0, false⟩ need p).ar) = p.ar := by
      show (if p.brk n need then p.endl else p.hold m.toNat).ar = p.ar
      unfold Pr.endl Pr.hold
      repeat' split
      all_goals rfl
    rw [this]; simpa [dep] using h
  | beg m e hq =>
    show (((p.bl :: p.ar).length : Nat) : Int) = o + 1
    simp; omega
  | blank =>
    have : (p.hold 1).ar = p.ar := by unfold Pr.hold; split <;> rfl
    show ((p.hold 1).ar.length : Int) = o + 0
    rw [this]; omega
  | hard =>
    have : p.endl.ar = p.ar := by unfold Pr.endl; split <;> rfl
    show (p.endl.ar.length : Int) = o + 0
    rw [this]; omega
  | empty =>
    have : (if p.en then { p with sk := p.sk.empty, en := false } else p).ar = p.ar := by split <;> rfl
    show (((if p.en then { p with sk := p.sk.empty, en := false } else p).ar.length : Nat) : Int) = o + 0
    rw [this]; omega
  | «end» =>
    show ((p.ar.tail.length : Nat) : Int) = o + -1
    have : 0 ≤ o + -1 := ho
    rw [List.length_tail]; omega
end Go.Proofs.YtcokccfbeonlnaaDoor
