import Derived.Test.YtkigadnkclkopaaTn
set_option linter.unusedVariables false
set_option linter.unusedSimpArgs false
namespace Go.Proofs.Ytkigadnkclkopaa
open Go.ChangeShapes Go.WideShapes Go.ChangeAt Go.RowKit

/-! A tree as an argument. -/
theorem trod_s3 {H : Type} {enc : TypeId × Value → H} {P : Program} {w : World} {base : Nat} {spare : Nat → Bool} {held : Bool} {t : TypeId} {f0 f1 f2 : Field} {fuel : Nat} {cs : List Value} {x : DataW H × List MemPlace} (ht : P.underlying t = some (.struct #[f0, f1, f2])) (h : DataW.trod enc P w base spare held fuel t cs = some x) :
    ∃ y0 y1 y2 n, fuel = n + 1 ∧ cs.length = P.cellsOf t ∧ DataW.trod enc P w base spare held n f0.type ((cs.drop f0.offset).take (P.cellsOf f0.type)) = some y0 ∧
      DataW.trod enc P w base spare held n f1.type ((cs.drop f1.offset).take (P.cellsOf f1.type)) = some y1 ∧ DataW.trod enc P w base spare held n f2.type ((cs.drop f2.offset).take (P.cellsOf f2.type)) = some y2 := by
  obtain ⟨xs, n, e, rfl, hl, hlen, hf⟩ := DataW.trod_struct ht h
  match xs, hlen with
  | [y0, y1, y2], _ => exact ⟨y0, y1, y2, n, e, hl, by simpa using hf 0 f0 rfl, by simpa using hf 1 f1 rfl, by simpa using hf 2 f2 rfl⟩
/-- What is read of a node's cells. -/
def NdC (W : World) (cs : List Value) (n : Nd) : Prop := ∃ ao cap, cs = [.int .u8 n.k, .int .u8 n.d.k, .string n.d.t, .int .i64 n.d.a, .int .i64 n.d.l, .int .i64 n.d.c, .int .i64 n.d.f, .slice ao n.c.length cap] ∧ n.c.length ≤ cap ∧ cap ≤ maxLen ∧ (ao = none → n.c = []) ∧ (∀ a, ao = some a → n.c = [] ∨ ∃ b o, a = ⟨b, o, none⟩ ∧ HL W b o n.c)
set_option maxRecDepth 100000 in
theorem nd_of {H : Type} {enc : TypeId × Value → H} {W : World} {spare : Nat → Bool} {held : Bool} : ∀ (fuel : Nat) (cs : List Value) (x : DataW H × List MemPlace), DataW.trod enc Try.prog W 0 spare held fuel 32 cs = some x → ∃ n : Nd, NdC W cs n := by
  intro fuel
  induction fuel using Nat.strongRecOn with
  | ind fuel ih =>
    intro cs x h
    have ci : Try.prog.cellsOf 3 = 1 := by kernel_rfl
    have cst : Try.prog.cellsOf 9 = 1 := by kernel_rfl
    have ck : Try.prog.cellsOf 25 = 1 := by kernel_rfl
    have cp : Try.prog.cellsOf 27 = 3 := by kernel_rfl
    have ct : Try.prog.cellsOf 29 = 6 := by kernel_rfl
    have cn : Try.prog.cellsOf 32 = 8 := by kernel_rfl
    have cnk : Try.prog.cellsOf 24 = 1 := by kernel_rfl
    have csl : Try.prog.cellsOf 30 = 1 := by kernel_rfl
    obtain ⟨y0, y1, y2, n1, e1, hlen, t0, t1, t2⟩ := trod_s3 Try.underlying32 h
    rw [cn] at hlen
    match cs, hlen with
    | [c0, c1, c2, c3, c4, c5, c6, c7], _ =>
      simp [cnk, ct, csl] at t0 t1 t2
      obtain ⟨b0, e0, _, _⟩ := DataW.trod_int Try.underlying24 t0
      obtain ⟨z0, z1, z2, z3, n2, _, _, s0, s1, s2, s3⟩ := Go.Joins.trod_struct4 Try.underlying29 t1
      simp [ci, cst, ck, cp] at s0 s1 s2 s3
      obtain ⟨d0, g0, _, _⟩ := DataW.trod_int Try.underlying25 s0
      obtain ⟨d1, g1, _, _⟩ := DataW.trod_string Try.underlying9 s1
      obtain ⟨u0, u1, u2, n3, _, _, r0, r1, r2⟩ := trod_s3 Try.underlying27 s2
      simp [ci] at r0 r1 r2
      obtain ⟨d2, g2, _, _⟩ := DataW.trod_int Try.underlying3 r0
      obtain ⟨d3, g3, _, _⟩ := DataW.trod_int Try.underlying3 r1
      obtain ⟨d4, g4, _, _⟩ := DataW.trod_int Try.underlying3 r2
      obtain ⟨d5, g5, _, _⟩ := DataW.trod_int Try.underlying3 s3
      simp at e0 g0 g1 g2 g3 g4 g5
      subst e0 g0 g1 g2 g3 g4 g5
      rcases DataW.trod_slice Try.underlying30 t2 with ⟨hcs, _⟩ | ⟨a, len, cap, elems, rest, n4, e4, hcs, _, _, hl, hm, hel, hx, _, _⟩
      · simp at hcs
        subst hcs
        exact ⟨.mk b0 ⟨d0, d1, d2, d3, d4, d5⟩ [], none, 0, rfl, Nat.le_refl _, Nat.zero_le _, fun _ => rfl, fun a ha => by cases ha⟩
      · simp at hcs
        subst hcs
        have each : ∀ j, j < len → ∃ m : Nd, ∃ cs', W.cells? 0 (a.add (j * 8)) 8 = some cs' ∧ NdC W cs' m := by
          intro j hj
          have h1 := hx j hj
          rw [cn] at h1
          have h2 : j < elems.length := by omega
          rw [List.getElem?_eq_getElem h2] at h1
          cases hc : W.cells? 0 (a.add (j * 8)) 8 with
          | none => rw [hc] at h1; cases h1
          | some cs' =>
            rw [hc] at h1
            obtain ⟨m, hmm⟩ := ih n4 (by omega) cs' _ h1
            exact ⟨m, cs', rfl, hmm⟩
        obtain ⟨l, hll, hlp⟩ := pick _ len each
        subst hll
        refine ⟨.mk b0 ⟨d0, d1, d2, d3, d4, d5⟩ l, some a, cap, rfl, hl, hm, (fun h => by cases h), fun a' ha => ?_⟩
        cases ha
        show l = [] ∨ _
        cases l with
        | nil => exact .inl rfl
        | cons x0 r0 =>
          right
          obtain ⟨cs0, hcs0, hn0⟩ := hlp 0 x0 rfl
          obtain ⟨_, hlen0, hcell0⟩ := World.cells?_some hcs0
          have hsp : a.spot = none := by
            obtain ⟨ao, cp', ec, _⟩ := hn0
            have := hcell0 0 (by omega)
            rw [ec] at this
            simpa [Addr.add] using World.cell?_spot (v := .int .u8 x0.k) this
          obtain ⟨b, off, sp⟩ := a
          simp only at hsp
          subst hsp
          refine ⟨b, off, rfl, hl_of (fun j m hj => ?_)⟩
          obtain ⟨cs', hcs', ao, cp', ec, q1, q2, q3, q4⟩ := hlp j m hj
          obtain ⟨_, hlen', hcell'⟩ := World.cells?_some hcs'
          subst ec
          have hc : ∀ i u, ([.int .u8 m.k, .int .u8 m.d.k, .string m.d.t, .int .i64 m.d.a, .int .i64 m.d.l, .int .i64 m.d.c, .int .i64 m.d.f, .slice ao m.c.length cp'] : List Value)[i]? = some u → W.cell? ⟨b, off + j * 8 + i, none⟩ = some u := fun i u hu => by
            obtain ⟨a1, a2⟩ := List.getElem?_eq_some_iff.1 hu
            have := hcell' i (by simpa using a1)
            rw [Addr.add_lit, Addr.add_lit] at this
            rw [this]
            exact hu
          obtain ⟨mk', md, mc⟩ := m
          rw [HN]
          exact ⟨⟨hc 0 _ rfl, hc 1 _ rfl, hc 2 _ rfl, hc 3 _ rfl, hc 4 _ rfl, hc 5 _ rfl, hc 6 _ rfl⟩, ao, cp', hc 7 _ rfl, q1, q2, q3, q4⟩

end Go.Proofs.Ytkigadnkclkopaa
