import Derived.Test.YthbgipmkdcffnaaCe
set_option linter.unusedVariables false
set_option linter.unusedSimpArgs false
namespace Go.Proofs.Ythbgipmkdcffnaa
open Go.ChangeShapes Go.WideShapes Go.ChangeAt Go.RowKit
open Go.ChangeMaps (open_string shut_string)

/-! Events and trees as arguments. -/
theorem nv_of {H : Type} {enc : TypeId × Value → H} {W : World} {spare : Nat → Bool} {held : Bool} {fuel : Nat} {v : Value} {x : DataW H × List MemPlace} {base : Nat} (hv : Value.okWide Try.prog W .any base 35 v) (h : DataW.trod enc Try.prog W 0 spare held fuel 35 v.cells.toList = some x) : ∃ n : Nd, Nv W v n := by
  obtain ⟨cs, rfl, _⟩ := okWide_struct Try.underlying35 hv
  obtain ⟨n, ao, cap, hc, h1, h2, h3, h4⟩ := nd_of fuel _ x h
  refine ⟨n, ao, cap, ?_, h1, h2, h3, h4⟩
  have hc' : cs.toList = _ := hc
  congr 1
  apply Array.toList_inj.1
  rw [hc']
set_option maxRecDepth 100000 in
theorem nz_of {H : Type} {enc : TypeId × Value → H} {W : World} {spare : Nat → Bool} {held : Bool} {fuel : Nat} {v : Value} {x : DataW H × List MemPlace} (h : DataW.trod enc Try.prog W 0 spare held fuel 35 v.cells.toList = some x) : ∀ k d m cap, v = .agg #[.int .u8 k, .int .u8 (Tv.k d), .string d.t, .int .i64 d.a, .int .i64 d.l, .int .i64 d.c, .int .i64 d.f, .slice none m cap] → cap = 0 := by
  rintro k d m cap rfl
  obtain ⟨y0, y1, y2, n1, e1, hlen, t0, t1, t2⟩ := trod_s3 Try.underlying35 h
  have ct : Try.prog.cellsOf 30 = 6 := by kernel_rfl
  have csl : Try.prog.cellsOf 33 = 1 := by kernel_rfl
  simp [csl, Value.cells] at t2
  rcases DataW.trod_slice Try.underlying33 t2 with ⟨hcs, _⟩ | ⟨a, len, cap', elems, rest, n4, e4, hcs, _⟩
  · simp at hcs
    exact hcs.2
  · simp at hcs
set_option maxRecDepth 100000 in
theorem le_of {H : Type} {enc : TypeId × Value → H} {W : World} {spare : Nat → Bool} {held : Bool} {fuel n cap : Nat} {ao : Option Addr} {x : DataW H × List MemPlace}
    (h : DataW.trod enc Try.prog W 0 spare held fuel 22 (Value.slice ao n cap).cells.toList = some x) : ∃ l : List Ev, l.length = n ∧ n ≤ cap ∧ cap ≤ maxLen ∧ Le W ao l := by
  have hce : Try.prog.cellsOf 32 = 8 := by kernel_rfl
  rcases Go.Deep.open_slice Try.underlying22 h with ⟨hcs, _⟩ | ⟨a, len, cap', m, k, D, Pl, hcs, _, hl, hmx, hm, _, hx⟩
  · simp [Value.cells] at hcs
    obtain ⟨rfl, rfl, rfl⟩ := hcs
    exact ⟨[], rfl, Nat.zero_le _, Nat.zero_le _, (fun j a h => by simp at h)⟩
  · simp [Value.cells] at hcs
    obtain ⟨rfl, rfl, rfl⟩ := hcs
    have hnm : n ≤ m := by rw [hm]; split <;> omega
    have each : ∀ j, j < n → ∃ y : Ev, W.cell? ((a.add (j * 8)).add 0) = some (.int .u8 y.k) ∧ W.cell? ((a.add (j * 8)).add 1) = some (.int .u8 y.n) ∧ W.cell? ((a.add (j * 8)).add 2) = some (.int .u8 y.d.k) ∧ W.cell? ((a.add (j * 8)).add 3) = some (.string y.d.t) ∧ W.cell? ((a.add (j * 8)).add 4) = some (.int .i64 y.d.a) ∧ W.cell? ((a.add (j * 8)).add 5) = some (.int .i64 y.d.l) ∧ W.cell? ((a.add (j * 8)).add 6) = some (.int .i64 y.d.c) ∧ W.cell? ((a.add (j * 8)).add 7) = some (.int .i64 y.d.f) := by
      intro j hj
      obtain ⟨cs', h1, h2⟩ := hx j (by omega)
      rw [hce] at h1
      obtain ⟨_, hlen, hcell⟩ := World.cells?_some h1
      obtain ⟨y0, y1, y2, n', _, _, t0, t1, t2⟩ := trod_s3 Try.underlying32 h2
      match cs', hlen with
      | [c0, c1, c2, c3, c4, c5, c6, c7], _ =>
        have ci : Try.prog.cellsOf 3 = 1 := by kernel_rfl
        have cs : Try.prog.cellsOf 9 = 1 := by kernel_rfl
        have ck : Try.prog.cellsOf 26 = 1 := by kernel_rfl
        have cp : Try.prog.cellsOf 28 = 3 := by kernel_rfl
        have ct : Try.prog.cellsOf 30 = 6 := by kernel_rfl
        have cek : Try.prog.cellsOf 24 = 1 := by kernel_rfl
        have cnk : Try.prog.cellsOf 25 = 1 := by kernel_rfl
        simp [cek, cnk, ct] at t0 t1 t2
        obtain ⟨b0, e0, _, _⟩ := DataW.trod_int Try.underlying24 t0
        obtain ⟨b1, e1, _, _⟩ := DataW.trod_int Try.underlying25 t1
        obtain ⟨z0, z1, z2, z3, n2, _, _, s0, s1, s2, s3⟩ := Go.Joins.trod_struct4 Try.underlying30 t2
        simp [ci, cs, ck, cp] at s0 s1 s2 s3
        obtain ⟨b2, e2, _, _⟩ := DataW.trod_int Try.underlying26 s0
        obtain ⟨b3, e3, _, _⟩ := DataW.trod_string Try.underlying9 s1
        obtain ⟨u0, u1, u2, n3, _, _, r0, r1, r2⟩ := trod_s3 Try.underlying28 s2
        simp [ci] at r0 r1 r2
        obtain ⟨b4, e4, _, _⟩ := DataW.trod_int Try.underlying3 r0
        obtain ⟨b5, e5, _, _⟩ := DataW.trod_int Try.underlying3 r1
        obtain ⟨b6, e6, _, _⟩ := DataW.trod_int Try.underlying3 r2
        obtain ⟨b7, e7, _, _⟩ := DataW.trod_int Try.underlying3 s3
        simp at e0 e1 e2 e3 e4 e5 e6 e7
        subst e0 e1 e2 e3 e4 e5 e6 e7
        exact ⟨⟨b0, b1, ⟨b2, b3, b4, b5, b6, b7⟩⟩, hcell 0 (by omega), hcell 1 (by omega), hcell 2 (by omega), hcell 3 (by omega), hcell 4 (by omega), hcell 5 (by omega), hcell 6 (by omega), hcell 7 (by omega)⟩
    obtain ⟨l, hal, hap⟩ := pick _ n each
    refine ⟨l, hal, hl, hmx, ?_⟩
    intro j y hy
    have hjl := (List.getElem?_eq_some_iff.1 hy).1
    obtain ⟨e0, e1, e2, e3, e4, e5, e6, e7⟩ := hap j y hy
    obtain ⟨_, f0, _⟩ := each 0 (by omega)
    have hsp : a.spot = none := by simpa [Addr.add] using World.cell?_spot f0
    obtain ⟨b, off, sp⟩ := a
    simp only at hsp
    subst hsp
    rw [Addr.add_lit, Addr.add_lit] at e0 e1 e2 e3 e4 e5 e6 e7
    exact ⟨b, off, rfl, e0, e1, e2, e3, e4, e5, e6, e7⟩

end Go.Proofs.Ythbgipmkdcffnaa
