import Derived.Test.YtkigadnkclkopaaIc
set_option linter.unusedVariables false
set_option linter.unusedSimpArgs false
namespace Go.Proofs.Ytkigadnkclkopaa
open Go.RowKit Go.Shelf
attribute [local go_sem] Oper.semAt_some

set_option maxRecDepth 100000 in
set_option maxHeartbeats 4000000 in
theorem parts_it (O : Nat → Prop) (w0 : World) (q : Nat) (ao : Option Addr) (cap : Nat) (l : List Fp) (hl : l.length ≤ 1000000000) (hq : w0.heap[q]? = some (.cells #[.slice ao l.length cap] 56)) (hL : Lf w0 ao l) (hok : ∀ p, p ∈ l → Fok O w0 p) (hO : O q) (hOb : ∀ a, ao = some a → O a.block) :
    ItB O w0 20 #[.pointer (some ⟨q, 0, none⟩)] (fts l) := by
  intro n lp J Jx W hB hA hAx hY h0
  refine callsIn_of_wp_marks Try.func20 rfl trivial ?_ rfl
  simp only [Try.ntmps20, List.size_toArray, List.length_cons, List.length_nil, Nat.reduceAdd, Nat.reduceSub, Array.replicate_succ, Array.replicate_zero, List.push_toArray, List.append_toArray, List.nil_append, List.cons_append]
  have g0 : W.heap[q]? = some (.cells #[.slice ao l.length cap] 56) := (hB 0 W h0).blk hO hq
  have c0 : W.cell? ⟨q, 0, none⟩ = some (.slice ao l.length cap) := blk_cell g0 (k := 0) rfl
  have hql := blk_lt g0
  have hln : (l.length : Int) ≤ 1000000000 := by omega
  have j0 : J 0 (W.alloc (YlB lp)) := hA.alloc _ h0
  have y0 : (W.alloc (YlB lp)).heap[W.heap.size]? = some (YlB lp) := new_at _ _
  have z0 : (W.alloc (YlB lp)).heap.size = W.heap.size + 1 := World.size_alloc _ _
  gi_wp2
  refine wpIn_loop (fun a V => ∃ (k : Nat) (ms : List Deferred) (x4 x5 x9 x10 x11 x12 x13 x14 x15 x16 x17 x18 : Value), a = { tmps := #[.func (.yield lp) #[] #[], .pointer (some ⟨q, 0, none⟩), .pointer (some ⟨W.heap.size, 0, none⟩), undef, x4, x5, .slice ao l.length cap, .int .i64 l.length, .int .i64 k, x9, x10, x11, x12, x13, x14, x15, x16, x17, x18], defers := ms } ∧
    k ≤ l.length ∧ J (ofs l k) V ∧ V.heap[W.heap.size]? = some (YlB lp) ∧ W.heap.size + 1 ≤ V.heap.size ∧ Mk (W.heap.size + 1) V V.heap.size ms) (fun a _ => l.length - (intOf (a.tmps.getD 8 undef)).toNat) ?_ ?_
  · exact ⟨0, [], undef, undef, undef, undef, undef, undef, undef, undef, undef, undef, undef, undef, by rfl, Nat.zero_le _, j0, y0, Nat.le_of_eq z0.symm, .nil (Nat.le_of_eq z0.symm)⟩
  rintro a V ⟨k, ms, x4, x5, x9, x10, x11, x12, x13, x14, x15, x16, x17, x18, rfl, hk, hJ, hyb, hsz, hms⟩
  by_cases hlt : k < l.length
  · obtain ⟨p, hp⟩ : ∃ p, l[k]? = some p := ⟨_, List.getElem?_eq_getElem hlt⟩
    obtain ⟨b, off, rfl, e0⟩ := hL.st hOb (hB _ _ hJ) k p hp
    have ok := hok p (List.mem_of_getElem? hp)
    have q1 : (0 : Int) ≤ k := by omega
    have q2 : (k : Int) < l.length := by omega
    have HP : Hid (l[k]? = some p) := hp
    have HK : Hid (k < l.length) := hlt
    clear hp hlt g0 j0 y0 z0
    dsimp only [Fp.v] at e0
    gi_wp2
    have oB : ∀ {A B : World} {row : Option Nat} {k : Nat} {o : Obj}, A.grownBy B row → (∀ r, row = some r → V.heap.size ≤ r ∧ ∃ o : Obj, A.heap[r]? = some o ∧ o.isCells = false) → k < V.heap.size → A.heap[k]? = some o → B.heap[k]? = some o := by
      intro A B row k o hg' hr hk hko
      exact (hg'.block k (blk_lt hko) (fun e => by have := (hr k e.symm).1; omega)).trans hko
    have low : ∀ {A : World} {row : Option Nat}, (∀ r, row = some r → V.heap.size ≤ r ∧ ∃ o : Obj, A.heap[r]? = some o ∧ o.isCells = false) → (∀ r, row = some r → W.heap.size ≤ r ∧ ∃ o : Obj, A.heap[r]? = some o ∧ o.isCells = false) :=
      fun hr r e => ⟨by have := (hr r e).1; omega, (hr r e).2⟩
    refine wpIn_it (gf := p.f) (lb := p.lb) rfl ok.1 ok.2 rfl (fun j W1 => J (ofs l k + j) W1 ∧ W1.heap[W.heap.size]? = some (YlB lp) ∧ V.heap.size ≤ W1.heap.size ∧ Mk (W.heap.size + 1) W1 V.heap.size ms) (fun c j W1 => c = .ret ∧ Jx (ofs l k + j) W1 ∧ V.heap.size ≤ W1.heap.size ∧ Mk (W.heap.size + 1) W1 V.heap.size ms) ?_ ?_ (fun j W1 h => hB _ _ h.1) ⟨hJ, hyb, Nat.le_refl _, hms⟩
      (fun j a' W1 => ∃ b' t, p.ts[j]? = some t ∧ V.heap.size ≤ b' ∧ a' = { tmps := #[.func (.yield lp) #[] #[], .pointer (some ⟨q, 0, none⟩), .pointer (some ⟨W.heap.size, 0, none⟩), undef, .func (.func p.f) #[] p.lb, .pointer (some ⟨b', 0, none⟩), .slice (some ⟨b, off, none⟩) l.length cap, .int .i64 l.length, .int .i64 k, .bool true, .pointer (some ⟨b, off + k, none⟩), .func (.func p.f) #[] p.lb, .func (.func p.f) #[] p.lb, t.v, x14, x15, x16, x17, x18], defers := [] } ∧ W1.heap[b']? = some (TkB t)) ?_ ?assign ?body ?done ?stop
    · rintro j A B row ⟨h1, h2, h3, h4⟩ hg hr
      exact ⟨hA _ A B row h1 hg (low hr), oB hg hr (by omega) h2, Nat.le_trans h3 hg.size, h4.own hg (fun r e => (hr r e).1)⟩
    · rintro c j A B row ⟨h1, h2, h3, h4⟩ hg hr
      exact ⟨h1, hAx _ A B row h2 hg (low hr), Nat.le_trans h3 hg.size, h4.own hg (fun r e => (hr r e).1)⟩
    · rintro j a' u A B row ⟨b', t, h1, h2, h3, h4⟩ hg hr
      exact ⟨b', t, h1, h2, h3, (grownBy_keeps_cells hg (fun r e => (hr r e).2) h4 rfl).trans h4⟩
    case assign =>
      rintro m lq j t W1 K hj ⟨i1, i2, i3, i4⟩ hK
      have HT : Hid (p.ts[j]? = some t) := hj
      clear hj
      dsimp only [Tv.v]
      gi_wp2
      refine hK _ _ (KF.of_below ((Below.refl _ _).alloc (Nat.le_refl _) _)) ⟨hA.alloc _ i1, alloc_at' i2 _, Nat.le_trans i3 (by rw [World.size_alloc]; omega), i4.move fun k o _ _ ho => alloc_at' ho _⟩ ⟨W1.heap.size, t, HT.out, i3, rfl, new_at _ _⟩
    case body =>
      rintro m lq j t a' W1 hj hlq ⟨r, hr⟩ ⟨i1, i2, i3, i4⟩ ⟨b', t', ht, hb', rfl, hcell⟩
      obtain rfl : t' = t := by rw [hj] at ht; cases ht; rfl
      have c0 : W1.cell? ⟨b', 0, none⟩ = some (.int .u8 t'.k) := blk_cell hcell (k := 0) rfl
      have c1 : W1.cell? ⟨b', 1, none⟩ = some (.string t'.t) := blk_cell hcell (k := 1) rfl
      have c2 : W1.cell? ⟨b', 2, none⟩ = some (.int .i64 t'.a) := blk_cell hcell (k := 2) rfl
      have c3 : W1.cell? ⟨b', 3, none⟩ = some (.int .i64 t'.l) := blk_cell hcell (k := 3) rfl
      have c4 : W1.cell? ⟨b', 4, none⟩ = some (.int .i64 t'.c) := blk_cell hcell (k := 4) rfl
      have c5 : W1.cell? ⟨b', 5, none⟩ = some (.int .i64 t'.f) := blk_cell hcell (k := 5) rfl
      have c6 : W1.cell? ⟨W.heap.size, 0, none⟩ = some (.func (.yield lp) #[] #[]) := blk_cell i2 (k := 0) rfl
      obtain ⟨fn, tmps, assign, body, hy, hR⟩ := hY (m - 1) _ t' W1 (fts_at HP.out hj) i1
      dsimp only [Tv.v] at hy ⊢
      clear hr hj ht hcell
      gi_wp2
      refine ⟨(fun h => nomatch h), (roundIn_any hR).mono ?_⟩
      rintro e W3 ⟨hk3, (⟨rfl, hJ3⟩ | ⟨rfl, hJ3⟩)⟩
      · gi_wp2
        exact ⟨hk3.mono (by omega), hJ3, hk3.same _ _ (Nat.le_refl _) i2, Nat.le_trans i3 hk3.size, i4.kf (hk3.mono (by omega))⟩
      · gi_wp2
        exact ⟨hk3.mono (by omega), rfl, hJ3, Nat.le_trans i3 hk3.size, i4.kf (hk3.mono (by omega))⟩
    case done =>
      rintro D W1 hD ⟨i1, i2, i3, i4⟩ hd
      have hdl := blk_lt hd
      have os := ofs_succ HP.out
      gi_wp2
      refine ⟨⟨k + 1, mark D :: ms, _, _, _, _, _, _, _, _, _, _, _, _, by simp only [Int.natCast_add, Int.cast_ofNat_Int]; rfl, HK.out, by rw [os]; exact i1, i2, by omega, .cons hD hdl hd i4⟩, ?_⟩
      have := HK.out
      show l.length - ((k : Int) + 1).toNat < l.length - (k : Int).toNat
      omega
    case stop =>
      rintro D c j W1 hD ⟨rfl, i2, i3, i4⟩ hd
      have hdl := blk_lt hd
      gi_wp2
      refine Mk.leaves (B := W.heap.size + 1) (S := fun W2 => Jx (ofs l k + j) W2) (fun u A B row hs hg hr => hAx _ A B row hs hg fun r e => ⟨by have := (hr r e).1; omega, (hr r e).2⟩) ?_ (.cons hD hdl hd i4) i2
      intro W2 h2
      exact ⟨_, results_none (by kernel_rfl) _ _ _, ⟨_, rfl⟩, .inr ⟨_, h2⟩⟩
  · obtain rfl : k = l.length := by omega
    rw [ofs_end] at hJ
    gi_wp2
    refine Mk.leaves (B := W.heap.size + 1) (S := fun W2 => J (fts l).length W2) (fun u A B row hs hg hr => hA _ A B row hs hg fun r e => ⟨by have := (hr r e).1; omega, (hr r e).2⟩) ?_ hms hJ
    intro W2 h2
    exact ⟨_, results_none (by kernel_rfl) _ _ _, ⟨_, rfl⟩, .inl h2⟩
end Go.Proofs.Ytkigadnkclkopaa
