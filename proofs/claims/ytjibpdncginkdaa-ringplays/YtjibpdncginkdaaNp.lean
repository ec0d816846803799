import Derived.Test.YtjibpdncginkdaaNo
import Derived.OneCell
set_option linter.unusedVariables false
set_option linter.unusedSimpArgs false
namespace Go.Proofs.Ytjibpdncginkdaa
open Go.RowKit

theorem listI {l : List Int} {j : Nat} {u : Value} (h : (l.map (Value.int .i64))[j]? = some u) : ∃ x, l[j]? = some x ∧ u = .int .i64 x := by
  rw [List.getElem?_map] at h
  cases hx : l[j]? with
  | none => rw [hx] at h; cases h
  | some x => rw [hx] at h; exact ⟨x, rfl, by simpa using h.symm⟩

theorem one_new (W : World) (x : Value) (t n : Nat) (h : n = W.heap.size) : ∀ j u, [x][j]? = some u → (W.alloc (.cells #[x] t)).cell? ((⟨n, 0, none⟩ : Addr).add j) = some u := by
  subst h; exact cell_one_new _ _ _

/-- Behind an append that grew: the new row is the ring's. -/
theorem RR.grew {own : Nat → Nat} {i : Nat} {w w' : World} {g most B : Nat} {sv v : Value} {l l' : List Int} (h : RR own i w g most sv l) (hnf : Nf own w) (hW : w.heap.size ≤ B) (hl : l'.length ≤ most) (h0 : 0 < l'.length)
    (ho : w'.ownsRow B 3 1 v l'.length (l'.map (Value.int .i64))) (hg : Below w.heap.size w w') : AfR own i w (w'.setCell ⟨g, 1, none⟩ v) g most l' := by
  rcases ho.2 with ⟨_, h1⟩ | ⟨g2, cap, cur, rfl, hbs, hrow, hle, hmx, hcs, htake⟩
  · omega
  have hgw := blk_lt h.blk
  have hne : ∀ j, j < w.heap.size → own j ≠ i → j ≠ g := fun j _ hj e => hj (by rw [e]; exact h.lab)
  refine ⟨fun k => if k = g2 then i else own k, .slice (some ⟨g2, 0, none⟩) l'.length cap, ?_, ?_, ?_⟩
  · intro k hk
    rw [size_set] at hk
    have := blk_lt hrow
    exact (if_neg (by omega)).trans (hnf k (by have := hg.size; omega))
  · have hF : Fr i own (fun k => if k = g2 then i else own k) w w' := ⟨hg.os, hg.tape, hg.output, hg.size, fun k hk _ => hg.block k hk, fun k hk => if_neg (by omega)⟩
    exact hF.set (g := g) ((if_neg (by omega)).trans h.lab) _ _ hne
  · refine ⟨?_, (if_neg (by omega)).trans h.lab, h.r1, h.r2, hl, .inr ⟨g2, 0, cap, cur, rfl, hle, hmx, blk_other hrow (by omega) _, if_pos rfl, by omega, by omega, ?_⟩⟩
    · have := blk_set ((hg.block g hgw).trans h.blk) 1 (.slice (some ⟨g2, 0, none⟩) l'.length cap)
      exact this
    · intro j x hj
      have hjl := (List.getElem?_eq_some_iff.1 hj).1
      have : (cur.toList.take (l'.length * 1))[j]? = some (.int .i64 x) := by rw [htake, List.getElem?_map, hj]; rfl
      rw [List.getElem?_take, if_pos (by omega)] at this
      rw [Nat.zero_add, ← Array.getElem?_toList]; exact this

/-- Behind an append that fitted. -/
theorem RR.fitted {own : Nat → Nat} {i : Nat} {w W : World} {g most b off cap : Nat} {cur : Array Value} {l : List Int} (h : RR own i w g most (.slice (some ⟨b, off, none⟩) l.length cap) l) (hnf : Nf own w) (hB : Below w.heap.size w W)
    (hrow : w.heap[b]? = some (.cells cur 3 (0, 0))) (hob : own b = i) (hbg : b ≠ g) (hcap : off + cap ≤ cur.size) (hmx : cap ≤ maxLen) (hcells : ∀ j x, l[j]? = some x → cur[off + j]? = some (.int .i64 x)) (x : Int) (hlt : l.length < most) (hroom : l.length + 1 ≤ cap) :
    AfR own i w ((W.setCell ⟨b, off + l.length, none⟩ (.int .i64 x)).setCell ⟨g, 1, none⟩ (.slice (some ⟨b, off, none⟩) (l.length + 1) cap)) g most (l ++ [x]) := by
  have hgw := blk_lt h.blk
  have hbw := blk_lt hrow
  refine ⟨own, .slice (some ⟨b, off, none⟩) (l.length + 1) cap, ?_, (((Fr.of_below hB).set' hob _ _).set' h.lab _ _), ?_⟩
  · intro k hk
    rw [size_set, size_set] at hk
    exact hnf k (by have := hB.size; omega)
  · refine ⟨?_, h.lab, h.r1, h.r2, by simp; omega, .inr ⟨b, off, cap, cur.setIfInBounds (off + l.length) (.int .i64 x), by simp, by simp; omega, hmx, ?_, hob, hbg, by simp; omega, ?_⟩⟩
    · exact blk_set (blk_other ((hB.block g hgw).trans h.blk) (Ne.symm hbg) _) 1 (.slice (some ⟨b, off, none⟩) (l.length + 1) cap)
    · exact blk_other (blk_set ((hB.block b hbw).trans hrow) _ _) hbg _
    · intro j y hj
      by_cases hc : j < l.length
      · rw [List.getElem?_append_left hc] at hj
        rw [Array.getElem?_setIfInBounds_ne (by omega)]
        exact hcells j y hj
      · have hjl := (List.getElem?_eq_some_iff.1 hj).1
        simp at hjl
        obtain rfl : j = l.length := by omega
        rw [List.getElem?_append_right (by omega)] at hj
        simp at hj
        subst hj
        rw [Array.getElem?_setIfInBounds_self_of_lt (by omega)]

set_option maxHeartbeats 1000000 in
theorem pushR_any (own : Nat → Nat) (i g most : Nat) (sv : Value) (l : List Int) (x : Int) (w : World) (hR : RR own i w g most sv l) (hnf : Nf own w) (hr : l.length < most) :
    Calls Try.prog 31 #[.pointer (some ⟨g, 0, none⟩), .int .i64 x] w fun e w' => e = .returned (.int .i64 0) ∧ AfR own i w w' g most (l ++ [x]) := by
  obtain ⟨i0, hi, hz0, hz1, hz2⟩ := info_parts Try.info3
  have h0 := hR.c0
  have h1 := hR.c1
  have hr2 := hR.r2
  have hgw := blk_lt hR.blk
  have fz := hR.fz 1
  have q1 : ¬ ((l.length : Int) = (most : Int)) := by omega
  have q2 : ¬ (l.length = most) := by omega
  have q5 : ((l.length : Int) == (most : Int)) = false := by simp; omega
  have hrow := hR.row
  rcases hrow with ⟨rfl, rfl⟩ | ⟨b, off, cap, cur, rfl, hle, hmx, hrow, hob, hbg, hcap, hcells⟩
  · have HR : Hid (RR own i w g most (.slice none 0 0) []) := hR
    clear hR
    have HNF : Hid (Nf own w) := hnf
    clear hnf
    go_enter Try.func31, Try.ntmps31
    go_wp2_with fail
    go_quiet (fail)
    obtain ⟨W, hW⟩ : ∃ W, W = w.drewN nq := ⟨_, rfl⟩
    have hBW : Below w.heap.size w W := by rw [hW]; exact below_drewN w nq
    rw [← hW]
    clear hW
    have h1' := (hBW.cell (p := ⟨g, 1, none⟩) hgw).trans h1
    go_wp2_with (first | (at_builtin; refine wpList_append_grows _ rfl _ _ 59 rfl 3 i0 (.int .i64 0) 1 8 Try.underlying59 hi hz0 hz1 hz2 rfl (by decide) none 0 0 [] rfl (fun _ => ⟨rfl, rfl⟩) rfl ?c0 ⟨W.heap.size, 0, none⟩ 1 1 [.int .i64 x] rfl rfl ?c1 ?c2 (by omega) ?c3 ?c4 ?_))
    case c0 => intro b hb; cases hb
    case c1 => exact one_new _ _ _ _ rfl
    case c2 => intro u hu; simp at hu; subst hu; rfl
    case c3 => unfold maxLen; omega
    case c4 => omega
    intro v6 w6 hown6 hgrow6
    have hb6 : Below W.heap.size W w6 := ((Below.refl _ _).alloc (Nat.le_refl _) _).grown hgrow6 (by simp) (fun _ h => by cases h)
    have hb7 : Below w.heap.size w w6 := hBW.trans (hb6.mono hBW.size)
    have hf6 := (hb7.frozen (p := ⟨g, 1, none⟩) hgw).trans fz
    have hc6 := (hb7.cell (p := ⟨g, 1, none⟩) hgw).trans h1
    have HEND : Hid (AfR own i w (w6.setCell ⟨g, 1, none⟩ v6) g most [x]) := HR.out.grew HNF.out (by have := hBW.size; omega) (by simp; omega) (by simp) hown6 hb7
    obtain ⟨g2, cap2, rfl⟩ : ∃ g2 cap2, v6 = .slice (some ⟨g2, 0, none⟩) 1 cap2 := by
      rcases hown6.2 with ⟨_, h⟩ | ⟨g2, cap, cur, rfl, _⟩
      · omega
      · exact ⟨_, _, rfl⟩
    clear hown6 hgrow6 hb6 hb7
    go_wp2_with fail
    go_ret
    exact ⟨rfl, AfR.same HEND.out rfl rfl rfl rfl⟩
  · have HR : Hid (RR own i w g most (.slice (some ⟨b, off, none⟩) l.length cap) l) := hR
    have HNF : Hid (Nf own w) := hnf
    have HROW : Hid (w.heap[b]? = some (.cells cur 3 (0, 0))) := hrow
    have hbw := blk_lt hrow
    have HOB : Hid (own b = i) := hob
    have HCL : Hid (∀ j x, l[j]? = some x → cur[off + j]? = some (.int .i64 x)) := hcells
    have HLEN : Hid (l.length < most ∧ off + cap ≤ cur.size ∧ cap ≤ maxLen ∧ most ≤ 2097152) := ⟨hr, hcap, hmx, hr2⟩
    clear hR hnf hrow hob hcells hmx
    go_enter Try.func31, Try.ntmps31
    go_wp2_with fail
    go_quiet (fail)
    obtain ⟨W, hW⟩ : ∃ W, W = w.drewN nq := ⟨_, rfl⟩
    have hBW : Below w.heap.size w W := by rw [hW]; exact below_drewN w nq
    rw [← hW]
    clear hW
    have h1' := (hBW.cell (p := ⟨g, 1, none⟩) hgw).trans h1
    have hbW : b < W.heap.size := Nat.lt_of_lt_of_le hbw hBW.size
    have hgW : g < W.heap.size := Nat.lt_of_lt_of_le hgw hBW.size
    have HRW : Hid (∀ V, Below W.heap.size W V → V.heap[b]? = some (.cells cur 3 (0, 0))) := fun V hV => (hV.block b hbW).trans ((hBW.block b hbw).trans HROW.out)
    clear h0 h1
    go_wp2_with (first | (at_builtin; refine wpList_append_arg _ rfl _ _ 59 rfl 3 i0 (.int .i64 0) 1 8 Try.underlying59 hi hz0 hz1 hz2 rfl (by decide) b off l.length cap (l.map (Value.int .i64)) rfl ?lo ?olds ⟨W.heap.size, 0, none⟩ 1 1 [.int .i64 x] rfl rfl ?c1 ?c2 ?spare ?b1 ?b2 ?room ?grow))
    case lo => simp
    case olds => intro j u hj; obtain ⟨y, hy, rfl⟩ := listI hj; exact blk_cell (HRW.out _ ((Below.refl _ W).alloc (Nat.le_refl _) _)) (HCL.out j y hy)
    case c1 => exact one_new _ _ _ _ rfl
    case c2 => intro u hu; simp at hu; subst hu; rfl
    case spare =>
      intro hrm j hj
      have hz := HRW.out _ ((Below.refl _ W).alloc (Nat.le_refl _) (Obj.cells #[.int .i64 x] 3))
      obtain rfl : j = 0 := by simp at hj; omega
      have hlt : off + l.length * 1 + 0 < cur.size := by omega
      exact ⟨by rw [blk_cell hz (Array.getElem?_eq_getElem hlt)]; rfl, blk_frozen hz⟩
    case b1 => have := HLEN.out; unfold maxLen; omega
    case b2 => have := HLEN.out; omega
    case room =>
      intro hrm
      have hBA : Below w.heap.size w (W.alloc (Obj.cells #[.int .i64 x] 3)) := hBW.alloc hBW.size _
      have HEND : Hid (AfR own i w (((W.alloc (Obj.cells #[.int .i64 x] 3)).setCell ⟨b, off + l.length, none⟩ (.int .i64 x)).setCell ⟨g, 1, none⟩ (.slice (some ⟨b, off, none⟩) (l.length + 1) cap)) g most (l ++ [x])) := HR.out.fitted HNF.out hBA HROW.out HOB.out hbg HLEN.out.2.1 HLEN.out.2.2.1 HCL.out x HLEN.out.1 hrm
      have hset : (W.alloc (Obj.cells #[.int .i64 x] 3)).setCells b (off + l.length) [.int .i64 x] = (W.alloc (Obj.cells #[.int .i64 x] 3)).setCell ⟨b, off + l.length, none⟩ (.int .i64 x) := rfl
      obtain ⟨V, hV⟩ : ∃ V, (W.alloc (Obj.cells #[.int .i64 x] 3)).setCell ⟨b, off + l.length, none⟩ (.int .i64 x) = V := ⟨_, rfl⟩
      have hVg : V.heap[g]? = some (.cells #[.int .i64 most, .slice (some ⟨b, off, none⟩) l.length cap] 61 (0, 0)) := by rw [← hV]; exact blk_other ((hBA.block g hgw).trans HR.out.blk) (Ne.symm hbg) _
      rw [hset, hV]
      rw [hV] at HEND
      clear hset hV
      have c1 : V.cell? ⟨g, 1, none⟩ = some (.slice (some ⟨b, off, none⟩) l.length cap) := blk_cell hVg rfl
      have f1 : V.frozen? ⟨g, 1, none⟩ = false := blk_frozen hVg
      clear hVg
      go_wp2_with fail
      go_ret
      exact ⟨rfl, AfR.same HEND.out rfl rfl rfl rfl⟩
    case grow =>
      intro hrm v6 w6 hown6 hgrow6
      have hb6 : Below W.heap.size W w6 := ((Below.refl _ _).alloc (Nat.le_refl _) _).grown hgrow6 (by simp) (fun _ h => by cases h)
      have hb7 : Below w.heap.size w w6 := hBW.trans (hb6.mono hBW.size)
      have hf6 := (hb7.frozen (p := ⟨g, 1, none⟩) hgw).trans fz
      have hc6 := (hb7.cell (p := ⟨g, 1, none⟩) hgw).trans HR.out.c1
      have HEND : Hid (AfR own i w (w6.setCell ⟨g, 1, none⟩ v6) g most (l ++ [x])) := HR.out.grew (B := (W.alloc (Obj.cells #[.int .i64 x] 3)).heap.size) HNF.out (by rw [World.size_alloc]; have := hBW.size; omega) (by have := HLEN.out; rw [List.length_append]; simp; omega) (by simp) (by simpa using hown6) hb7
      obtain ⟨g2, cap2, rfl⟩ : ∃ g2 cap2, v6 = .slice (some ⟨g2, 0, none⟩) (l.length + 1) cap2 := by
        rcases hown6.2 with ⟨_, h⟩ | ⟨g2, cap, cur, rfl, _⟩
        · omega
        · exact ⟨_, _, rfl⟩
      clear hown6 hgrow6 hb6 hb7
      go_wp2_with fail
      go_ret
      exact ⟨rfl, AfR.same HEND.out rfl rfl rfl rfl⟩
end Go.Proofs.Ytjibpdncginkdaa
