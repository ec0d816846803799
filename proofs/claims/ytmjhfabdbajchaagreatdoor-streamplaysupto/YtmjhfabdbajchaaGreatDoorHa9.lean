import Derived.Test.YtmjhfabdbajchaaGreatDoorHa8
import Derived.Test.YtmjhfabdbajchaaGreatDoorHa4
import Derived.ArgAppend
import Derived.Deep.RegionHeld3
import Derived.Deep.RegionLaw
import Derived.BigRegion
set_option linter.unusedVariables false
set_option linter.unusedSimpArgs false
namespace Go.Proofs.YtmjhfabdbajchaaGreatDoor
open Go.RowKit

/-! A row of pieces whose beginning may be cut off, among other things. -/
def RW (S : Nat → Prop) (W : World) (v : Value) (l : List Dc) : Prop :=
  (v = .slice none 0 0 ∧ l = []) ∨ ∃ b off cap cur, v = .slice (some ⟨b, off, none⟩) l.length cap ∧ l.length ≤ cap ∧ cap ≤ maxLen ∧ W.heap[b]? = some (.cells cur 37 (0, 0)) ∧ S b ∧ off + cap * 5 ≤ cur.size ∧ ∀ j u, (dcs l)[j]? = some u → cur[off + j]? = some u
theorem RW.shape {S : Nat → Prop} {W : World} {v : Value} {l : List Dc} (h : RW S W v l) : ∃ ao cap, v = .slice ao l.length cap ∧ l.length ≤ cap ∧ cap ≤ maxLen := by
  rcases h with ⟨rfl, rfl⟩ | ⟨b, off, cap, cur, rfl, h1, h2, _⟩
  · exact ⟨none, 0, rfl, Nat.le_refl _, Nat.zero_le _⟩
  · exact ⟨_, cap, rfl, h1, h2⟩
theorem RW.kp {S T : Nat → Prop} {W W' : World} {v : Value} {l : List Dc} (h : RW S W v l) (hk : Kp T W W') (hT : ∀ b cur, W.heap[b]? = some (.cells cur 37 (0, 0)) → ¬ T b) : RW S W' v l := by
  rcases h with h | ⟨b, off, cap, cur, rfl, h1, h2, h3, h4⟩
  · exact .inl h
  · exact .inr ⟨b, off, cap, cur, rfl, h1, h2, hk.blk h3 (hT b cur h3), h4⟩
theorem RW.below {S : Nat → Prop} {W W' : World} {v : Value} {l : List Dc} (h : RW S W v l) (hb : Below W.heap.size W W') : RW S W' v l := h.kp (T := fun _ => False) (Kp.of_below hb) (fun _ _ _ h => h)
theorem RW.apart {S : Nat → Prop} {W W' : World} {v : Value} {l : List Dc} {g : Nat} {cs : Array Value} {T : TypeId} {f : Nat × Nat} (h : RW S W v l) (hk : Kp (fun k => k = g) W W') (hg : W.heap[g]? = some (.cells cs T f)) (hT : T ≠ 37) : RW S W' v l :=
  h.kp hk (fun b cur hb e => by subst e; rw [hg] at hb; cases hb; exact hT rfl)
theorem RW.lay {S : Nat → Prop} {W : World} {ao : Option Addr} {n cap : Nat} {l : List Dc} (h : RW S W (.slice ao n cap) l) (hs : ∀ d ∈ l, d.t.size ≤ 9223372036854775807) : Lay W ao l := by
  intro j d hd
  have hj := (List.getElem?_eq_some_iff.1 hd).1
  rcases h with ⟨_, rfl⟩ | ⟨b, off, cap', cur, e, h1, h2, h3, _, h5, h6⟩
  · simp at hd
  · simp only [Value.slice.injEq] at e
    obtain ⟨rfl, _, rfl⟩ := e
    refine ⟨hs d (List.mem_of_getElem? hd), b, off, rfl, ?_⟩
    have c : ∀ k u, d.cs[k]? = some u → W.cell? ⟨b, off + (j * 5 + k), none⟩ = some u := fun k u hu => blk_cell h3 (h6 _ u (flat_at Dc.cs 5 Dc.cs_len l j k d u hd hu))
    exact ⟨c 0 _ rfl, c 1 _ rfl, c 2 _ rfl, c 3 _ rfl, c 4 _ rfl⟩
theorem RW.tail {S : Nat → Prop} {W : World} {ao : Option Addr} {n cap : Nat} {d : Dc} {l : List Dc} (h : RW S W (.slice ao n cap) (d :: l)) : ∃ b off cap2 off2, ao = some ⟨b, off, none⟩ ∧ cap = cap2 + 1 ∧ n = l.length + 1 ∧ l.length ≤ cap2 ∧ (cap2 = 0 ∧ off2 = off ∨ cap2 ≠ 0 ∧ off2 = off + 5) ∧ RW S W (.slice (some ⟨b, off2, none⟩) l.length cap2) l := by
  rcases h with ⟨_, h⟩ | ⟨b, off, cap', cur, e, h1, h2, h3, h4, h5, h6⟩
  · cases h
  · simp only [Value.slice.injEq] at e
    obtain ⟨rfl, rfl, rfl⟩ := e
    rw [List.length_cons] at h1
    have h55 : ∀ j u, (dcs l)[j]? = some u → cur[off + 5 + j]? = some u := by
      intro j u hu
      have : (dcs (d :: l))[5 + j]? = some u := by
        show (d.cs ++ dcs l)[5 + j]? = some u
        rw [List.getElem?_append_right (by rw [Dc.cs_len]; omega), Dc.cs_len]
        rw [show 5 + j - 5 = j by omega]; exact hu
      have := h6 _ u this
      rw [show off + 5 + j = off + (5 + j) by omega]; exact this
    by_cases hc : cap - 1 = 0
    · have hl0 : l = [] := List.eq_nil_of_length_eq_zero (by omega)
      refine ⟨b, off, cap - 1, off, rfl, by omega, rfl, by omega, .inl ⟨hc, rfl⟩, .inr ⟨b, off, cap - 1, cur, rfl, by omega, by omega, h3, h4, by omega, ?_⟩⟩
      intro j u hu
      rw [hl0] at hu
      simp [dcs, flat] at hu
    · exact ⟨b, off, cap - 1, off + 5, rfl, by omega, rfl, by omega, .inr ⟨hc, rfl⟩, .inr ⟨b, off + 5, cap - 1, cur, rfl, by omega, by omega, h3, h4, by omega, h55⟩⟩
theorem sets_kp (b : Nat) : ∀ (vs : List Value) (o : Nat) (w : World), Kp (fun k => k = b) w (w.setCells b o vs)
  | [], o, w => Kp.refl _ _
  | v :: vs, o, w => (Kp.set w b o v).trans (sets_kp b vs (o + 1) _)
theorem sets_blk (b : Nat) {T : TypeId} : ∀ (vs : List Value) (o : Nat) (w : World) (cur : Array Value), w.heap[b]? = some (.cells cur T (0, 0)) → ∃ cur', (w.setCells b o vs).heap[b]? = some (.cells cur' T (0, 0)) ∧ cur'.size = cur.size ∧ (∀ j, j < o ∨ o + vs.length ≤ j → cur'[j]? = cur[j]?) ∧ (o + vs.length ≤ cur.size → ∀ j u, vs[j]? = some u → cur'[o + j]? = some u)
  | [], o, w, cur, h => ⟨cur, h, rfl, fun _ _ => rfl, fun _ j u hu => by simp at hu⟩
  | v :: vs, o, w, cur, h => by
    have h1 := blk_set h o v
    obtain ⟨cur', e1, e2, e3, e4⟩ := sets_blk b vs (o + 1) _ _ h1
    rw [Array.size_setIfInBounds] at e2 e4
    refine ⟨cur', e1, e2, ?_, ?_⟩
    · intro j hj
      rw [List.length_cons] at hj
      rw [e3 j (by omega), Array.getElem?_setIfInBounds_ne (by omega)]
    · intro hs j u hu
      rw [List.length_cons] at hs
      cases j with
      | zero =>
        simp at hu
        subst hu
        rw [Nat.add_zero, e3 o (by omega), Array.getElem?_setIfInBounds_self_of_lt (by omega)]
      | succ j =>
        have := e4 (by omega) j u (by simpa using hu)
        rw [show o + (j + 1) = o + 1 + j by omega]; exact this
/-- A piece behind the row: in its room, or in a new one. -/
theorem run_app_rw {S : Nat → Prop} {W : World} {ty : TypeId} {v : Value} {l : List Dc} {d : Dc} (h : RW S W v l) (hB : Nw S W.heap.size) {g c : Nat} (hg : W.heap[g]? = some (.cells d.cs.toArray 37 (0, 0))) (hl : (l.length + 1) * 48 ≤ 140737488355328) :
    ∃ b off cap w', (Builtin.append_ #[42, 42] ty #[v, .slice (some ⟨g, 0, none⟩) 1 c]).run Tryz.prog W = .ok (.slice (some ⟨b, off, none⟩) (l.length + 1) cap) w' ∧ RW S w' (.slice (some ⟨b, off, none⟩) (l.length + 1) cap) (l ++ [d]) ∧ Kp (fun k => S k ∧ ∃ cur, W.heap[k]? = some (.cells cur 37 (0, 0))) W w' := by
  obtain ⟨i0, hi, hz0, hz1, hz2⟩ := info_parts Tryz.info37
  have hnews : ∀ j u, d.cs[j]? = some u → W.cell? ((⟨g, 0, none⟩ : Addr).add j) = some u := fun j u hu => World.news_of_block hg j u (by simpa using hu)
  have hone : ∀ u ∈ d.cs, u.oneCell' = true := by
    intro u hu; simp [Dc.cs] at hu; rcases hu with rfl | rfl | rfl | rfl | rfl <;> rfl
  have hcell1 : dcs (l ++ [d]) = dcs l ++ d.cs := by rw [dcs_app]; simp [dcs, flat]
  have grow : ∀ v' w', w'.ownsRow W.heap.size 37 5 v' (l.length + 1) (dcs l ++ d.cs) → W.grownBy w' none → ∃ b off cap, v' = .slice (some ⟨b, off, none⟩) (l.length + 1) cap ∧ RW S w' (.slice (some ⟨b, off, none⟩) (l.length + 1) cap) (l ++ [d]) ∧ Kp (fun k => S k ∧ ∃ cur, W.heap[k]? = some (.cells cur 37 (0, 0))) W w' := by
    intro v' w' h1 h2
    rcases h1.2 with ⟨_, h3⟩ | ⟨q, cap, cur, rfl, hq, h3, h4, h5, h6, h7⟩
    · omega
    · refine ⟨q, 0, cap, rfl, .inr ⟨q, 0, cap, cur, by rw [List.length_append]; rfl, by rw [List.length_append]; exact h4, h5, h3, hB q hq, by omega, ?_⟩, (Kp.of_grown h2).sub (fun k e => by cases e)⟩
      intro j u hu
      rw [hcell1] at hu
      have hj := (List.getElem?_eq_some_iff.1 hu).1
      have hlen := h1.1
      have : cur.toList[j]? = some u := by
        rw [← h7, List.getElem?_take] at hu
        split at hu
        · exact hu
        · cases hu
      rw [Nat.zero_add]
      simpa using this
  rcases h with ⟨rfl, rfl⟩ | ⟨b, off, cap, cur, rfl, h1, h2, h3, h4, h5, h6⟩
  · obtain ⟨v', w', hr, r1, r2, _⟩ := run_append_own (P := Tryz.prog) W W.heap.size 42 ty 37 i0 _ 5 48 Tryz.underlying42 hi hz0 hz1 hz2 rfl (by decide) (.slice none 0 0) 0 [] (World.ownsRow_nil W _ 37 5) ⟨g, 0, none⟩ 1 c d.cs rfl hnews hone (by unfold maxLen; omega) (by omega) (Nat.le_refl _)
    obtain ⟨q, o, cap, e, a1, a2⟩ := grow v' w' (by rw [show dcs ([] : List Dc) = [] from rfl]; simpa using r1) r2
    exact ⟨q, o, cap, w', by rw [hr, e], a1, a2⟩
  · have hcells : ∀ j u, (dcs l)[j]? = some u → W.cell? ⟨b, off + j, none⟩ = some u := fun j u hu => blk_cell h3 (h6 j u hu)
    by_cases hroom : l.length + 1 ≤ cap
    · have hsz : i0.size = 5 := hz1
      have hr := run_append_room_cells (P := Tryz.prog) W 42 ty 37 i0 Tryz.underlying42 hi b off l.length cap ⟨g, 0, none⟩ 1 c d.cs (by rw [hsz]; rfl) hnews hone hroom (by
        intro j hj
        rw [hsz]
        have hj5 : j < 5 := hj
        have : (cur[off + l.length * 5 + j]?).isSome = true := by
          rw [Array.getElem?_eq_getElem (by omega)]; rfl
        obtain ⟨u, hu⟩ := Option.isSome_iff_exists.1 this
        rw [blk_cell h3 hu]; rfl) (fun j _ => blk_frozen h3)
      rw [hsz] at hr
      obtain ⟨cur', e1, e2, e3, e4⟩ := sets_blk b d.cs (off + l.length * 5) W cur h3
      have h5l : d.cs.length = 5 := rfl
      refine ⟨b, off, cap, _, hr, .inr ⟨b, off, cap, cur', by rw [List.length_append]; rfl, by rw [List.length_append]; exact hroom, h2, e1, h4, by omega, ?_⟩, (sets_kp b d.cs _ W).sub (fun k e => by rw [e]; exact ⟨h4, cur, h3⟩)⟩
      intro j u hu
      rw [hcell1] at hu
      by_cases hj : j < (dcs l).length
      · rw [List.getElem?_append_left hj] at hu
        rw [dcs_len] at hj
        rw [e3 (off + j) (by omega)]
        exact h6 j u hu
      · rw [List.getElem?_append_right (by omega)] at hu
        rw [dcs_len] at hu hj
        have := e4 (by rw [h5l]; omega) (j - l.length * 5) u hu
        rw [show off + l.length * 5 + (j - l.length * 5) = off + j by omega] at this
        exact this
    · obtain ⟨v', w', hr, r1, r2⟩ := run_append_arg_grows (P := Tryz.prog) W 42 ty 37 i0 _ 5 48 Tryz.underlying42 hi hz0 hz1 hz2 rfl (by decide) ⟨b, off, none⟩ l.length cap (dcs l) (dcs_len l) (fun j u hu => by rw [Addr.add_lit]; exact hcells j u hu) ⟨g, 0, none⟩ 1 c d.cs rfl hnews (by omega) (by unfold maxLen; omega) (by omega)
      obtain ⟨q, o, cap', e, a1, a2⟩ := grow v' w' r1 r2
      exact ⟨q, o, cap', w', by rw [hr, e], a1, a2⟩
theorem step_rw {S : Nat → Prop} {W : World} {ops : Array Oper} {o : Oper} {a : Act} {K : Act → World → Prop} {Q : Exit → Act → World → Prop} {E : Prop} (hgd : o.guard = none) (s x : Operand)
    (ho : o.op = .call { callee := .builtin .append, args := #[s, x], argTypes := #[42, 42] }) (v : Value) (l : List Dc) (d : Dc) (hs : a.eval s = v) (hr : RW S W v l) (hB : Nw S W.heap.size)
    (g c : Nat) (hx : a.eval x = .slice (some ⟨g, 0, none⟩) 1 c) (hg : W.heap[g]? = some (.cells d.cs.toArray 37 (0, 0))) (hl : (l.length + 1) * 48 ≤ 140737488355328)
    (h : ∀ b off cap w', RW S w' (.slice (some ⟨b, off, none⟩) (l.length + 1) cap) (l ++ [d]) → Kp (fun k => S k ∧ ∃ cur, W.heap[k]? = some (.cells cur 37 (0, 0))) W w' → K (a.put o.dst (.slice (some ⟨b, off, none⟩) (l.length + 1) cap)) w') :
    if Region.wanted o (yielded ops a.tmps) = true then Oper.wp Tryz.prog o a W K Q else E := by
  have hw : Region.wanted o (yielded ops a.tmps) = true := by simp [Region.wanted, hgd]
  rw [if_pos hw]
  obtain ⟨b, off, cap, w', hrun, h1, h2⟩ := run_app_rw (ty := o.type) hr hB (c := c) hg hl
  unfold Oper.wp execOp
  simp only [ho, resolve, invoke, builtin, Sem.run_bind, Sem.run_pure, Result.andThen_ok, List.map_toArray, List.map_cons, List.map_nil, hs, hx, hrun]
  exact h b off cap w' h1 h2
end Go.Proofs.YtmjhfabdbajchaaGreatDoor
set_option linter.unusedVariables false
set_option linter.unusedSimpArgs false
namespace Go.Proofs.YtmjhfabdbajchaaGreatDoor
open Go.RowKit

theorem add_any (a b : Nat) (ha : a ≤ 1099511627776) (hb : b ≤ 1099511627776) (w : World) : Calls Tryz.prog 109 #[.int .i64 (a : Int), .int .i64 (b : Int)] w fun e w' => e = .returned (.int .i64 ((min (a + b) 1099511627776 : Nat) : Int)) ∧ w' = w := by
  have hmn : min ((a : Int) + b) 1099511627776 = ((min (a + b) 1099511627776 : Nat) : Int) := by omega
  have w1 : IntKind.i64.wrap ((a : Int) + b) = a + b := by rw [IntKind.wrap_i64]; omega
  go_enter Tryz.func109, Tryz.ntmps109
  go_wp2_with fail
  go_ret
  exact ⟨rfl, rfl⟩
theorem pw_bd {d : Dc} (hd : rt d = true) : (isF d = true ∧ dwd d = 1099511627776 ∧ pw d = 4097) ∨ (isF d = false ∧ dwd d = pw d ∧ pw d ≤ 131070) := by
  by_cases hf : isF d = true
  · left
    refine ⟨hf, by unfold dwd; rw [if_pos hf], ?_⟩
    have := pw_split d
    unfold fwd at this
    rw [if_pos hf, if_pos hf] at this
    omega
  · right
    have hf' : isF d = false := by simpa using hf
    refine ⟨hf', by unfold dwd fwd; rw [if_neg hf, if_neg hf], ?_⟩
    cases rt_of hd with
    | text t hq =>
      have h1 : hasF t = false := by
        cases h : hasF t
        · rfl
        · exfalso; apply hf; simp [isF, h]
      have h2 := (tw_bd t).2
      have h3 := (rtT_len hq).2
      simp [pw, h1]; omega
    | brk m hq => have := rtN_of hq; simp [pw]; omega
    | beg m e hq => simp [pw]
    | blank => simp [pw]
    | hard => simp [isF] at hf
    | empty => simp [isF] at hf
    | «end» => simp [pw]
/-- The document's sum against the plain one. -/
theorem sum_far {d : Dc} (hd : rt d = true) {R : Int} (hR : R ≤ 4096) {n : Nat} (hn : n ≤ 4096) : ∃ z : Nat, dwd d ≤ 1099511627776 ∧ min (n + dwd d) 1099511627776 = z ∧ z ≤ 1099511627776 ∧ (R < (z : Int) ↔ R < ((n + pw d : Nat) : Int)) ∧ (¬ R < ((n + pw d : Nat) : Int) → z = n + pw d ∧ z ≤ 4096) ∧ min z 4097 = min (n + pw d) 4097 := by
  rcases pw_bd hd with ⟨_, h1, h2⟩ | ⟨_, h1, h2⟩
  · refine ⟨1099511627776, by omega, by omega, by omega, ?_, ?_, by omega⟩
    · omega
    · omega
  · refine ⟨n + pw d, by omega, by omega, by omega, Iff.rfl, fun h => ⟨rfl, by omega⟩, rfl⟩
theorem scB_cons (R : Int) (n dp : Nat) (d : Dc) (r : List Dc) : scB R n dp (d :: r) = if dn d.k dp = 0 then (n, true) else if R < ((n + pw d : Nat) : Int) then (n + pw d, true) else scB R (n + pw d) (dn d.k dp) r := by rw [scB]
/-- What the document's block answers. -/
def AnsB (w : World) (T : Nat × Bool) (e : Ending) (w' : World) : Prop := ∃ x : Nat, e = .returned (.tuple #[.int .i64 (x : Int), .bool T.2]) ∧ x ≤ 1099511627776 ∧ min x 4097 = min T.1 4097 ∧ Below w.heap.size w w'

set_option maxHeartbeats 4000000 in
set_option maxRecDepth 100000 in
theorem block_any {g gp cap : Nat} {W : World} {ao : Option Addr} {l : List Dc} {R : Int} (c0 : W.cell? ⟨g, 0, none⟩ = some (.pointer (some ⟨gp, 0, none⟩))) (c1 : W.cell? ⟨g, 1, none⟩ = some (.slice ao l.length cap)) (hL : Lay W ao l) (hrt : ∀ d ∈ l, rt d = true) (hR : R ≤ 4096) (hlen : l.length ≤ 100000000) (h6 : ∀ d, l[0]? = some d → d.k = 6)
    (hroom : Calls Tryz.prog 108 #[.pointer (some ⟨gp, 0, none⟩)] W fun e w' => e = .returned (.int .i64 R) ∧ Below W.heap.size W w') :
    Calls Tryz.prog 68 #[.pointer (some ⟨g, 0, none⟩)] W fun e w' => AnsB W (scB R 0 0 l) e w' := by
  have hgl := World.block_lt_of_cell? _ _ c0
  have HL : Hid (∀ V, Below W.heap.size W V → V.cell? ⟨g, 1, none⟩ = some (.slice ao l.length cap) ∧ Lay V ao l) := fun V hV => ⟨(hV.cell (World.block_lt_of_cell? _ _ c1)).trans c1, hL.below hV⟩
  have HRT : Hid (∀ d ∈ l, rt d = true) := hrt
  have H6 : Hid (∀ d, l[0]? = some d → d.k = 6) := h6
  obtain ⟨T, hT⟩ : ∃ T, scB R 0 0 l = T := ⟨_, rfl⟩
  rw [hT]
  have HT : Hid (scB R 0 0 l = T) := hT
  clear hL hrt h6 hT
  go_enter Tryz.func68, Tryz.ntmps68
  go_wp2_with (go_at_call 108; refine hroom.mono ?_; rintro e w1 ⟨rfl, hb1⟩; have HB1 : Hid (Below W.heap.size W w1) := hb1; clear hb1)
  go_loopw [5, 6, 7] (fun n dp i wr => ∃ (k nn dd : Nat), k ≤ l.length ∧ n = .int .i64 nn ∧ dp = .int .i64 dd ∧ i = .int .i64 k ∧ nn ≤ 4096 ∧ dd ≤ k ∧ Hid ((1 ≤ k → 1 ≤ dd) ∧ scB R nn dd (l.drop k) = T ∧ Below W.heap.size W wr)) (fun _ _ i _ => l.length - (intOf i).toNat)
  case atStart => exact ⟨0, 0, 0, Nat.zero_le _, rfl, rfl, rfl, Nat.zero_le _, Nat.le_refl _, (fun h => by omega), by rw [List.drop_zero]; exact HT.out, HB1.out⟩
  case round =>
    obtain ⟨k, n, dp, hk, rfl, rfl, rfl, hn, hdk, HI⟩ := hrel
    obtain ⟨hdp, hsc, hbw⟩ := HI.out
    obtain ⟨d1, hLr⟩ := HL.out _ hbw
    by_cases hlt : k < l.length
    · have q1 : (k : Int) < l.length := by omega
      have q2 : (0 : Int) ≤ k := by omega
      obtain ⟨d, hd⟩ : ∃ d, l[k]? = some d := ⟨_, List.getElem?_eq_getElem hlt⟩
      obtain ⟨ht, b, off, rfl, e0, e1, e2, e3, e4⟩ := hLr k d hd
      have hrd := HRT.out d (List.mem_of_getElem? hd)
      have edr : l.drop k = d :: l.drop (k + 1) := by
        rw [List.drop_eq_getElem_cons hlt]; congr 1; exact (List.getElem?_eq_some_iff.1 hd).2
      rw [edr, scB_cons] at hsc
      obtain ⟨z, hz0, hz1, hz2, hz3, hz4, hz5⟩ := sum_far hrd hR hn
      have HW : Hid (∀ V, Calls Tryz.prog 110 #[.agg #[.int .u8 d.k, .string d.t, .int .i64 d.b, .int .i64 d.i, .bool d.e]] V fun e w' => e = .returned (.int .i64 ((dwd d : Nat) : Int)) ∧ Below V.heap.size V w') := fun V => dwide_any d hrd (by have := rt_sq hrd; omega) V
      obtain ⟨zd, hzd⟩ : ∃ zd, dwd d = zd := ⟨_, rfl⟩
      rw [hzd] at HW hz0 hz1
      have HA : Hid (∀ V, Calls Tryz.prog 109 #[.int .i64 (n : Int), .int .i64 (zd : Int)] V fun e w' => e = .returned (.int .i64 (z : Int)) ∧ w' = V) := fun V => by have := add_any n zd (by omega) hz0 V; rw [hz1] at this; exact this
      have HB : Hid (Below W.heap.size W wr ∧ ∀ o, Below W.heap.size W (wr.alloc o)) := ⟨hbw, fun o => hbw.alloc hbw.size _⟩
      have hk0 : k = 0 → d.k = 6 := fun e => by subst e; exact H6.out d hd
      obtain ⟨m, hm⟩ : ∃ m, n + pw d = m := ⟨_, rfl⟩
      rw [hm] at hz3 hz4 hz5 hsc
      obtain ⟨dk, dt, db, di, de⟩ := d
      simp only at e0 e1 e2 e3 e4 hk0 HW hsc
      clear HI hbw hLr hd edr hrd hz0 hz1 hzd hm ht
      by_cases h6 : dk = 6
      · subst h6
        have edn : dn 6 dp = dp + 1 := rfl
        rw [edn, if_neg (by omega)] at hsc
        have q3 : ¬ ((dp : Int) + 1 = 0) := by omega
        by_cases hgt : R < (z : Int)
        · rw [if_pos (hz3.1 hgt)] at hsc
          have HS : Hid ((m, true) = T) := hsc
          clear hsc hz3 hz4
          go_wp2_with (first | (go_at_call 110; refine (HW.out _).mono ?_; rintro e w2 ⟨rfl, hb2⟩; have HB2 : Hid (Below W.heap.size W w2) := (HB.out.2 _).trans (hb2.mono (HB.out.2 _).size); clear hb2) | (go_at_call 109; refine (HA.out _).mono ?_; rintro e w3 ⟨rfl, rfl⟩))
          go_ret2
          exact ⟨z, (by rw [← HS.out]; first | done | rfl), hz2, by rw [← HS.out]; exact hz5, HB2.out⟩
        · obtain ⟨rfl, hz6⟩ := hz4 (fun h => hgt (hz3.2 h))
          rw [if_neg (fun h => hgt (hz3.2 h))] at hsc
          have HS : Hid (scB R z (dp + 1) (l.drop (k + 1)) = T) := hsc
          clear hsc hz3 hz4
          go_wp2_with (first | (go_at_call 110; refine (HW.out _).mono ?_; rintro e w2 ⟨rfl, hb2⟩; have HB2 : Hid (Below W.heap.size W w2) := (HB.out.2 _).trans (hb2.mono (HB.out.2 _).size); clear hb2) | (go_at_call 109; refine (HA.out _).mono ?_; rintro e w3 ⟨rfl, rfl⟩))
          exact ⟨⟨k + 1, z, dp + 1, hlt, rfl, by go_num, by go_num, hz6, by omega, (fun _ => by omega), HS.out, HB2.out⟩, by simp [intOf]; omega⟩
      by_cases h7 : dk = 7
      · subst h7
        have hkp : 1 ≤ k := by
          rcases Nat.eq_zero_or_pos k with e | e
          · exact absurd (hk0 e) (by decide)
          · exact e
        have hdp1 := hdp hkp
        have edn : dn 7 dp = dp - 1 := rfl
        rw [edn] at hsc
        obtain ⟨dq, rfl⟩ : ∃ dq, dp = dq + 1 := ⟨dp - 1, by omega⟩
        rw [show dq + 1 - 1 = dq by omega] at hsc
        by_cases hz : dq = 0
        · subst hz
          rw [if_pos rfl] at hsc
          have HS : Hid ((n, true) = T) := hsc
          clear hsc hz3 hz4
          go_wp2_with (first | (go_at_call 110; refine (HW.out _).mono ?_; rintro e w2 ⟨rfl, hb2⟩; have HB2 : Hid (Below W.heap.size W w2) := (HB.out.2 _).trans (hb2.mono (HB.out.2 _).size); clear hb2) | (go_at_call 109; refine (HA.out _).mono ?_; rintro e w3 ⟨rfl, rfl⟩))
          go_ret2
          exact ⟨n, (by rw [← HS.out]; first | done | rfl), by omega, by rw [← HS.out], HB.out.2 _⟩
        · rw [if_neg hz] at hsc
          have q3 : ¬ ((dq : Int) = 0) := by omega
          have q4 : ((dq + 1 : Nat) : Int) - 1 = dq := by omega
          by_cases hgt : R < (z : Int)
          · rw [if_pos (hz3.1 hgt)] at hsc
            have HS : Hid ((m, true) = T) := hsc
            clear hsc hz3 hz4
            go_wp2_with (first | (go_at_call 110; refine (HW.out _).mono ?_; rintro e w2 ⟨rfl, hb2⟩; have HB2 : Hid (Below W.heap.size W w2) := (HB.out.2 _).trans (hb2.mono (HB.out.2 _).size); clear hb2) | (go_at_call 109; refine (HA.out _).mono ?_; rintro e w3 ⟨rfl, rfl⟩))
            go_ret2
            exact ⟨z, (by rw [← HS.out]; first | done | rfl), hz2, by rw [← HS.out]; exact hz5, HB2.out⟩
          · obtain ⟨rfl, hz6⟩ := hz4 (fun h => hgt (hz3.2 h))
            rw [if_neg (fun h => hgt (hz3.2 h))] at hsc
            have HS : Hid (scB R z dq (l.drop (k + 1)) = T) := hsc
            clear hsc hz3 hz4
            go_wp2_with (first | (go_at_call 110; refine (HW.out _).mono ?_; rintro e w2 ⟨rfl, hb2⟩; have HB2 : Hid (Below W.heap.size W w2) := (HB.out.2 _).trans (hb2.mono (HB.out.2 _).size); clear hb2) | (go_at_call 109; refine (HA.out _).mono ?_; rintro e w3 ⟨rfl, rfl⟩))
            exact ⟨⟨k + 1, z, dq, hlt, rfl, by go_num, by go_num, hz6, by omega, (fun _ => by omega), HS.out, HB2.out⟩, by simp [intOf]; omega⟩
      have hkp : 1 ≤ k := by
        rcases Nat.eq_zero_or_pos k with e | e
        · exact absurd (hk0 e) h6
        · exact e
      have hdp1 := hdp hkp
      have edn : dn dk dp = dp := by unfold dn; rw [if_neg h6, if_neg h7]
      rw [edn, if_neg (by omega)] at hsc
      have k6 : (dk == 6) = false := by simpa using h6
      have k7 : (dk == 7) = false := by simpa using h7
      have q3 : ¬ ((dp : Int) = 0) := by omega
      by_cases hgt : R < (z : Int)
      · rw [if_pos (hz3.1 hgt)] at hsc
        have HS : Hid ((m, true) = T) := hsc
        clear hsc hz3 hz4
        go_wp2_with (first | (go_at_call 110; refine (HW.out _).mono ?_; rintro e w2 ⟨rfl, hb2⟩; have HB2 : Hid (Below W.heap.size W w2) := (HB.out.2 _).trans (hb2.mono (HB.out.2 _).size); clear hb2) | (go_at_call 109; refine (HA.out _).mono ?_; rintro e w3 ⟨rfl, rfl⟩))
        go_ret2
        exact ⟨z, (by rw [← HS.out]; first | done | rfl), hz2, by rw [← HS.out]; exact hz5, HB2.out⟩
      · obtain ⟨rfl, hz6⟩ := hz4 (fun h => hgt (hz3.2 h))
        rw [if_neg (fun h => hgt (hz3.2 h))] at hsc
        have HS : Hid (scB R z dp (l.drop (k + 1)) = T) := hsc
        clear hsc hz3 hz4
        go_wp2_with (first | (go_at_call 110; refine (HW.out _).mono ?_; rintro e w2 ⟨rfl, hb2⟩; have HB2 : Hid (Below W.heap.size W w2) := (HB.out.2 _).trans (hb2.mono (HB.out.2 _).size); clear hb2) | (go_at_call 109; refine (HA.out _).mono ?_; rintro e w3 ⟨rfl, rfl⟩))
        exact ⟨⟨k + 1, z, dp, hlt, rfl, rfl, by go_num, hz6, by omega, (fun _ => by omega), HS.out, HB2.out⟩, by simp [intOf]; omega⟩
    · obtain rfl : k = l.length := by omega
      have q1 : ¬ ((l.length : Int) < l.length) := by omega
      rw [List.drop_length] at hsc
      have HS : Hid ((n, false) = T) := by show _ = _; simpa [scB] using hsc
      have HB : Hid (Below W.heap.size W wr) := hbw
      clear HI hbw hLr hsc hdp
      go_wp2_with fail
      go_ret2
      exact ⟨n, (by rw [← HS.out]; first | done | rfl), by omega, by rw [← HS.out], HB.out⟩
end Go.Proofs.YtmjhfabdbajchaaGreatDoor
set_option linter.unusedVariables false
set_option linter.unusedSimpArgs false
namespace Go.Proofs.YtmjhfabdbajchaaGreatDoor
open Go.RowKit

theorem scH_cons (R : Int) (n dp : Nat) (d : Dc) (r : List Dc) : scH R n dp (d :: r) = if R < (n : Int) then (n, true) else if dp = 0 ∧ Ends d then (n, true) else scH R (n + pw d) (dn d.k dp) r := by rw [scH]
theorem scH_gt (R : Int) (n dp : Nat) (v : List Dc) (h : R < (n : Int)) : scH R n dp v = (n, true) := by
  cases v with
  | nil => simp only [scH, decide_eq_true h]
  | cons d r => rw [scH, if_pos h]
/-- How the document's sum stands to the plain one. -/
structure Two (R : Int) (n m : Nat) : Prop where
  mn : min n 4097 = min m 4097
  eq : (n : Int) ≤ R → n = m
  lt : R < (n : Int) ↔ R < (m : Int)

set_option maxHeartbeats 4000000 in
set_option maxRecDepth 100000 in
theorem hangs_any {g gp cap : Nat} {W : World} {ao : Option Addr} {l : List Dc} {d0 : Dc} {R : Int} (c0 : W.cell? ⟨g, 0, none⟩ = some (.pointer (some ⟨gp, 0, none⟩))) (c1 : W.cell? ⟨g, 1, none⟩ = some (.slice ao l.length cap)) (hL : Lay W ao l) (hrt : ∀ d ∈ l, rt d = true) (hR : R ≤ 4096) (hlen : l.length ≤ 100000000) (h0 : l[0]? = some d0) (hb0 : 0 ≤ d0.b ∧ d0.b ≤ 1000)
    (hroom : Calls Tryz.prog 108 #[.pointer (some ⟨gp, 0, none⟩)] W fun e w' => e = .returned (.int .i64 R) ∧ Below W.heap.size W w') :
    Calls Tryz.prog 70 #[.pointer (some ⟨g, 0, none⟩)] W fun e w' => AnsB W (scH R d0.b.toNat 0 (l.drop 1)) e w' := by
  have hgl := World.block_lt_of_cell? _ _ c0
  have hl1 : 1 ≤ l.length := (List.getElem?_eq_some_iff.1 h0).1
  have HL : Hid (∀ V, Below W.heap.size W V → V.cell? ⟨g, 1, none⟩ = some (.slice ao l.length cap) ∧ Lay V ao l) := fun V hV => ⟨(hV.cell (World.block_lt_of_cell? _ _ c1)).trans c1, hL.below hV⟩
  have HRT : Hid (∀ d ∈ l, rt d = true) := hrt
  have H0 : Hid (l[0]? = some d0) := h0
  obtain ⟨T, hT⟩ : ∃ T, scH R d0.b.toNat 0 (l.drop 1) = T := ⟨_, rfl⟩
  obtain ⟨n0, hn0⟩ : ∃ n0 : Nat, d0.b = (n0 : Int) := ⟨d0.b.toNat, by omega⟩
  rw [hT]
  have ht0 : d0.b.toNat = n0 := by omega
  rw [ht0] at hT
  have HT : Hid (scH R n0 0 (l.drop 1) = T) := hT
  have hn1 : n0 ≤ 1000 := by omega
  obtain ⟨_, zb, zo, rfl, _, _, y2, _, _⟩ := hL 0 d0 h0
  rw [hn0, show zo + 0 * 5 + 2 = zo + 2 by omega] at y2
  have HY : Hid (∀ V, Below W.heap.size W V → V.cell? ⟨zb, zo + 2, none⟩ = some (.int .i64 (n0 : Int))) := fun V hV => (hV.cell (World.block_lt_of_cell? _ _ y2)).trans y2
  have zq : (0 : Int) < l.length := by omega
  clear hL hrt h0 hT ht0 y2
  go_enter Tryz.func70, Tryz.ntmps70
  go_wp2_with (go_at_call 108; refine hroom.mono ?_; rintro e w1 ⟨rfl, hb1⟩; have HB1 : Hid (Below W.heap.size W w1) := hb1; obtain ⟨z1, _⟩ := HL.out _ hb1; have y2 := HY.out _ hb1; clear hb1)
  go_loopw [5, 6, 7] (fun n dp i wr => ∃ (k nn na dd : Nat), k ≤ l.length ∧ n = .int .i64 nn ∧ dp = .int .i64 dd ∧ i = .int .i64 k ∧ nn ≤ 1099511627776 ∧ dd ≤ k ∧ 1 ≤ k ∧ Hid (Two R nn na ∧ scH R na dd (l.drop k) = T ∧ Below W.heap.size W wr)) (fun _ _ i _ => l.length - (intOf i).toNat)
  case atStart => exact ⟨1, n0, n0, 0, hl1, rfl, rfl, rfl, by omega, by omega, Nat.le_refl _, ⟨rfl, fun _ => rfl, Iff.rfl⟩, HT.out, HB1.out⟩
  case round =>
    obtain ⟨k, n, na, dp, hk, rfl, rfl, rfl, hn, hdk, hk1, HI⟩ := hrel
    obtain ⟨h2w, hsc, hbw⟩ := HI.out
    obtain ⟨d1, hLr⟩ := HL.out _ hbw
    by_cases hgtR : R < (n : Int)
    · have qq : ¬ ((n : Int) ≤ R) := by omega
      rw [scH_gt _ _ _ _ (h2w.lt.1 hgtR)] at hsc
      have HS : Hid ((na, true) = T) := hsc
      have hmn := h2w.mn
      have HB : Hid (Below W.heap.size W wr) := hbw
      clear HI hbw hLr hsc h2w
      by_cases hlt : k < l.length
      · have q1 : (k : Int) < l.length := by omega
        go_wp2_with fail
        go_ret2
        exact ⟨n, (by rw [← HS.out]; first | done | rfl), hn, by rw [← HS.out]; exact hmn, HB.out⟩
      · have q1 : ¬ ((k : Int) < l.length) := by omega
        go_wp2_with fail
        go_ret2
        exact ⟨n, (by rw [← HS.out]; first | done | rfl), hn, by rw [← HS.out]; exact hmn, HB.out⟩
    have hle : (n : Int) ≤ R := by omega
    obtain rfl : n = na := h2w.eq hle
    by_cases hlt : k < l.length
    · have q1 : (k : Int) < l.length := by omega
      have q2 : (0 : Int) ≤ k := by omega
      obtain ⟨d, hd⟩ : ∃ d, l[k]? = some d := ⟨_, List.getElem?_eq_getElem hlt⟩
      obtain ⟨ht, b, off, eb, e0, e1, e2, e3, e4⟩ := hLr k d hd
      simp only [Option.some.injEq, Addr.mk.injEq, and_true] at eb
      obtain ⟨rfl, rfl⟩ := eb
      have hrd := HRT.out d (List.mem_of_getElem? hd)
      have edr : l.drop k = d :: l.drop (k + 1) := by
        rw [List.drop_eq_getElem_cons hlt]; congr 1; exact (List.getElem?_eq_some_iff.1 hd).2
      rw [edr, scH_cons, if_neg (by omega)] at hsc
      obtain ⟨z, hz0, hz1, hz2, hz3, hz4, hz5⟩ := sum_far hrd hR (n := n) (by omega)
      have HW : Hid (∀ V, Calls Tryz.prog 110 #[.agg #[.int .u8 d.k, .string d.t, .int .i64 d.b, .int .i64 d.i, .bool d.e]] V fun e w' => e = .returned (.int .i64 ((dwd d : Nat) : Int)) ∧ Below V.heap.size V w') := fun V => dwide_any d hrd (by have := rt_sq hrd; omega) V
      obtain ⟨zd, hzd⟩ : ∃ zd, dwd d = zd := ⟨_, rfl⟩
      rw [hzd] at HW hz0 hz1
      have HA : Hid (∀ V, Calls Tryz.prog 109 #[.int .i64 (n : Int), .int .i64 (zd : Int)] V fun e w' => e = .returned (.int .i64 (z : Int)) ∧ w' = V) := fun V => by have := add_any n zd (by omega) hz0 V; rw [hz1] at this; exact this
      have HB : Hid (Below W.heap.size W wr ∧ ∀ o, Below W.heap.size W (wr.alloc o)) := ⟨hbw, fun o => hbw.alloc hbw.size _⟩
      obtain ⟨m, hm⟩ : ∃ m, n + pw d = m := ⟨_, rfl⟩
      rw [hm] at hz3 hz4 hz5 hsc
      have HTW : Hid (Two R z m) := ⟨hz5, fun h => (hz4 (fun h2 => by have := hz3.2 h2; omega)).1, hz3⟩
      unfold Ends at hsc
      obtain ⟨dk, dt, db, di, de⟩ := d
      simp only at e0 e1 e2 e3 e4 HW hsc
      clear HI hbw hLr hd edr hrd hz0 hz1 hz3 hz4 hz5 hzd hm ht h2w
      by_cases hdz : dp = 0
      · subst hdz
        have q5 : ((0 : Int) == 0) = true := rfl
        by_cases hend : dk = 3 ∨ dk = 4 ∨ dk = 5 ∨ dk = 7
        · rw [if_pos ⟨rfl, hend⟩] at hsc
          have HS : Hid ((n, true) = T) := hsc
          clear hsc
          rcases hend with rfl | rfl | rfl | rfl
          · go_wp2_with fail
            go_ret2
            exact ⟨n, (by rw [← HS.out]; first | done | rfl), by omega, by rw [← HS.out], HB.out.2 _⟩
          · go_wp2_with fail
            go_ret2
            exact ⟨n, (by rw [← HS.out]; first | done | rfl), by omega, by rw [← HS.out], HB.out.2 _⟩
          · go_wp2_with fail
            go_ret2
            exact ⟨n, (by rw [← HS.out]; first | done | rfl), by omega, by rw [← HS.out], HB.out.2 _⟩
          · go_wp2_with fail
            go_ret2
            exact ⟨n, (by rw [← HS.out]; first | done | rfl), by omega, by rw [← HS.out], HB.out.2 _⟩
        · rw [if_neg (fun h => hend h.2)] at hsc
          have k3 : (dk == 3) = false := by simp; omega
          have k4 : (dk == 4) = false := by simp; omega
          have k5 : (dk == 5) = false := by simp; omega
          have k7 : (dk == 7) = false := by simp; omega
          by_cases h6 : dk = 6
          · subst h6
            have HS : Hid (scH R m 1 (l.drop (k + 1)) = T) := hsc
            clear hsc hend
            go_wp2_with (first | (go_at_call 110; refine (HW.out _).mono ?_; rintro e w2 ⟨rfl, hb2⟩; have HB2 : Hid (Below W.heap.size W w2) := (HB.out.2 _).trans (hb2.mono (HB.out.2 _).size); clear hb2) | (go_at_call 109; refine (HA.out _).mono ?_; rintro e w3 ⟨rfl, rfl⟩))
            exact ⟨⟨k + 1, z, m, 1, hlt, rfl, by first | rfl | go_num, by go_num, hz2, by omega, by omega, HTW.out, HS.out, HB2.out⟩, by simp [intOf]; omega⟩
          · have k6 : (dk == 6) = false := by simpa using h6
            have edn : dn dk 0 = 0 := by unfold dn; rw [if_neg h6]; split <;> rfl
            rw [edn] at hsc
            have HS : Hid (scH R m 0 (l.drop (k + 1)) = T) := hsc
            clear hsc hend
            go_wp2_with (first | (go_at_call 110; refine (HW.out _).mono ?_; rintro e w2 ⟨rfl, hb2⟩; have HB2 : Hid (Below W.heap.size W w2) := (HB.out.2 _).trans (hb2.mono (HB.out.2 _).size); clear hb2) | (go_at_call 109; refine (HA.out _).mono ?_; rintro e w3 ⟨rfl, rfl⟩))
            exact ⟨⟨k + 1, z, m, 0, hlt, rfl, by first | rfl | go_num, by go_num, hz2, by omega, by omega, HTW.out, HS.out, HB2.out⟩, by simp [intOf]; omega⟩
      · rw [if_neg (fun h => hdz h.1)] at hsc
        have q5 : ((dp : Int) == 0) = false := by simp; omega
        have q6 : ¬ ((dp : Int) = 0) := by omega
        by_cases h6 : dk = 6
        · subst h6
          have HS : Hid (scH R m (dp + 1) (l.drop (k + 1)) = T) := hsc
          clear hsc
          go_wp2_with (first | (go_at_call 110; refine (HW.out _).mono ?_; rintro e w2 ⟨rfl, hb2⟩; have HB2 : Hid (Below W.heap.size W w2) := (HB.out.2 _).trans (hb2.mono (HB.out.2 _).size); clear hb2) | (go_at_call 109; refine (HA.out _).mono ?_; rintro e w3 ⟨rfl, rfl⟩))
          exact ⟨⟨k + 1, z, m, dp + 1, hlt, rfl, by first | rfl | go_num, by go_num, hz2, by omega, by omega, HTW.out, HS.out, HB2.out⟩, by simp [intOf]; omega⟩
        by_cases h7 : dk = 7
        · subst h7
          obtain ⟨dq, rfl⟩ : ∃ dq, dp = dq + 1 := ⟨dp - 1, by omega⟩
          have HS : Hid (scH R m dq (l.drop (k + 1)) = T) := hsc
          have q7 : ((dq + 1 : Nat) : Int) - 1 = dq := by omega
          clear hsc
          go_wp2_with (first | (go_at_call 110; refine (HW.out _).mono ?_; rintro e w2 ⟨rfl, hb2⟩; have HB2 : Hid (Below W.heap.size W w2) := (HB.out.2 _).trans (hb2.mono (HB.out.2 _).size); clear hb2) | (go_at_call 109; refine (HA.out _).mono ?_; rintro e w3 ⟨rfl, rfl⟩))
          exact ⟨⟨k + 1, z, m, dq, hlt, rfl, by first | rfl | go_num, by go_num, hz2, by omega, by omega, HTW.out, HS.out, HB2.out⟩, by simp [intOf]; omega⟩
        have k6 : (dk == 6) = false := by simpa using h6
        have k7 : (dk == 7) = false := by simpa using h7
        have edn : dn dk dp = dp := by unfold dn; rw [if_neg h6, if_neg h7]
        rw [edn] at hsc
        have HS : Hid (scH R m dp (l.drop (k + 1)) = T) := hsc
        clear hsc
        go_wp2_with (first | (go_at_call 110; refine (HW.out _).mono ?_; rintro e w2 ⟨rfl, hb2⟩; have HB2 : Hid (Below W.heap.size W w2) := (HB.out.2 _).trans (hb2.mono (HB.out.2 _).size); clear hb2) | (go_at_call 109; refine (HA.out _).mono ?_; rintro e w3 ⟨rfl, rfl⟩))
        exact ⟨⟨k + 1, z, m, dp, hlt, rfl, by first | rfl | go_num, by go_num, hz2, by omega, by omega, HTW.out, HS.out, HB2.out⟩, by simp [intOf]; omega⟩
    · obtain rfl : k = l.length := by omega
      have q1 : ¬ ((l.length : Int) < l.length) := by omega
      have qq : ¬ (R < (n : Int)) := hgtR
      rw [List.drop_length] at hsc
      have HS : Hid ((n, false) = T) := by
        show _ = _
        have : (n, decide (R < (n : Int))) = T := by simpa [scH] using hsc
        rw [decide_eq_false hgtR] at this; exact this
      have HB : Hid (Below W.heap.size W wr) := hbw
      clear HI hbw hLr hsc h2w
      go_wp2_with fail
      go_ret2
      exact ⟨n, (by rw [← HS.out]; first | done | rfl), by omega, by rw [← HS.out], HB.out⟩
end Go.Proofs.YtmjhfabdbajchaaGreatDoor
set_option linter.unusedVariables false
set_option linter.unusedSimpArgs false
namespace Go.Proofs.YtmjhfabdbajchaaGreatDoor
open Go.RowKit

/-- The document's printer at block g, its page at gp. -/
structure P9 (S : Nat → Prop) (W : World) (g gp N : Nat) (s : S9) (vw : Value) : Prop where
  blk : W.heap[g]? = some (.cells #[.pointer (some ⟨gp, 0, none⟩), vw, .int .i64 (s.dp : Nat), .bool s.cl] 71 (0, 0))
  row : RW S W vw s.wt
  pg : Qg S W gp N s.pr
  sg : S g
theorem P9.below {S : Nat → Prop} {W W' : World} {g gp N : Nat} {s : S9} {vw : Value} (h : P9 S W g gp N s vw) (hb : Below W.heap.size W W') : P9 S W' g gp N s vw := ⟨blk_below h.blk hb, h.row.below hb, h.pg.below hb, h.sg⟩
theorem Qg.cells {S : Nat → Prop} {W : World} {g N : Nat} {p : Pr} (h : Qg S W g N p) : W.cell? ⟨g, 3, none⟩ = some (.bool p.sk.fresh) := by
  obtain ⟨vo, vb, sm, em, h⟩ := h
  exact h.cells.2.2.2.1
theorem Qg.blk {S : Nat → Prop} {W : World} {g N : Nat} {p : Pr} (h : Qg S W g N p) : ∃ cs, W.heap[g]? = some (.cells cs 92 (0, 0)) := by
  obtain ⟨vo, vb, sm, em, h⟩ := h
  exact ⟨_, h.blk⟩
theorem OwS.sub {S T : Nat → Prop} {W : World} {e sz n : Nat} {v : Value} {xs : List Value} (h : OwS S W e sz v n xs) (hT : ∀ k cs, S k → W.heap[k]? = some (.cells cs e (0, 0)) → T k) : OwS T W e sz v n xs := by
  refine ⟨h.1, fun k hk => ?_⟩
  rcases h.1.2 with ⟨rfl, _⟩ | ⟨q, cap, cur, rfl, _, h3, _⟩
  · cases hk
  · simp only [Value.ownBlock, Option.some.injEq] at hk
    subst hk
    exact hT _ _ (h.2 _ rfl) h3
/-- A page's own blocks are of three types. -/
theorem Qg.sub {S T : Nat → Prop} {W : World} {g N : Nat} {p : Pr} (h : Qg S W g N p) (hT : ∀ k cs t, S k → W.heap[k]? = some (.cells cs t (0, 0)) → t = 92 ∨ t = 5 ∨ t = 89 → T k) : Qg T W g N p := by
  obtain ⟨vo, vb, sm, em, h⟩ := h
  exact ⟨vo, vb, sm, em, h.blk, OwS.sub h.out (fun k cs a b => hT k cs _ a b (.inr (.inl rfl))), OwS.sub h.pbs (fun k cs a b => hT k cs _ a b (.inr (.inr rfl))), h.en, h.som, h.wt, hT _ _ _ h.gB h.blk (.inl rfl)⟩
theorem OwS.kp {S T : Nat → Prop} {W W' : World} {e sz n : Nat} {v : Value} {xs : List Value} (h : OwS S W e sz v n xs) (hk : Kp T W W') (hT : ∀ k cs, W.heap[k]? = some (.cells cs e (0, 0)) → ¬ T k) : OwS S W' e sz v n xs := by
  refine ⟨⟨h.1.1, ?_⟩, h.2⟩
  rcases h.1.2 with h1 | ⟨q, cap, cur, rfl, h2, h3, h4⟩
  · exact .inl h1
  · exact .inr ⟨q, cap, cur, rfl, h2, hk.blk h3 (hT _ _ h3), h4⟩
theorem Qg.kp {S T : Nat → Prop} {W W' : World} {g N : Nat} {p : Pr} (h : Qg S W g N p) (hk : Kp T W W') (hT : ∀ k cs t, W.heap[k]? = some (.cells cs t (0, 0)) → t = 92 ∨ t = 5 ∨ t = 89 → ¬ T k) : Qg S W' g N p := by
  obtain ⟨vo, vb, sm, em, h⟩ := h
  exact ⟨vo, vb, sm, em, hk.blk h.blk (hT _ _ _ h.blk (.inl rfl)), OwS.kp h.out hk (fun k cs b => hT k cs _ b (.inr (.inl rfl))), OwS.kp h.pbs hk (fun k cs b => hT k cs _ b (.inr (.inr rfl))), h.en, h.som, h.wt, h.gB⟩
theorem Qg.one {S : Nat → Prop} {W W' : World} {g q N : Nat} {p : Pr} {cs : Array Value} {t : TypeId} {f : Nat × Nat} (h : Qg S W g N p) (hk : Kp (fun k => k = q) W W') (hq : W.heap[q]? = some (.cells cs t f)) (ht : t ≠ 92 ∧ t ≠ 5 ∧ t ≠ 89) : Qg S W' g N p :=
  h.kp hk (fun k cs' t' hb h3 e => by
    subst e
    rw [hq] at hb
    simp only [Option.some.injEq, Obj.cells.injEq] at hb
    obtain ⟨_, rfl, _⟩ := hb
    rcases h3 with e | e | e
    · exact ht.1 e
    · exact ht.2.1 e
    · exact ht.2.2 e)
theorem put_min {N : Nat} (hN : N ≤ 4096) (d : Dc) (a : Nat) (p : Pr) : put N d (min a 4097) p = put N d a p := by
  have e : p.fits N (min a 4097) = p.fits N a := by unfold Pr.fits; rw [decide_eq_decide]; omega
  exact put_same ⟨fun _ => e, fun _ => .inr (.inr e)⟩
theorem sur_beg {N : Nat} {p : Pr} {d : Dc} {r : List Dc} (h : d.k = 6) : sur N p (d :: r) = scB ((N : Int) - (p.at : Nat)) 0 0 (d :: r) := by
  simp only [sur, if_pos h]
  rw [scB_cons]
  have e : dn d.k 0 = 1 := by unfold dn; rw [if_pos h]
  rw [e, pw_0 (.inl h)]
  simp

set_option maxHeartbeats 2000000 in
set_option maxRecDepth 100000 in
theorem sure_any {S : Nat → Prop} {g gp N : Nat} {W : World} {s : S9} {vw : Value} (h : P9 S W g gp N s vw) (hN : N ≤ 4096) (hl : s.pr.at ≤ 1000000000) (ha : s.pr.ar.length ≤ 100000000) (hw : s.wt.length ≤ 100000000) (hrt : ∀ d ∈ s.wt, rt d = true) (hne : s.wt ≠ []) :
    Calls Tryz.prog 38 #[.pointer (some ⟨g, 0, none⟩)] W fun e w' => AnsB W (sur N s.pr s.wt) e w' := by
  obtain ⟨ao, cap, rfl, hc1, hc2⟩ := h.row.shape
  obtain ⟨d, r, hdr⟩ : ∃ d r, s.wt = d :: r := by
    cases hh : s.wt with
    | nil => exact absurd hh hne
    | cons d r => exact ⟨d, r, rfl⟩
  have hsz : ∀ d ∈ s.wt, d.t.size ≤ 9223372036854775807 := fun d hd => by have := rt_sq (hrt d hd); omega
  have hd0 : s.wt[0]? = some d := by rw [hdr]; rfl
  have hrd := hrt d (List.mem_of_getElem? hd0)
  obtain ⟨l, hle⟩ : ∃ l, s.wt = l := ⟨_, rfl⟩
  obtain ⟨R, hRe⟩ : ∃ R : Int, (N : Int) - (s.pr.at : Nat) = R := ⟨_, rfl⟩
  have hR : R ≤ 4096 := by omega
  have HV : Hid (∀ V, Below W.heap.size W V → V.cell? ⟨g, 0, none⟩ = some (.pointer (some ⟨gp, 0, none⟩)) ∧ V.cell? ⟨g, 1, none⟩ = some (.slice ao l.length cap) ∧ Lay V ao l ∧ V.cell? ⟨gp, 3, none⟩ = some (.bool s.pr.sk.fresh) ∧ Qg S V gp N s.pr) := by
    intro V hV
    have hv := h.below hV
    rw [← hle]
    exact ⟨blk_cell hv.blk rfl, blk_cell hv.blk rfl, hv.row.lay hsz, hv.pg.cells, hv.pg⟩
  have H76 : Hid (∀ V, Below W.heap.size W V → Calls Tryz.prog 108 #[.pointer (some ⟨gp, 0, none⟩)] V fun e w' => e = .returned (.int .i64 R) ∧ Below V.heap.size V w') := fun V hV => by
    rw [← hRe]; exact room_qg (HV.out V hV).2.2.2.2 hN hl
  have H61 : Hid (∀ V, Below W.heap.size W V → Calls Tryz.prog 69 #[.pointer (some ⟨gp, 0, none⟩)] V fun e w' => e = .returned (.agg #[.int .i64 (s.pr.bl.ind : Int), .bool s.pr.bl.ev, .bool s.pr.bl.ft]) ∧ Below V.heap.size V w') := fun V hV => pblock_qg (HV.out V hV).2.2.2.2 ha
  have hwl : l.length ≤ 100000000 := by rw [← hle]; exact hw
  have hrl : ∀ d ∈ l, rt d = true := by rw [← hle]; exact hrt
  have hl0 : l[0]? = some d := by rw [← hle]; exact hd0
  have up : ∀ {V : World} {T : Nat × Bool} {e : Ending} {w' : World}, Below W.heap.size W V → AnsB V T e w' → AnsB W T e w' := by
    rintro V T e w' hV ⟨x, a1, a2, a3, a4⟩
    exact ⟨x, a1, a2, a3, hV.trans (a4.mono hV.size)⟩
  have H60 : Hid (d.k = 6 → ∀ V, Below W.heap.size W V → Calls Tryz.prog 68 #[.pointer (some ⟨g, 0, none⟩)] V fun e w' => AnsB W (sur N s.pr s.wt) e w') := fun h6 V hV => by
    obtain ⟨v0, v1, v2, _⟩ := HV.out V hV
    refine (block_any v0 v1 v2 hrl hR hwl (fun x hx => by rw [hl0] at hx; cases hx; exact h6) (H76.out V hV)).mono ?_
    intro e w' ha
    rw [hdr, sur_beg h6, hRe, ← hdr, hle]
    exact up hV ha
  have H62 : Hid (d.k = 3 → (s.pr.sk.fresh || s.pr.bl.ev || s.pr.bl.ft) = false → ∀ V, Below W.heap.size W V → Calls Tryz.prog 70 #[.pointer (some ⟨g, 0, none⟩)] V fun e w' => AnsB W (sur N s.pr s.wt) e w') := fun h3 hb V hV => by
    obtain ⟨v0, v1, v2, _⟩ := HV.out V hV
    have hbb : 0 ≤ d.b ∧ d.b ≤ 1000 := by
      cases rt_of hrd with
      | brk m hq => exact rtN_of hq
      | _ => simp at h3
    refine (hangs_any v0 v1 v2 hrl hR hwl hl0 hbb (H76.out V hV)).mono ?_
    intro e w' ha
    have e1 : sur N s.pr s.wt = scH R d.b.toNat 0 (l.drop 1) := by
      have h6 : ¬ d.k = 6 := by omega
      rw [hdr]
      simp only [sur, if_neg h6, if_pos h3, hb, Bool.false_eq_true, if_false]
      rw [hRe, ← hle, hdr]; rfl
    rw [e1]
    exact up hV ha
  have HT : Hid (∀ w', Below W.heap.size W w' → (d.k ≠ 6 ∧ d.k ≠ 3) ∨ (d.k = 3 ∧ (s.pr.sk.fresh || s.pr.bl.ev || s.pr.bl.ft) = true) → AnsB W (sur N s.pr s.wt) (.returned (.tuple #[.int .i64 0, .bool true])) w') := by
    intro w' hb hc
    have e1 : sur N s.pr s.wt = (0, true) := by
      rw [hdr]
      rcases hc with ⟨h6, h3⟩ | ⟨h3, hb⟩
      · simp only [sur, if_neg h6, if_neg h3]
      · have h6 : ¬ d.k = 6 := by omega
        simp only [sur, if_neg h6, if_pos h3, hb, if_true]
    rw [e1]
    exact ⟨0, rfl, by omega, rfl, hb⟩
  obtain ⟨c0, c1, cL, c3, _⟩ := HV.out W (Below.refl _ _)
  obtain ⟨_, b, off, rfl, e0, e1, e2, e3, e4⟩ := cL 0 d hl0
  simp only [Nat.zero_mul, Nat.add_zero] at e0 e1 e2 e3 e4
  have q0 : (0 : Int) < l.length := by have := (List.getElem?_eq_some_iff.1 hl0).1; omega
  have HBA : Hid (∀ o, Below W.heap.size W (W.alloc o)) := fun o => (Below.refl _ _).alloc (Nat.le_refl _) _
  have dg0 : ∀ o, (W.alloc o).cell? ⟨g, 0, none⟩ = some (.pointer (some ⟨gp, 0, none⟩)) := fun o => (HV.out _ (HBA.out o)).1
  obtain ⟨A, hA⟩ : ∃ A, sur N s.pr s.wt = A := ⟨_, rfl⟩
  rw [hA] at H60 H62 HT ⊢
  generalize s.pr.sk.fresh = fr at *
  generalize s.pr.bl.ind = bi at *
  generalize s.pr.bl.ev = be at *
  generalize s.pr.bl.ft = bf at *
  clear h hc1 hc2 hdr hsz hd0 hrd hle hRe hrl hl0 cL hA hrt up H76 hl ha hw hne
  obtain ⟨dk, dt, db, di, de⟩ := d
  simp only at e0 e1 e2 e3 e4 H60 H62 HT
  by_cases h6 : dk = 6
  · subst h6
    have K60 := H60.out rfl
    have HK : Hid (∀ V, Below W.heap.size W V → Calls Tryz.prog 68 #[.pointer (some ⟨g, 0, none⟩)] V fun e w' => AnsB W A e w') := K60
    clear K60 H60 H62 HT H61 HV
    go_enter Tryz.func38, Tryz.ntmps38
    go_wp2_with (go_at_call 68; refine (HK.out _ (HBA.out _)).mono ?_; rintro e w2 ⟨x, rfl, hx1, hx2, hx3⟩; have HX : Hid (x ≤ 1099511627776 ∧ min x 4097 = min A.1 4097 ∧ Below W.heap.size W w2) := ⟨hx1, hx2, hx3⟩; clear hx1 hx2 hx3)
    go_ret2
    exact ⟨x, rfl, HX.out⟩
  by_cases h3 : dk = 3
  · subst h3
    have HP : Hid (∀ o V, Below (W.alloc o).heap.size (W.alloc o) V → Below W.heap.size W V ∧ V.cell? ⟨g, 0, none⟩ = some (.pointer (some ⟨gp, 0, none⟩)) ∧ V.cell? ⟨gp, 3, none⟩ = some (.bool fr)) := fun o V hV => by
      have hb : Below W.heap.size W V := (HBA.out o).trans (hV.mono (HBA.out o).size)
      exact ⟨hb, (HV.out V hb).1, (HV.out V hb).2.2.2.1⟩
    by_cases hc : (fr || be || bf) = true
    · have HK : Hid (∀ w', Below W.heap.size W w' → AnsB W A (.returned (.tuple #[.int .i64 0, .bool true])) w') := fun w' hb => HT.out w' hb (.inr ⟨rfl, hc⟩)
      clear H60 H62 HT HV
      cases fr <;> cases be <;> cases bf <;> first | (exact absurd hc (by decide)) | skip
      all_goals
        clear hc
        go_enter Tryz.func38, Tryz.ntmps38
        go_wp2_with (go_at_call 69; refine (H61.out _ (HBA.out _)).mono ?_; rintro e w2 ⟨rfl, hb2⟩; obtain ⟨y0, y1, y2⟩ := HP.out _ _ hb2; have dz0 : ∀ o, (w2.alloc o).cell? ⟨g, 0, none⟩ = some (.pointer (some ⟨gp, 0, none⟩)) := (fun o => (HP.out _ _ (hb2.alloc hb2.size o)).2.1); have dz3 : ∀ o, (w2.alloc o).cell? ⟨gp, 3, none⟩ = some (.bool _) := (fun o => (HP.out _ _ (hb2.alloc hb2.size o)).2.2); clear hb2 y1 y2)
        go_ret2
        exact HK.out _ (by first | exact y0.alloc y0.size _ | exact y0)
    · have hc' : (fr || be || bf) = false := by simpa using hc
      have HK : Hid (∀ V, Below W.heap.size W V → Calls Tryz.prog 70 #[.pointer (some ⟨g, 0, none⟩)] V fun e w' => AnsB W A e w') := H62.out rfl hc'
      clear H60 H62 HT HV
      cases fr <;> cases be <;> cases bf <;> first | (exact absurd hc' (by decide)) | skip
      clear hc hc'
      go_enter Tryz.func38, Tryz.ntmps38
      go_wp2_with (first | (go_at_call 69; refine (H61.out _ (HBA.out _)).mono ?_; rintro e w2 ⟨rfl, hb2⟩; obtain ⟨y0, y1, y2⟩ := HP.out _ _ hb2; have dz0 : ∀ o, (w2.alloc o).cell? ⟨g, 0, none⟩ = some (.pointer (some ⟨gp, 0, none⟩)) := (fun o => (HP.out _ _ (hb2.alloc hb2.size o)).2.1); have dz3 : ∀ o, (w2.alloc o).cell? ⟨gp, 3, none⟩ = some (.bool false) := (fun o => (HP.out _ _ (hb2.alloc hb2.size o)).2.2); clear hb2 y1 y2) | (go_at_call 70; refine (HK.out _ (y0.alloc y0.size _)).mono ?_; rintro e w3 ⟨x, rfl, hx1, hx2, hx3⟩; have HX : Hid (x ≤ 1099511627776 ∧ min x 4097 = min A.1 4097 ∧ Below W.heap.size W w3) := ⟨hx1, hx2, hx3⟩; clear hx1 hx2 hx3))
      go_ret2
      exact ⟨x, rfl, HX.out⟩
  · have k6 : (dk == 6) = false := by simpa using h6
    have k3 : (dk == 3) = false := by simpa using h3
    have HK : Hid (AnsB W A (.returned (.tuple #[.int .i64 0, .bool true])) (W.alloc (.cells #[.int .u8 dk, .string dt, .int .i64 db, .int .i64 di, .bool de] 37))) := HT.out _ (HBA.out _) (.inl ⟨h6, h3⟩)
    clear H60 H62 HT HV H61
    go_enter Tryz.func38, Tryz.ntmps38
    go_wp2_with fail
    go_ret2
    exact HK.out
end Go.Proofs.YtmjhfabdbajchaaGreatDoor
set_option linter.unusedVariables false
set_option linter.unusedSimpArgs false
namespace Go.Proofs.YtmjhfabdbajchaaGreatDoor
open Go.RowKit

/-- What of S is a page's. -/
def PT (S : Nat → Prop) (V : World) : Nat → Prop := fun k => S k ∧ ∀ cs t f, V.heap[k]? = some (.cells cs t f) → t = 92 ∨ t = 5 ∨ t = 89
theorem PT.nw {S : Nat → Prop} {V : World} (h : Nw S V.heap.size) : Nw (PT S V) V.heap.size := fun k hk => ⟨h k hk, fun cs t f e => by
  have := (Array.getElem?_eq_some_iff.1 e).1; omega⟩
theorem PT.no {S : Nat → Prop} {V : World} {k : Nat} {cs : Array Value} {t : TypeId} {f : Nat × Nat} (h : V.heap[k]? = some (.cells cs t f)) (ht : t ≠ 92 ∧ t ≠ 5 ∧ t ≠ 89) : ¬ PT S V k := by
  rintro ⟨_, h2⟩
  rcases h2 cs t f h with e | e | e
  · exact ht.1 e
  · exact ht.2.1 e
  · exact ht.2.2 e
theorem Qg.pt {S : Nat → Prop} {V : World} {g N : Nat} {p : Pr} (h : Qg S V g N p) : Qg (PT S V) V g N p :=
  h.sub (fun k cs t hs hb h3 => ⟨hs, fun cs' t' f' hb' => by
    rw [hb] at hb'
    simp only [Option.some.injEq, Obj.cells.injEq] at hb'
    obtain ⟨_, rfl, _⟩ := hb'
    exact h3⟩)
/-- The page prints; the rest of the printer stands. -/
theorem prn9_any {S : Nat → Prop} {g gp N U : Nat} {V : World} {s : S9} {vw : Value} (h : P9 S V g gp N s vw) (hB : Nw S V.heap.size) (hN : N ≤ 4096) (hp : Bp s.pr U) (hU : U ≤ 268435456) (ha : s.pr.ar.length ≤ 100000000) (d : Dc) (hd : rt d = true) (h7 : d.k = 7 → s.pr.ar ≠ []) (wide : Int) (need : Nat)
    (hw : d.k = 3 ∨ d.k = 6 → ∃ m : Nat, wide = (m : Int) ∧ m ≤ 1099511627776 ∧ need = min m 4097) :
    Calls Tryz.prog 71 #[.pointer (some ⟨gp, 0, none⟩), .agg #[.int .u8 d.k, .string d.t, .int .i64 d.b, .int .i64 d.i, .bool d.e], .int .i64 wide] V fun e w' => e = .returned (.tuple #[]) ∧ P9 S w' g gp N ⟨put N d need s.pr, s.wt, s.dp, s.cl⟩ vw ∧ Kp S V w' ∧ ∀ (k : Nat) (cs : Array Value), V.heap[k]? = some (.cells cs 37 (0, 0)) → w'.heap[k]? = some (.cells cs 37 (0, 0)) := by
  refine (qrn_any h.pg.pt (PT.nw hB) hN hp hU ha d hd h7 wide need hw).mono ?_
  rintro e w' ⟨rfl, h1, h2⟩
  refine ⟨rfl, ⟨h2.blk h.blk (PT.no h.blk (by decide)), h.row.kp h2 (fun b cur hb => PT.no hb (by decide)), h1.sub (fun k cs t hk _ _ => hk.1), h.sg⟩, h2.sub (fun k hk => hk.1), fun k cs hk => h2.blk hk (PT.no hk (by decide))⟩

set_option maxHeartbeats 2000000 in
set_option maxRecDepth 100000 in
theorem one_any {S : Nat → Prop} {g gp N U : Nat} {W : World} {s : S9} {vw : Value} (h : P9 S W g gp N s vw) (hB : Nw S W.heap.size) (hN : N ≤ 4096) (hp : Bp s.pr U) (hU : U ≤ 268435456) (ha : s.pr.ar.length ≤ 100000000) (hwl : s.wt.length ≤ 100000000) (d : Dc) (r : List Dc) (hdr : s.wt = d :: r) (hrt : ∀ d ∈ s.wt, rt d = true) (h7 : d.k = 7 → s.pr.ar ≠ []) (wide : Int) (need : Nat)
    (hw : d.k = 3 ∨ d.k = 6 → ∃ m : Nat, wide = (m : Int) ∧ m ≤ 1099511627776 ∧ need = min m 4097) :
    Calls Tryz.prog 39 #[.pointer (some ⟨g, 0, none⟩), .int .i64 wide] W fun e w' => e = .returned (.tuple #[]) ∧ (∃ vw', P9 S w' g gp N ⟨put N d need s.pr, r, s.dp, s.cl⟩ vw') ∧ Kp S W w' := by
  obtain ⟨ao, cap, rfl, hc1, hc2⟩ := h.row.shape
  have hsz : ∀ d ∈ s.wt, d.t.size ≤ 9223372036854775807 := fun d hd => by have := rt_sq (hrt d hd); omega
  have hd0 : s.wt[0]? = some d := by rw [hdr]; rfl
  have hrd := hrt d (List.mem_of_getElem? hd0)
  have hlen : s.wt.length = r.length + 1 := by rw [hdr]; rfl
  obtain ⟨W1, hW1⟩ : ∃ W1, W.alloc (.cells #[.int .u8 d.k, .string d.t, .int .i64 d.b, .int .i64 d.i, .bool d.e] 37) = W1 := ⟨_, rfl⟩
  have hb1 : Below W.heap.size W W1 := by rw [← hW1]; exact (Below.refl _ _).alloc (Nat.le_refl _) _
  have hx1 : W1.heap[W.heap.size]? = some (.cells #[.int .u8 d.k, .string d.t, .int .i64 d.b, .int .i64 d.i, .bool d.e] 37 (0, 0)) := by rw [← hW1]; exact new_at _ _
  have h1 := h.below hb1
  have hro := h1.row
  rw [hdr] at hro
  obtain ⟨b, off, cap2, off2, rfl, rfl, hn2, hc3, hcase, hro2⟩ := hro.tail
  have hgl := blk_lt h.blk
  have hgne : W.heap.size ≠ g := by omega
  obtain ⟨v2, hv2⟩ : ∃ v2 : Value, v2 = .slice (some ⟨b, off2, none⟩) r.length cap2 := ⟨_, rfl⟩
  have hk := Kp.set W1 g 1 v2
  have hP2 : P9 S (W1.setCell ⟨g, 1, none⟩ v2) g gp N ⟨s.pr, r, s.dp, s.cl⟩ v2 := ⟨blk_set h1.blk 1 v2, (by rw [hv2] at hk ⊢; exact hro2.apart hk h1.blk (by decide)), h1.pg.one hk h1.blk (by decide), h.sg⟩
  have hx2 : (W1.setCell ⟨g, 1, none⟩ v2).heap[W.heap.size]? = some (.cells #[.int .u8 d.k, .string d.t, .int .i64 d.b, .int .i64 d.i, .bool d.e] 37 (0, 0)) := blk_other hx1 hgne _
  have hKW : Kp S W (W1.setCell ⟨g, 1, none⟩ v2) := (Kp.of_below hb1).trans (hk.one h.sg)
  obtain ⟨c0, c1⟩ : W.cell? ⟨g, 0, none⟩ = some (.pointer (some ⟨gp, 0, none⟩)) ∧ W.cell? ⟨g, 1, none⟩ = some (.slice (some ⟨b, off, none⟩) (r.length + 1) (cap2 + 1)) := ⟨blk_cell h.blk rfl, by rw [← hlen]; exact blk_cell h.blk rfl⟩
  have cL := h.row.lay hsz
  obtain ⟨_, b', off', eb, e0, e1, e2, e3, e4⟩ := cL 0 d hd0
  simp only [Option.some.injEq, Addr.mk.injEq, and_true] at eb
  obtain ⟨rfl, rfl⟩ := eb
  simp only [Nat.zero_mul, Nat.add_zero] at e0 e1 e2 e3 e4
  have d1 : W1.cell? ⟨g, 1, none⟩ = some (.slice (some ⟨b, off, none⟩) (r.length + 1) (cap2 + 1)) := (hb1.cell (World.block_lt_of_cell? _ _ c1)).trans c1
  have f1 : W1.frozen? ⟨g, 1, none⟩ = false := blk_frozen h1.blk
  have dg1 : ∀ o, (W.alloc o).cell? ⟨g, 1, none⟩ = some (.slice (some ⟨b, off, none⟩) (r.length + 1) (cap2 + 1)) := fun o => (((Below.refl _ W).alloc (Nat.le_refl _) o).cell (World.block_lt_of_cell? _ _ c1)).trans c1
  have df1 : ∀ o, (W.alloc o).frozen? ⟨g, 1, none⟩ = false := fun o => blk_frozen (blk_below h.blk ((Below.refl _ W).alloc (Nat.le_refl _) o))
  obtain ⟨W2, hW2⟩ : ∃ W2, W1.setCell ⟨g, 1, none⟩ v2 = W2 := ⟨_, rfl⟩
  rw [hW2] at hP2 hx2 hKW
  have HW1 : Hid (W.alloc (.cells #[.int .u8 d.k, .string d.t, .int .i64 d.b, .int .i64 d.i, .bool d.e] 37) = W1) := hW1
  have HW2 : Hid (W1.setCell ⟨g, 1, none⟩ (.slice (some ⟨b, off2, none⟩) r.length cap2) = W2) := by show _ = _; rw [← hv2]; exact hW2
  have hB2 : Nw S W2.heap.size := hB.up hKW.size
  have HPR : Hid (∀ V, Below W2.heap.size W2 V → Calls Tryz.prog 71 #[.pointer (some ⟨gp, 0, none⟩), .agg #[.int .u8 d.k, .string d.t, .int .i64 d.b, .int .i64 d.i, .bool d.e], .int .i64 wide] V fun e w' => e = .returned (.tuple #[]) ∧ Hid ((∃ vw', P9 S w' g gp N ⟨put N d need s.pr, r, s.dp, s.cl⟩ vw') ∧ Kp S W w') ∧ (w'.cell? ⟨g, 0, none⟩ = some (.pointer (some ⟨gp, 0, none⟩)) ∧ w'.cell? ⟨W.heap.size, 0, none⟩ = some (.int .u8 d.k) ∧ w'.cell? ⟨W.heap.size, 1, none⟩ = some (.string d.t) ∧ w'.cell? ⟨W.heap.size, 2, none⟩ = some (.int .i64 d.b) ∧ w'.cell? ⟨W.heap.size, 3, none⟩ = some (.int .i64 d.i) ∧ w'.cell? ⟨W.heap.size, 4, none⟩ = some (.bool d.e))) := fun V hV => by
    refine (prn9_any (hP2.below hV) (hB2.up hV.size) hN hp hU ha d hrd h7 wide need hw).mono ?_
    rintro e w' ⟨rfl, a1, a2, a3⟩
    have a4 := a3 _ _ (blk_below hx2 hV)
    exact ⟨rfl, ⟨⟨_, a1⟩, (hKW.trans (Kp.of_below hV)).trans a2⟩, blk_cell a1.blk rfl, blk_cell a4 rfl, blk_cell a4 rfl, blk_cell a4 rfl, blk_cell a4 rfl, blk_cell a4 rfl⟩
  have g0 : W2.cell? ⟨g, 0, none⟩ = some (.pointer (some ⟨gp, 0, none⟩)) := blk_cell hP2.blk rfl
  have x0 := blk_cell (k := 0) hx2 rfl
  have x1 := blk_cell (k := 1) hx2 rfl
  have x2 := blk_cell (k := 2) hx2 rfl
  have x3 := blk_cell (k := 3) hx2 rfl
  have x4 := blk_cell (k := 4) hx2 rfl
  have q0 : (0 : Int) < (r.length : Int) + 1 := by omega
  have q1 : (1 : Int) ≤ (r.length : Int) + 1 := by omega
  have q2 : ((r.length : Int) + 1) ≤ (cap2 : Int) + 1 := by omega
  clear hW1 hW2 hv2 hk hP2 hx1 hx2 h h1 hb1 hro hro2 hc1 hc2 hsz hd0 hrd hdr hlen hKW cL hrt h7 hw hB hB2 hp hgl hgne
  obtain ⟨dk, dt, db, di, de⟩ := d
  simp only at e0 e1 e2 e3 e4 x0 x1 x2 x3 x4 HPR HW1
  generalize s.pr = pr at *
  clear d1 f1 hn2
  rcases hcase with ⟨hcz, rfl⟩ | ⟨hcz, rfl⟩
  · subst hcz
    obtain rfl : r = [] := List.eq_nil_of_length_eq_zero (by omega)
    simp only [List.length_nil, Nat.zero_add] at c1 dg1 HW2 q0 q1 q2
    go_enter Tryz.func39, Tryz.ntmps39
    go_wp2_with fail
    rw [HW1.out, HW2.out]
    go_region_held3 (fun w' => w'.cell? ⟨g, 0, none⟩ = some (.pointer (some ⟨gp, 0, none⟩)) ∧ w'.cell? ⟨W.heap.size, 0, none⟩ = some (.int .u8 dk) ∧ w'.cell? ⟨W.heap.size, 1, none⟩ = some (.string dt) ∧ w'.cell? ⟨W.heap.size, 2, none⟩ = some (.int .i64 db) ∧ w'.cell? ⟨W.heap.size, 3, none⟩ = some (.int .i64 di) ∧ w'.cell? ⟨W.heap.size, 4, none⟩ = some (.bool de)) (first | assumption | (exact ⟨g0, x0, x1, x2, x3, x4⟩) | go_keep) (first | (go_at_call 71; refine (HPR.out _ (by first | exact (Below.refl _ _).drew | exact Below.refl _ _)).mono ?_; rintro e w4 ⟨rfl, HE4, HS4⟩))
    all_goals (
      go_wp2_with fail
      go_end0
      exact ⟨rfl, HE4.out⟩)
  · go_enter Tryz.func39, Tryz.ntmps39
    go_wp2_with fail
    rw [HW1.out, HW2.out]
    go_region_held3 (fun w' => w'.cell? ⟨g, 0, none⟩ = some (.pointer (some ⟨gp, 0, none⟩)) ∧ w'.cell? ⟨W.heap.size, 0, none⟩ = some (.int .u8 dk) ∧ w'.cell? ⟨W.heap.size, 1, none⟩ = some (.string dt) ∧ w'.cell? ⟨W.heap.size, 2, none⟩ = some (.int .i64 db) ∧ w'.cell? ⟨W.heap.size, 3, none⟩ = some (.int .i64 di) ∧ w'.cell? ⟨W.heap.size, 4, none⟩ = some (.bool de)) (first | assumption | (exact ⟨g0, x0, x1, x2, x3, x4⟩) | go_keep) (first | (go_at_call 71; refine (HPR.out _ (by first | exact (Below.refl _ _).drew | exact Below.refl _ _)).mono ?_; rintro e w4 ⟨rfl, HE4, HS4⟩))
    all_goals (
      go_wp2_with fail
      go_end0
      exact ⟨rfl, HE4.out⟩)
end Go.Proofs.YtmjhfabdbajchaaGreatDoor
set_option linter.unusedVariables false
set_option linter.unusedSimpArgs false
namespace Go.Proofs.YtmjhfabdbajchaaGreatDoor
open Go.RowKit

/-- What stands behind k bytes of a row, as a text. -/
theorem conv_off (w : World) (S : Nat → Prop) (q n cap : Nat) (l : List UInt8) (hv : BrS S w (.slice (some ⟨q, 0, none⟩) n cap) l) (k : Nat) (hk : k ≤ l.length) :
    (convert 46 9 (.slice (some ⟨q, k, none⟩) (l.length - k) (cap - k))).run Tryz.prog w = .ok (.string ⟨(l.drop k).toArray⟩) w := by
  rw [run_convert_bytes_string (P := Tryz.prog) w 46 9 5 _ _ _ Tryz.underlying46 Tryz.underlying5 Tryz.underlying9]
  have hc : ∀ j u, (bc (l.drop k))[j]? = some u → w.cell? ((⟨q, k, none⟩ : Addr).add j) = some u := by
    intro j u hu
    rw [← bc_drop, List.getElem?_drop] at hu
    rw [Addr.add_lit]
    have hj := (List.getElem?_eq_some_iff.1 hu).1
    rw [bc_len] at hj
    rcases hv.1.2 with ⟨e, _⟩ | ⟨q', cap', cur, e, _⟩
    · cases e
    · simp only [Value.slice.injEq, Option.some.injEq, Addr.mk.injEq, and_true] at e
      obtain ⟨rfl, rfl, rfl⟩ := e
      rw [World.ownsRow.cellAt hv.1 (k + j) (by omega)]; exact hu
  have hload := run_loadCells_list (P := Tryz.prog) w ⟨q, k, none⟩ (bc (l.drop k)) hc
  rw [bc_len, List.length_drop] at hload
  rw [run_bytesToString (P := Tryz.prog) w ⟨q, k, none⟩ (l.length - k) (cap - k) ((l.drop k).map (fun b : UInt8 => (b.toNat : Int))) (by rw [hload]; simp [bc, List.map_map, Function.comp_def]), push_bytes]
  rfl
theorem conv_zero (w : World) (ao : Option Addr) (c : Nat) : (convert 46 9 (.slice ao 0 c)).run Tryz.prog w = .ok (.string ⟨#[]⟩) w := by
  rw [run_convert_bytes_string (P := Tryz.prog) w 46 9 5 _ _ _ Tryz.underlying46 Tryz.underlying5 Tryz.underlying9]
  cases ao with
  | none => rfl
  | some a =>
    have hload := run_loadCells_list (P := Tryz.prog) w a [] (fun j u h => by simp at h)
    rw [run_bytesToString (P := Tryz.prog) w a 0 c [] (by simpa using hload)]
    rfl
/-- How much a printer may still print. -/
def Bud (s : S9) (T C : Nat) : Prop := ∃ U, Bp s.pr U ∧ U + uds s.wt ≤ T ∧ opd (s.pr.ar.length : Int) s.wt = some (s.dp : Int) ∧ s.pr.ar.length + s.wt.length ≤ C
theorem opd_rt : ∀ (l : List Dc) (o o' : Int), opd o l = some o' → ∀ d ∈ l, rt d = true
  | [], o, o', h => by simp
  | d :: r, o, o', h => by
    simp only [opd] at h
    split at h
    · rename_i hc
      intro x hx
      rcases List.mem_cons.1 hx with rfl | hx
      · exact hc.1
      · exact opd_rt r _ _ h x hx
    · cases h
theorem Bud.rt {s : S9} {T C : Nat} (h : Bud s T C) : ∀ d ∈ s.wt, Go.Proofs.YtmjhfabdbajchaaGreatDoor.rt d = true := by
  obtain ⟨_, _, _, h, _⟩ := h
  exact opd_rt _ _ _ h
theorem Bud.step {p : Pr} {d : Dc} {r : List Dc} {dp : Nat} {cl : Bool} {T C : Nat} (N need : Nat) (h : Bud ⟨p, d :: r, dp, cl⟩ T C) : (d.k = 7 → p.ar ≠ []) ∧ (∃ U, Bp p U ∧ U ≤ T) ∧ p.ar.length ≤ C ∧ (d :: r).length ≤ C ∧ Bud ⟨put N d need p, r, dp, cl⟩ T C := by
  obtain ⟨U, h1, h2, h3, h4⟩ := h
  simp only at h1 h2 h3 h4
  have e : uds (d :: r) = ud d + uds r := by simp [uds]
  rw [e] at h2
  rw [List.length_cons] at h4
  simp only [opd] at h3
  split at h3
  · rename_i hc
    have hd := put_deep (n := N) (need := need) hc.1 (p := p) rfl hc.2
    refine ⟨fun h7 hn => ?_, ⟨U, h1, by omega⟩, by omega, by rw [List.length_cons]; omega, U + ud d, put_bd hc.1 h1, by show U + ud d + uds r ≤ T; omega, ?_, ?_⟩
    · have := hc.2
      rw [hn, h7] at this
      exact absurd this (by decide)
    · show opd (((put N d need p).ar.length : Nat) : Int) r = some (dp : Int)
      rw [hd]; exact h3
    · show (put N d need p).ar.length + r.length ≤ _
      have : dep d.k ≤ 1 := by unfold dep; split; omega; split <;> omega
      omega
  · cases h3
def waitLen (g : Nat) (w : World) : Nat := match w.cell? ⟨g, 1, none⟩ with | some (.slice _ n _) => n | _ => 0
theorem P9.wl {S : Nat → Prop} {W : World} {g gp N : Nat} {s : S9} {vw : Value} (h : P9 S W g gp N s vw) : waitLen g W = s.wt.length := by
  obtain ⟨ao, cap, rfl, _⟩ := h.row.shape
  unfold waitLen
  rw [show W.cell? ⟨g, 1, none⟩ = some (.slice ao s.wt.length cap) from blk_cell h.blk rfl]
theorem Qg.outr {S : Nat → Prop} {W : World} {g N : Nat} {p : Pr} (h : Qg S W g N p) : ∃ vo, W.cell? ⟨g, 1, none⟩ = some vo ∧ BrS S W vo p.sk.out := by
  obtain ⟨vo, vb, sm, em, h⟩ := h
  exact ⟨vo, h.cells.2.1, h.out⟩
/-- The page's row, and what it is behind k bytes. -/
theorem Qg.told {S : Nat → Prop} {W : World} {g N : Nat} {p : Pr} (h : Qg S W g N p) (k : Nat) (hk : k ≤ p.sk.out.length) :
    (W.cell? ⟨g, 1, none⟩ = some (.slice none 0 0) ∧ k = 0 ∧ p.sk.out = []) ∨
    (∃ q c, W.cell? ⟨g, 1, none⟩ = some (.slice (some ⟨q, 0, none⟩) p.sk.out.length c) ∧ p.sk.out.length ≤ c ∧ c ≤ 9223372036854775807 ∧ ((c = k ∧ p.sk.out.length = k) ∨ (c ≠ k ∧ (convert 46 9 (.slice (some ⟨q, k, none⟩) (p.sk.out.length - k) (c - k))).run Tryz.prog W = .ok (.string ⟨(p.sk.out.drop k).toArray⟩) W))) := by
  obtain ⟨vo, hc, hr⟩ := h.outr
  rcases hr.1.2 with ⟨rfl, h0⟩ | ⟨q, c, cur, rfl, _, h3, h4, h5, _⟩
  · exact .inl ⟨hc, by omega, List.eq_nil_of_length_eq_zero h0⟩
  · refine .inr ⟨q, c, hc, h4, h5, ?_⟩
    by_cases e : c = k
    · exact .inl ⟨e, by omega⟩
    · exact .inr ⟨e, conv_off W S q _ c _ hr k hk⟩

set_option maxHeartbeats 4000000 in
set_option maxRecDepth 100000 in
theorem prints_any {S : Nat → Prop} {g gp N T C : Nat} {W : World} {s : S9} {vw : Value} (h : P9 S W g gp N s vw) (hB : Nw S W.heap.size) (hN : N ≤ 4096) (hb : Bud s T C) (hT : T ≤ 268435456) (hC : C ≤ 100000000) :
    Calls Tryz.prog 40 #[.pointer (some ⟨g, 0, none⟩)] W fun e w' => e = .returned (.string ⟨((drn N s.pr s.wt).1.sk.out.drop s.pr.sk.out.length).toArray⟩) ∧ (∃ vw', P9 S w' g gp N ⟨(drn N s.pr s.wt).1, (drn N s.pr s.wt).2, s.dp, s.cl⟩ vw') ∧ Kp S W w' := by
  obtain ⟨D, hD⟩ : ∃ D, drn N s.pr s.wt = D := ⟨_, rfl⟩
  have hpre : s.pr.sk.out.length ≤ D.1.sk.out.length := by rw [← hD]; exact (drn_out N s.wt s.pr).length_le
  rw [hD]
  obtain ⟨k0, hk0⟩ : ∃ k0, s.pr.sk.out.length = k0 := ⟨_, rfl⟩
  rw [hk0] at hpre ⊢
  obtain ⟨TT, hTT⟩ : ∃ TT : ByteArray, (⟨(D.1.sk.out.drop k0).toArray⟩ : ByteArray) = TT := ⟨_, rfl⟩
  rw [hTT]
  have HTT : Hid ((⟨(D.1.sk.out.drop k0).toArray⟩ : ByteArray) = TT) := hTT
  clear hTT
  have HI0 : Hid ((∃ vw', P9 S W g gp N ⟨s.pr, s.wt, s.dp, s.cl⟩ vw') ∧ drn N s.pr s.wt = D ∧ Bud ⟨s.pr, s.wt, s.dp, s.cl⟩ T C ∧ Kp S W W) := ⟨⟨vw, h⟩, hD, hb, Kp.refl _ _⟩
  have HPRE : Hid (k0 ≤ D.1.sk.out.length) := hpre
  have g0 : W.cell? ⟨g, 0, none⟩ = some (.pointer (some ⟨gp, 0, none⟩)) := blk_cell h.blk rfl
  obtain ⟨vo, c1, hro⟩ := h.pg.outr
  obtain ⟨po, co, rfl, _, _⟩ := hro.shape
  rw [hk0] at c1
  obtain ⟨dp, hdp⟩ : ∃ dp, s.dp = dp := ⟨_, rfl⟩
  obtain ⟨cl, hcl⟩ : ∃ cl, s.cl = cl := ⟨_, rfl⟩
  rw [hdp, hcl] at HI0 ⊢
  generalize s.pr = p0 at *
  generalize s.wt = v0 at *
  have HB : Hid (Nw S W.heap.size) := hB
  clear h hb hro hD hk0 hpre hB
  go_enter Tryz.func40, Tryz.ntmps40
  go_wp2_with fail
  go_loopw [4, 5] (fun _ _ wr => ∃ (p : Pr) (v : List Dc), Hid ((∃ vw', P9 S wr g gp N ⟨p, v, dp, cl⟩ vw') ∧ drn N p v = D ∧ Bud ⟨p, v, dp, cl⟩ T C ∧ Kp S W wr)) (fun _ _ wr => waitLen g wr)
  case atStart => exact ⟨p0, v0, HI0.out⟩
  case round =>
    obtain ⟨p, v, HI⟩ := hrel
    obtain ⟨⟨vw2, hP⟩, hdr, hbu, hkp⟩ := HI.out
    have e0 : wr.cell? ⟨g, 0, none⟩ = some (.pointer (some ⟨gp, 0, none⟩)) := blk_cell hP.blk rfl
    have hwl := hP.wl
    cases v with
    | nil =>
      obtain ⟨ao, cap, rfl, _, _⟩ := hP.row.shape
      have e1 : wr.cell? ⟨g, 1, none⟩ = some (.slice ao 0 cap) := blk_cell hP.blk rfl
      have hde : D = (p, []) := hdr.symm
      have HD : Hid (D = (p, [])) := hde
      have hkle : k0 ≤ p.sk.out.length := by have := HPRE.out; rw [hde] at this; exact this
      have HQ := hP.pg.told k0 hkle
      have HE : Hid ((∃ vw', P9 S wr g gp N ⟨D.1, D.2, dp, cl⟩ vw') ∧ Kp S W wr) := by rw [hde]; exact ⟨⟨_, hP⟩, hkp⟩
      clear HI hP hdr hbu hkp hde hwl
      try simp only at HQ
      rcases HQ with ⟨y1, rfl, hoe⟩ | ⟨q, c, y1, hc1, hc2, ⟨rfl, hoe⟩ | ⟨hne, hcv⟩⟩
      · have hcv := conv_zero wr none 0
        have HO : Hid (TT = ⟨#[]⟩) := by show _ = _; rw [← HTT.out, HD.out, hoe]; rfl
        clear hoe hkle
        go_wp2_with fail
        go_ret
        exact ⟨(by rw [HO.out]; first | done | rfl), HE.out⟩
      · have hcv := conv_zero wr (some ⟨q, 0, none⟩) 0
        have HO : Hid (TT = ⟨#[]⟩) := by show _ = _; rw [← HTT.out, HD.out]; show (⟨(p.sk.out.drop _).toArray⟩ : ByteArray) = _; rw [List.drop_eq_nil_of_le (by omega)]
        rw [hoe] at y1
        clear hoe hc1 hkle
        go_wp2_with fail
        go_ret
        exact ⟨(by rw [HO.out]; first | done | rfl), HE.out⟩
      · have HO : Hid ((⟨(p.sk.out.drop k0).toArray⟩ : ByteArray) = TT) := by show _ = _; rw [← HTT.out, HD.out]
        rw [HO.out] at hcv
        have z1 : (k0 : Int) ≤ p.sk.out.length := by omega
        have z2 : ((p.sk.out.length : Nat) : Int) ≤ c := by omega
        have z3 : ¬ c - k0 = 0 := by omega
        have z4 : ¬ (c : Int) - k0 = 0 := by omega
        clear HO
        generalize p.sk.out.length = ol at *
        clear hc1 hkle
        go_wp2_with fail
        go_ret
        exact ⟨rfl, HE.out⟩
    | cons d r =>
      obtain ⟨ao, cap, rfl, hc1, _⟩ := hP.row.shape
      have e1 : wr.cell? ⟨g, 1, none⟩ = some (.slice ao (r.length + 1) cap) := blk_cell hP.blk rfl
      have q1 : (0 : Int) < (r.length : Int) + 1 := by omega
      have hrt := hbu.rt
      obtain ⟨h7, ⟨U, hU1, hU2⟩, hal, hvl, _⟩ := hbu.step N 0
      have HSU := sure_any hP hN (by have := hU1.col; unfold Pr.at; show p.sk.col + p.sk.wait ≤ _; omega) (Nat.le_trans hal hC) (Nat.le_trans hvl hC) hrt (by simp)
      obtain ⟨A, hA⟩ : ∃ A, sur N p (d :: r) = A := ⟨_, rfl⟩
      have HSU2 : Hid (Calls Tryz.prog 38 #[.pointer (some ⟨g, 0, none⟩)] wr fun e w' => AnsB wr A e w') := by rw [← hA]; exact HSU
      obtain ⟨a1, a2⟩ := A
      by_cases ht : a2 = true
      · subst ht
        have hdn : drn N (put N d a1 p) r = D := by
          rw [drn, hA, if_pos rfl] at hdr; exact hdr
        have HON : Hid (∀ x V, x ≤ 1099511627776 → min x 4097 = min a1 4097 → Below wr.heap.size wr V → Calls Tryz.prog 39 #[.pointer (some ⟨g, 0, none⟩), .int .i64 ((x : Nat) : Int)] V fun e w' => e = .returned (.tuple #[]) ∧ Hid (((∃ vw', P9 S w' g gp N ⟨put N d a1 p, r, dp, cl⟩ vw') ∧ drn N (put N d a1 p) r = D ∧ Bud ⟨put N d a1 p, r, dp, cl⟩ T C ∧ Kp S W w') ∧ waitLen g w' < waitLen g wr)) := by
          intro x V hx1 hx2 hV
          refine (one_any (hP.below hV) (HB.out.up (Nat.le_trans hkp.size hV.size)) hN hU1 (by omega) (Nat.le_trans hal hC) (Nat.le_trans hvl hC) d r rfl hrt h7 (x : Int) (min x 4097) (fun _ => ⟨x, rfl, hx1, rfl⟩)).mono ?_
          rintro e w' ⟨rfl, ⟨vw', b1⟩, b2⟩
          have ep : put N d (min x 4097) p = put N d a1 p := by rw [hx2]; exact put_min hN d a1 p
          have b1' : P9 S w' g gp N ⟨put N d a1 p, r, dp, cl⟩ vw' := by rw [← ep]; exact b1
          exact ⟨rfl, ⟨⟨_, b1'⟩, hdn, (hbu.step N a1).2.2.2.2, (hkp.trans (Kp.of_below hV)).trans b2⟩, by rw [b1'.wl, hwl]; simp⟩
        clear HI hP hdr hbu hkp hwl hrt h7 hU1 HSU hA hdn hal hvl
        go_wp2_with (first | (go_at_call 38; refine HSU2.out.mono ?_; rintro e w2 ⟨x, rfl, hx1, hx2, hx3⟩; have HX : Hid (x ≤ 1099511627776 ∧ min x 4097 = min a1 4097 ∧ Below wr.heap.size wr w2) := ⟨hx1, hx2, hx3⟩; clear hx1 hx2 hx3) | (go_at_call 39; refine (HON.out x _ HX.out.1 HX.out.2.1 HX.out.2.2).mono ?_; rintro e w3 ⟨rfl, HE3⟩))
        exact ⟨⟨_, _, HE3.out.1⟩, HE3.out.2⟩
      · have hf : a2 = false := by simpa using ht
        subst hf
        have hde : D = (p, d :: r) := by
          rw [drn, hA, if_neg (by simp)] at hdr; exact hdr.symm
        have HD : Hid (D = (p, d :: r)) := hde
        have HV : Hid (∀ V, Below wr.heap.size wr V → (V.cell? ⟨g, 0, none⟩ = some (.pointer (some ⟨gp, 0, none⟩)) ∧ Qg S V gp N p) ∧ Hid ((∃ vw', P9 S V g gp N ⟨D.1, D.2, dp, cl⟩ vw') ∧ Kp S W V)) := by
          intro V hV
          have hv := hP.below hV
          exact ⟨⟨blk_cell hv.blk rfl, hv.pg⟩, by rw [hde]; exact ⟨⟨_, hv⟩, hkp.trans (Kp.of_below hV)⟩⟩
        clear HI hP hdr hbu hkp hwl hrt h7 hU1 HSU hA hal hvl hde
        go_wp2_with fail
        refine HSU2.out.mono ?_
        rintro e w2 ⟨x, rfl, hx1, hx2, hx3⟩
        obtain ⟨⟨y0, hq⟩, HE⟩ := HV.out _ hx3
        have hkle : k0 ≤ p.sk.out.length := by have := HPRE.out; rw [HD.out] at this; exact this
        have HQ := hq.told k0 hkle
        clear hx1 hx2 hx3 hq HV HSU2
        try simp only at HQ
        rcases HQ with ⟨y1, rfl, hoe⟩ | ⟨q, c, y1, hc1, hc2, ⟨rfl, hoe⟩ | ⟨hne, hcv⟩⟩
        · have hcv := conv_zero w2 none 0
          have HO : Hid (TT = ⟨#[]⟩) := by show _ = _; rw [← HTT.out, HD.out, hoe]; rfl
          clear hoe hkle
          go_wp2_with fail
          go_ret
          exact ⟨(by rw [HO.out]; first | done | rfl), HE.out⟩
        · have hcv := conv_zero w2 (some ⟨q, 0, none⟩) 0
          have HO : Hid (TT = ⟨#[]⟩) := by show _ = _; rw [← HTT.out, HD.out]; show (⟨(p.sk.out.drop _).toArray⟩ : ByteArray) = _; rw [List.drop_eq_nil_of_le (by omega)]
          rw [hoe] at y1
          clear hoe hc1 hkle
          go_wp2_with fail
          go_ret
          exact ⟨(by rw [HO.out]; first | done | rfl), HE.out⟩
        · have HO : Hid ((⟨(p.sk.out.drop k0).toArray⟩ : ByteArray) = TT) := by show _ = _; rw [← HTT.out, HD.out]
          rw [HO.out] at hcv
          have z1 : (k0 : Int) ≤ p.sk.out.length := by omega
          have z2 : ((p.sk.out.length : Nat) : Int) ≤ c := by omega
          have z3 : ¬ c - k0 = 0 := by omega
          have z4 : ¬ (c : Int) - k0 = 0 := by omega
          clear HO
          generalize p.sk.out.length = ol at *
          clear hc1 hkle
          go_wp2_with fail
          go_ret
          exact ⟨rfl, HE.out⟩
end Go.Proofs.YtmjhfabdbajchaaGreatDoor
set_option linter.unusedVariables false
set_option linter.unusedSimpArgs false
namespace Go.Proofs.YtmjhfabdbajchaaGreatDoor
open Go.RowKit

theorem Bud.drn (N : Nat) {dp T C : Nat} {cl : Bool} : ∀ (v : List Dc) (p : Pr), Bud ⟨p, v, dp, cl⟩ T C → Bud ⟨(Go.Proofs.YtmjhfabdbajchaaGreatDoor.drn N p v).1, (Go.Proofs.YtmjhfabdbajchaaGreatDoor.drn N p v).2, dp, cl⟩ T C
  | [], p, h => h
  | d :: r, p, h => by
    rw [Go.Proofs.YtmjhfabdbajchaaGreatDoor.drn]
    split
    · exact Bud.drn N r _ (h.step N _).2.2.2.2
    · exact h
theorem uds_app (a b : List Dc) : uds (a ++ b) = uds a + uds b := by simp [uds]
theorem Bud.push {s : S9} {T C : Nat} (h : Bud s T C) {d : Dc} (hd : Go.Proofs.YtmjhfabdbajchaaGreatDoor.rt d = true ∧ ¬ (d.k = 7 ∧ s.dp = 0)) (cl : Bool) : Bud ⟨s.pr, s.wt ++ [d], dn d.k s.dp, cl⟩ (T + ud d) (C + 1) := by
  obtain ⟨U, h1, h2, h3, h4⟩ := h
  refine ⟨U, h1, ?_, ?_, ?_⟩
  · show U + uds (s.wt ++ [d]) ≤ _
    rw [uds_app]
    have : uds [d] = ud d := by simp [uds]
    omega
  · show opd (s.pr.ar.length : Int) (s.wt ++ [d]) = some (((dn d.k s.dp : Nat)) : Int)
    rw [opd_app _ _ _ _ h3, opd_cons, if_pos hd]
    rfl
  · show s.pr.ar.length + (s.wt ++ [d]).length ≤ _
    rw [List.length_append, List.length_singleton]; omega
theorem Bud.put {N : Nat} {s : S9} {T C : Nat} (h : Bud s T C) (d : Dc) : Bud (s.put N d).1 (T + ud d) (C + 1) := by
  have up : Bud s (T + ud d) (C + 1) := by
    obtain ⟨U, h1, h2, h3, h4⟩ := h
    exact ⟨U, h1, by omega, h3, by omega⟩
  unfold S9.put
  split
  · exact up
  · split
    · rename_i hd
      exact Bud.drn N _ _ (h.push hd false)
    · exact up
theorem told_self (s : S9) : s.told s = [] := by unfold S9.told; rw [List.drop_length]

set_option maxHeartbeats 4000000 in
set_option maxRecDepth 100000 in
theorem rclose_any {S : Nat → Prop} {g gp N T C : Nat} {W : World} {s : S9} {vw : Value} (h : P9 S W g gp N s vw) (hB : Nw S W.heap.size) (hN : N ≤ 4096) (hb : Bud s T C) (hT : T ≤ 268435456) (hC : C ≤ 100000000) :
    Calls Tryz.prog 22 #[.pointer (some ⟨g, 0, none⟩)] W fun e w' => e = .returned (.tuple #[.string ⟨(s.told (s.close N).1).toArray⟩, .int .i64 (s.close N).2]) ∧ (∃ vw', P9 S w' g gp N (s.close N).1 vw') ∧ Kp S W w' := by
  have g3 : W.cell? ⟨g, 3, none⟩ = some (.bool s.cl) := blk_cell h.blk rfl
  have g2 : W.cell? ⟨g, 2, none⟩ = some (.int .i64 (s.dp : Nat)) := blk_cell h.blk rfl
  have f3 : W.frozen? ⟨g, 3, none⟩ = false := blk_frozen h.blk
  by_cases hcl : s.cl = true
  · have e : s.close N = (s, 4) := by unfold S9.close; rw [if_pos hcl]
    rw [e]
    simp only [told_self]
    have HE : Hid ((∃ vw', P9 S W g gp N s vw') ∧ Kp S W W) := ⟨⟨vw, h⟩, Kp.refl _ _⟩
    rw [hcl] at g3
    clear h e hb hcl
    go_enter Tryz.func22, Tryz.ntmps22
    go_wp2_with fail
    go_ret2
    exact ⟨rfl, HE.out⟩
  have hcf : s.cl = false := by simpa using hcl
  rw [hcf] at g3
  by_cases hdp : 0 < s.dp
  · have e : s.close N = (s, 70) := by unfold S9.close; rw [if_neg hcl, if_pos hdp]
    rw [e]
    simp only [told_self]
    have HE : Hid ((∃ vw', P9 S W g gp N s vw') ∧ Kp S W W) := ⟨⟨vw, h⟩, Kp.refl _ _⟩
    have q1 : (0 : Int) < (s.dp : Nat) := by omega
    clear h e hb hcl hcf
    generalize s.dp = dp at *
    go_enter Tryz.func22, Tryz.ntmps22
    go_wp2_with fail
    go_ret2
    exact ⟨rfl, HE.out⟩
  have e : s.close N = (⟨cls N s.pr s.wt, [], s.dp, true⟩, 0) := by unfold S9.close; rw [if_neg hcl, if_neg hdp]
  have hd0 : s.dp = 0 := by omega
  have q1 : ¬ ((0 : Int) < (s.dp : Nat)) := by omega
  rw [e]
  obtain ⟨Q, hQ⟩ : ∃ Q, cls N s.pr s.wt = Q := ⟨_, rfl⟩
  have hpre : s.pr.sk.out.length ≤ Q.sk.out.length := by rw [← hQ]; exact (cls_out N s.wt s.pr).length_le
  obtain ⟨k0, hk0⟩ : ∃ k0, s.pr.sk.out.length = k0 := ⟨_, rfl⟩
  obtain ⟨TT, hTT⟩ : ∃ TT : ByteArray, (⟨(Q.sk.out.drop k0).toArray⟩ : ByteArray) = TT := ⟨_, rfl⟩
  have etold : (⟨(s.told ⟨cls N s.pr s.wt, [], s.dp, true⟩).toArray⟩ : ByteArray) = TT := by
    unfold S9.told
    rw [hk0, hQ, hTT]
  simp only [etold]
  rw [hQ]
  rw [hk0] at hpre
  have HTT : Hid ((⟨(Q.sk.out.drop k0).toArray⟩ : ByteArray) = TT) := hTT
  clear hTT etold
  obtain ⟨W1, hW1⟩ : ∃ W1, W.setCell ⟨g, 3, none⟩ (.bool true) = W1 := ⟨_, rfl⟩
  have hk := Kp.set W g 3 (.bool true)
  rw [hW1] at hk
  have hP1 : P9 S W1 g gp N ⟨s.pr, s.wt, s.dp, true⟩ vw := ⟨by rw [← hW1]; exact blk_set h.blk 3 _, h.row.apart hk h.blk (by decide), h.pg.one hk h.blk (by decide), h.sg⟩
  have HI0 : Hid ((∃ vw', P9 S W1 g gp N ⟨s.pr, s.wt, s.dp, true⟩ vw') ∧ cls N s.pr s.wt = Q ∧ Bud ⟨s.pr, s.wt, s.dp, true⟩ T C ∧ Kp S W W1) := ⟨⟨vw, hP1⟩, hQ, hb, hk.one h.sg⟩
  have HPRE : Hid (k0 ≤ Q.sk.out.length) := hpre
  have g0 : W1.cell? ⟨g, 0, none⟩ = some (.pointer (some ⟨gp, 0, none⟩)) := blk_cell hP1.blk rfl
  obtain ⟨vo, c1, hro⟩ := hP1.pg.outr
  obtain ⟨po, co, rfl, _, _⟩ := hro.shape
  simp only at c1
  rw [hk0] at c1
  have HB : Hid (Nw S W.heap.size) := hB
  have HW1 : Hid (W.setCell ⟨g, 3, none⟩ (.bool true) = W1) := hW1
  clear h hP1 hb hro hQ hk0 hpre hB hk hW1 e hcl hcf hdp hd0
  obtain ⟨dp, hdp⟩ : ∃ dp, s.dp = dp := ⟨_, rfl⟩
  rw [hdp] at HI0 q1 g2 ⊢
  generalize s.pr = p0 at *
  generalize s.wt = v0 at *
  go_enter Tryz.func22, Tryz.ntmps22
  go_upto_region 6 with fail
  rw [HW1.out]
  go_wp2_with fail
  go_loopw [5, 6] (fun _ _ wr => ∃ (p : Pr) (v : List Dc), Hid ((∃ vw', P9 S wr g gp N ⟨p, v, dp, true⟩ vw') ∧ cls N p v = Q ∧ Bud ⟨p, v, dp, true⟩ T C ∧ Kp S W wr)) (fun _ _ wr => waitLen g wr)
  case atStart => exact ⟨p0, v0, HI0.out⟩
  case round =>
    obtain ⟨p, v, HI⟩ := hrel
    obtain ⟨⟨vw2, hP⟩, hdr, hbu, hkp⟩ := HI.out
    have e0 : wr.cell? ⟨g, 0, none⟩ = some (.pointer (some ⟨gp, 0, none⟩)) := blk_cell hP.blk rfl
    have hwl := hP.wl
    cases v with
    | nil =>
      obtain ⟨ao, cap, rfl, _, _⟩ := hP.row.shape
      have e1 : wr.cell? ⟨g, 1, none⟩ = some (.slice ao 0 cap) := blk_cell hP.blk rfl
      have hde : Q = p := hdr.symm
      have HD : Hid (Q = p) := hde
      have hkle : k0 ≤ p.sk.out.length := by have := HPRE.out; rw [hde] at this; exact this
      have HQ := hP.pg.told k0 hkle
      have HE : Hid ((∃ vw', P9 S wr g gp N ⟨Q, [], dp, true⟩ vw') ∧ Kp S W wr) := by rw [hde]; exact ⟨⟨_, hP⟩, hkp⟩
      clear HI hP hdr hbu hkp hde hwl
      try simp only at HQ
      rcases HQ with ⟨y1, rfl, hoe⟩ | ⟨q, c, y1, hc1, hc2, ⟨rfl, hoe⟩ | ⟨hne, hcv⟩⟩
      · have hcv := conv_zero wr none 0
        have HO : Hid (TT = ⟨#[]⟩) := by show _ = _; rw [← HTT.out, HD.out, hoe]; rfl
        clear hoe hkle
        go_wp2_with fail
        go_ret2
        exact ⟨(by rw [HO.out]; first | done | rfl), HE.out⟩
      · have hcv := conv_zero wr (some ⟨q, 0, none⟩) 0
        have HO : Hid (TT = ⟨#[]⟩) := by show _ = _; rw [← HTT.out, HD.out]; show (⟨(p.sk.out.drop _).toArray⟩ : ByteArray) = _; rw [List.drop_eq_nil_of_le (by omega)]
        rw [hoe] at y1
        clear hoe hc1 hkle
        go_wp2_with fail
        go_ret2
        exact ⟨(by rw [HO.out]; first | done | rfl), HE.out⟩
      · have HO : Hid ((⟨(p.sk.out.drop k0).toArray⟩ : ByteArray) = TT) := by show _ = _; rw [← HTT.out, HD.out]
        rw [HO.out] at hcv
        have z1 : (k0 : Int) ≤ p.sk.out.length := by omega
        have z2 : ((p.sk.out.length : Nat) : Int) ≤ c := by omega
        have z3 : ¬ c - k0 = 0 := by omega
        have z4 : ¬ (c : Int) - k0 = 0 := by omega
        clear HO
        generalize p.sk.out.length = ol at *
        clear hc1 hkle
        go_wp2_with fail
        go_ret2
        exact ⟨rfl, HE.out⟩
    | cons d r =>
      obtain ⟨ao, cap, rfl, hc1, _⟩ := hP.row.shape
      have e1 : wr.cell? ⟨g, 1, none⟩ = some (.slice ao (r.length + 1) cap) := blk_cell hP.blk rfl
      have q2 : (0 : Int) < (r.length : Int) + 1 := by omega
      have hrt := hbu.rt
      obtain ⟨h7, ⟨U, hU1, hU2⟩, hal, hvl, _⟩ := hbu.step N 0
      have HSU := sure_any hP hN (by have := hU1.col; unfold Pr.at; show p.sk.col + p.sk.wait ≤ _; omega) (Nat.le_trans hal hC) (Nat.le_trans hvl hC) hrt (by simp)
      obtain ⟨A, hA⟩ : ∃ A, sur N p (d :: r) = A := ⟨_, rfl⟩
      have HSU2 : Hid (Calls Tryz.prog 38 #[.pointer (some ⟨g, 0, none⟩)] wr fun e w' => AnsB wr A e w') := by rw [← hA]; exact HSU
      obtain ⟨a1, a2⟩ := A
      have hdn : cls N (put N d a1 p) r = Q := by
        rw [cls, hA] at hdr; exact hdr
      have HON : Hid (∀ x V, x ≤ 1099511627776 → min x 4097 = min a1 4097 → Below wr.heap.size wr V → Calls Tryz.prog 39 #[.pointer (some ⟨g, 0, none⟩), .int .i64 ((x : Nat) : Int)] V fun e w' => e = .returned (.tuple #[]) ∧ Hid (((∃ vw', P9 S w' g gp N ⟨put N d a1 p, r, dp, true⟩ vw') ∧ cls N (put N d a1 p) r = Q ∧ Bud ⟨put N d a1 p, r, dp, true⟩ T C ∧ Kp S W w') ∧ waitLen g w' < waitLen g wr)) := by
        intro x V hx1 hx2 hV
        refine (one_any (hP.below hV) (HB.out.up (Nat.le_trans hkp.size hV.size)) hN hU1 (by omega) (Nat.le_trans hal hC) (Nat.le_trans hvl hC) d r rfl hrt h7 (x : Int) (min x 4097) (fun _ => ⟨x, rfl, hx1, rfl⟩)).mono ?_
        rintro e w' ⟨rfl, ⟨vw', b1⟩, b2⟩
        have ep : put N d (min x 4097) p = put N d a1 p := by rw [hx2]; exact put_min hN d a1 p
        have b1' : P9 S w' g gp N ⟨put N d a1 p, r, dp, true⟩ vw' := by rw [← ep]; exact b1
        exact ⟨rfl, ⟨⟨_, b1'⟩, hdn, (hbu.step N a1).2.2.2.2, (hkp.trans (Kp.of_below hV)).trans b2⟩, by rw [b1'.wl, hwl]; simp⟩
      clear HI hP hdr hbu hkp hwl hrt h7 hU1 HSU hA hdn hal hvl
      go_wp2_with (first | (go_at_call 38; refine HSU2.out.mono ?_; rintro e w2 ⟨x, rfl, hx1, hx2, hx3⟩; have HX : Hid (x ≤ 1099511627776 ∧ min x 4097 = min a1 4097 ∧ Below wr.heap.size wr w2) := ⟨hx1, hx2, hx3⟩; clear hx1 hx2 hx3) | (go_at_call 39; refine (HON.out x _ HX.out.1 HX.out.2.1 HX.out.2.2).mono ?_; rintro e w3 ⟨rfl, HE3⟩))
      exact ⟨⟨_, _, HE3.out.1⟩, HE3.out.2⟩
end Go.Proofs.YtmjhfabdbajchaaGreatDoor
set_option linter.unusedVariables false
set_option linter.unusedSimpArgs false
namespace Go.Proofs.YtmjhfabdbajchaaGreatDoor
open Go.RowKit

theorem opd_le : ∀ (l : List Dc) (o o' : Int), opd o l = some o' → o' ≤ o + l.length
  | [], o, o', h => by simp only [opd, Option.some.injEq] at h; subst h; simp
  | d :: r, o, o', h => by
    simp only [opd] at h
    split at h
    · have := opd_le r _ _ h
      have e : dep d.k ≤ 1 := by unfold dep; split; omega; split <;> omega
      rw [List.length_cons]; omega
    · cases h
theorem Bud.dpb {s : S9} {T C : Nat} (h : Bud s T C) : s.dp ≤ C := by
  obtain ⟨_, _, _, h3, h4⟩ := h
  have := opd_le _ _ _ h3
  omega
theorem rheld_any {S : Nat → Prop} {g gp N : Nat} {W : World} {s : S9} {vw : Value} (h : P9 S W g gp N s vw) : Calls Tryz.prog 23 #[.pointer (some ⟨g, 0, none⟩)] W fun e w' => e = .returned (.int .i64 (s.wt.length : Nat)) ∧ w' = W := by
  obtain ⟨ao, cap, rfl, _, _⟩ := h.row.shape
  have c1 : W.cell? ⟨g, 1, none⟩ = some (.slice ao s.wt.length cap) := blk_cell h.blk rfl
  generalize s.wt.length = n at *
  clear h
  go_enter Tryz.func23, Tryz.ntmps23
  go_wp2_with fail
  go_ret
  exact ⟨rfl, rfl⟩
theorem rnew_bad (n : Int) (h : n < 1 ∨ 4096 < n) (W : World) : Calls Tryz.prog 11 #[.int .i64 n] W fun e w' => e = .returned (.tuple #[.pointer none, .int .i64 1]) ∧ w' = W := by
  by_cases h0 : n < 1
  · have q : decide (n < 1) = true := by simp; omega
    clear h
    go_enter Tryz.func11, Tryz.ntmps11
    go_wp2_with fail
    go_ret2
    exact ⟨rfl, rfl⟩
  · have h1 : 4096 < n := by omega
    clear h
    go_enter Tryz.func11, Tryz.ntmps11
    go_wp2_with fail
    go_ret2
    exact ⟨rfl, rfl⟩
theorem rnew_any (S : Nat → Prop) (n : Nat) (h1 : 1 ≤ n) (h2 : n ≤ 4096) (W : World) (hB : Nw S W.heap.size) : Calls Tryz.prog 11 #[.int .i64 (n : Int)] W fun e w' => ∃ g gp vw, e = .returned (.tuple #[.pointer (some ⟨g, 0, none⟩), .int .i64 0]) ∧ P9 S w' g gp n s90 vw ∧ Below W.heap.size W w' := by
  have q0 : ¬ ((n : Int) < 1) := by omega
  have q1 : ¬ ((4096 : Int) < n) := by omega
  have HN : Hid (Calls Tryz.prog 21 #[.int .i64 (n : Int)] W fun e w' => e = .returned (.pointer (some ⟨W.heap.size + 1, 0, none⟩)) ∧ Qg S w' (W.heap.size + 1) n pr0 ∧ Below W.heap.size W w') := qnew_any S n W hB
  have HB : Hid (Nw S W.heap.size) := hB
  clear hB
  go_enter Tryz.func11, Tryz.ntmps11
  go_wp2_with (go_at_call 21; refine HN.out.mono ?_; rintro e w1 ⟨rfl, hq, hb1⟩; have HQ : Hid (Qg S w1 (W.heap.size + 1) n pr0 ∧ Below W.heap.size W w1) := ⟨hq, hb1⟩; clear hq hb1)
  go_ret2
  refine ⟨w1.heap.size, W.heap.size + 1, .slice none 0 0, rfl, ⟨new_at _ _, .inl ⟨rfl, rfl⟩, HQ.out.1.below ((Below.refl _ _).alloc (Nat.le_refl _) _), HB.out _ HQ.out.2.size⟩, HQ.out.2.alloc HQ.out.2.size _⟩

set_option maxHeartbeats 4000000 in
set_option maxRecDepth 100000 in
theorem rput_any {S : Nat → Prop} {g gp N T C : Nat} {W : World} {s : S9} {vw : Value} (h : P9 S W g gp N s vw) (hB : Nw S W.heap.size) (hN : N ≤ 4096) (hb : Bud s T C) (d : Dc) (hds : d.t.size ≤ 9223372036854775807) (hT : T + ud d ≤ 268435456) (hC : C + 1 ≤ 100000000) :
    Calls Tryz.prog 24 #[.pointer (some ⟨g, 0, none⟩), .agg #[.int .u8 d.k, .string d.t, .int .i64 d.b, .int .i64 d.i, .bool d.e]] W fun e w' => e = .returned (.tuple #[.string ⟨(s.told (s.put N d).1).toArray⟩, .int .i64 (s.put N d).2]) ∧ (∃ vw', P9 S w' g gp N (s.put N d).1 vw') ∧ Kp S W w' := by
  have g3 : W.cell? ⟨g, 3, none⟩ = some (.bool s.cl) := blk_cell h.blk rfl
  have dg3 : ∀ o, (W.alloc o).cell? ⟨g, 3, none⟩ = some (.bool s.cl) := fun o => blk_cell (blk_below h.blk ((Below.refl _ W).alloc (Nat.le_refl _) o)) rfl
  have HUP : Hid (∀ V, Below W.heap.size W V → (∃ vw', P9 S V g gp N s vw') ∧ Kp S W V) := fun V hV => ⟨⟨vw, h.below hV⟩, Kp.of_below hV⟩
  have HAL : Hid (∀ o, Below W.heap.size W (W.alloc o)) := fun o => (Below.refl _ _).alloc (Nat.le_refl _) _
  by_cases hcl : s.cl = true
  · have e : s.put N d = (s, 4) := by unfold S9.put; rw [if_pos hcl]
    rw [e]
    simp only [told_self]
    rw [hcl] at dg3
    clear h e hb hcl g3
    obtain ⟨dk, dt, db, di, de⟩ := d
    go_enter Tryz.func24, Tryz.ntmps24
    go_wp2_with fail
    go_ret2
    exact ⟨rfl, HUP.out _ (HAL.out _)⟩
  have hcf : s.cl = false := by simpa using hcl
  rw [hcf] at dg3
  have HR : Hid (∀ V, Calls Tryz.prog 25 #[.agg #[.int .u8 d.k, .string d.t, .int .i64 d.b, .int .i64 d.i, .bool d.e]] V fun e w' => e = .returned (.bool (rt d)) ∧ Below V.heap.size V w') := fun V => rright_any d hds V
  obtain ⟨ao, cap, rfl, hca1, hca2⟩ := h.row.shape
  have HW1 : Hid (∀ V, Below (W.alloc (.cells #[.int .u8 d.k, .string d.t, .int .i64 d.b, .int .i64 d.i, .bool d.e] 37)).heap.size (W.alloc (.cells #[.int .u8 d.k, .string d.t, .int .i64 d.b, .int .i64 d.i, .bool d.e] 37)) V → Hid (P9 S V g gp N s (.slice ao s.wt.length cap) ∧ V.heap[W.heap.size]? = some (.cells #[.int .u8 d.k, .string d.t, .int .i64 d.b, .int .i64 d.i, .bool d.e] 37 (0, 0)) ∧ Kp S W V) ∧ V.cell? ⟨W.heap.size, 0, none⟩ = some (.int .u8 d.k) ∧ V.cell? ⟨W.heap.size, 1, none⟩ = some (.string d.t) ∧ V.cell? ⟨W.heap.size, 2, none⟩ = some (.int .i64 d.b) ∧ V.cell? ⟨W.heap.size, 3, none⟩ = some (.int .i64 d.i) ∧ V.cell? ⟨W.heap.size, 4, none⟩ = some (.bool d.e) ∧ V.cell? ⟨g, 1, none⟩ = some (.slice ao s.wt.length cap) ∧ V.cell? ⟨g, 2, none⟩ = some (.int .i64 (s.dp : Nat)) ∧ V.frozen? ⟨g, 1, none⟩ = false ∧ V.frozen? ⟨g, 2, none⟩ = false) := by
    intro V hV
    have hbV : Below W.heap.size W V := (HAL.out _).trans (hV.mono (HAL.out _).size)
    have hv := h.below hbV
    have hx := blk_below (new_at W (.cells #[.int .u8 d.k, .string d.t, .int .i64 d.b, .int .i64 d.i, .bool d.e] 37)) hV
    exact ⟨⟨hv, hx, Kp.of_below hbV⟩, blk_cell hx rfl, blk_cell hx rfl, blk_cell hx rfl, blk_cell hx rfl, blk_cell hx rfl, blk_cell hv.blk rfl, blk_cell hv.blk rfl, blk_frozen hv.blk, blk_frozen hv.blk⟩
  by_cases hok : rt d = true ∧ ¬ (d.k = 7 ∧ s.dp = 0)
  · have e : s.put N d = (⟨(drn N s.pr (s.wt ++ [d])).1, (drn N s.pr (s.wt ++ [d])).2, dn d.k s.dp, false⟩, 0) := by unfold S9.put; rw [if_neg hcl, if_pos hok]
    rw [e]
    have hdb : s.dp ≤ 100000000 := by have := hb.dpb; omega
    have hdl : s.wt.length ≤ 100000000 := by obtain ⟨_, _, _, _, hh⟩ := hb; omega
    have HBU : Hid (Bud ⟨s.pr, s.wt ++ [d], dn d.k s.dp, false⟩ (T + ud d) (C + 1)) := hb.push hok false
    obtain ⟨D, hD⟩ : ∃ D, drn N s.pr (s.wt ++ [d]) = D := ⟨_, rfl⟩
    obtain ⟨TT, hTT⟩ : ∃ TT : ByteArray, (⟨(D.1.sk.out.drop s.pr.sk.out.length).toArray⟩ : ByteArray) = TT := ⟨_, rfl⟩
    have etold : (⟨(s.told ⟨(drn N s.pr (s.wt ++ [d])).1, (drn N s.pr (s.wt ++ [d])).2, dn d.k s.dp, false⟩).toArray⟩ : ByteArray) = TT := by
      unfold S9.told
      rw [hD, hTT]
    simp only [etold]
    rw [hD]
    have HDD : Hid (drn N s.pr (s.wt ++ [d]) = D ∧ (⟨(D.1.sk.out.drop s.pr.sk.out.length).toArray⟩ : ByteArray) = TT) := ⟨hD, hTT⟩
    have HB : Hid (Nw S W.heap.size) := hB
    rw [hok.1] at HR
    have hk7 := hok.2
    have hTu : T + ud d ≤ 268435456 := hT
    obtain ⟨ut, hut⟩ : ∃ ut, T + ud d = ut := ⟨_, rfl⟩
    rw [hut] at hTu HBU
    have HCL : Hid (s.cl = false) := hcf
    clear h e hb hcl g3 hD hTT etold hok hB hT hut
    obtain ⟨p0, v0, dp, cl⟩ := s
    obtain rfl : cl = false := HCL.out
    simp only at HW1 HBU HDD hk7 hdl hdb HUP dg3 hca1 hca2 ⊢
    obtain ⟨dk, dt, db, di, de⟩ := d
    simp only at HR HW1 HBU HDD hk7 hds ⊢
    by_cases h6 : dk = 6
    · subst h6
      have e6 : dn 6 dp = dp + 1 := rfl
      rw [e6] at HBU ⊢
      go_enter Tryz.func24, Tryz.ntmps24
      go_upto_region 9 with (first | (go_at_call 25; refine (HR.out _).mono ?_; rintro e w1 ⟨rfl, hb1⟩; obtain ⟨HP1, x0, x1, x2, x3, x4, g1, g2, f1, f2⟩ := HW1.out _ hb1; clear hb1))
      obtain ⟨X, hX⟩ : ∃ X, w1.setCell ⟨g, 2, none⟩ (.int .i64 ((dp : Int) + 1)) = X := ⟨_, rfl⟩
      rw [hX]
      have HPX : Hid (P9 S X g gp N ⟨p0, v0, (dp + 1), false⟩ (.slice ao v0.length cap) ∧ X.heap[W.heap.size]? = some (.cells #[.int .u8 6, .string dt, .int .i64 db, .int .i64 di, .bool de] 37 (0, 0)) ∧ Kp S W X) := by
        rw [← hX]
        have hks := Kp.set w1 g 2 (.int .i64 ((dp : Int) + 1))
        exact ⟨⟨blk_set HP1.out.1.blk 2 _, HP1.out.1.row.apart hks HP1.out.1.blk (by decide), HP1.out.1.pg.one hks HP1.out.1.blk (by decide), HP1.out.1.sg⟩, blk_other HP1.out.2.1 (by have := blk_lt HP1.out.1.blk; have := World.block_lt_of_cell? _ _ g2; intro e; rw [e] at x0; have := blk_cell (k := 0) HP1.out.1.blk rfl; rw [x0] at this; cases this) _, HP1.out.2.2.trans (hks.one HP1.out.1.sg)⟩
      clear hX HP1 x0 x1 x2 x3 x4 g1 g2 f1 f2
      have c1 : X.cell? ⟨g, 1, none⟩ = some (.slice ao v0.length cap) := blk_cell HPX.out.1.blk rfl
      have y0 := blk_cell (k := 0) HPX.out.2.1 rfl
      have y1 := blk_cell (k := 1) HPX.out.2.1 rfl
      have y2 := blk_cell (k := 2) HPX.out.2.1 rfl
      have y3 := blk_cell (k := 3) HPX.out.2.1 rfl
      have y4 := blk_cell (k := 4) HPX.out.2.1 rfl
      have yf := World.block_lt_of_cell? _ _ c1
      have yb := World.block_lt_of_cell? _ _ y0
      have HRW : Hid (∀ V, Below X.heap.size X V → RW S V (.slice ao v0.length cap) v0 ∧ Nw S V.heap.size) := fun V hV => ⟨HPX.out.1.row.below hV, HB.out.up (Nat.le_trans HPX.out.2.2.size hV.size)⟩
      have HFIN : Hid (∀ V b off cap2 w4, Below X.heap.size X V → RW S w4 (.slice (some ⟨b, off, none⟩) (v0.length + 1) cap2) (v0 ++ [⟨6, dt, db, di, de⟩]) → Kp (fun k => S k ∧ ∃ cur, V.heap[k]? = some (.cells cur 37 (0, 0))) V w4 → Hid (Calls Tryz.prog 40 #[.pointer (some ⟨g, 0, none⟩)] (w4.setCell ⟨g, 1, none⟩ (.slice (some ⟨b, off, none⟩) (v0.length + 1) cap2)) fun e w' => e = .returned (.string TT) ∧ Hid ((∃ vw', P9 S w' g gp N ⟨D.1, D.2, (dp + 1), false⟩ vw') ∧ Kp S W w')) ∧ w4.cell? ⟨g, 1, none⟩ = some (.slice ao v0.length cap) ∧ w4.frozen? ⟨g, 1, none⟩ = false) := by
        intro V b off cap2 w4 hV hr hk
        have hv := HPX.out.1.below hV
        have hgb := hk.blk hv.blk (by rintro ⟨_, cur, hc⟩; rw [hv.blk] at hc; simp at hc)
        have hks := Kp.set w4 g 1 (.slice (some ⟨b, off, none⟩) (v0.length + 1) cap2)
        have hpg4 : Qg S w4 gp N p0 := hv.pg.kp hk (fun k cs t hb h3 ⟨_, cur, hc⟩ => by rw [hb] at hc; simp only [Option.some.injEq, Obj.cells.injEq] at hc; obtain ⟨_, rfl, _⟩ := hc; rcases h3 with e | e | e <;> exact absurd e (by decide))
        have hP4 : P9 S (w4.setCell ⟨g, 1, none⟩ (.slice (some ⟨b, off, none⟩) (v0.length + 1) cap2)) g gp N ⟨p0, v0 ++ [⟨6, dt, db, di, de⟩], (dp + 1), false⟩ (.slice (some ⟨b, off, none⟩) (v0.length + 1) cap2) := ⟨blk_set hgb 1 _, hr.apart hks hgb (by decide), hpg4.one hks hgb (by decide), hv.sg⟩
        have hkW : Kp S W (w4.setCell ⟨g, 1, none⟩ (.slice (some ⟨b, off, none⟩) (v0.length + 1) cap2)) := ((HPX.out.2.2.trans (Kp.of_below hV)).trans (hk.sub (fun k h => h.1))).trans (hks.one hv.sg)
        refine ⟨?_, blk_cell hgb rfl, blk_frozen hgb⟩
        refine (prints_any hP4 (HB.out.up hkW.size) hN HBU.out (by omega) (by omega)).mono ?_
        rintro e w' ⟨rfl, a1, a2⟩
        refine ⟨?_, ?_, hkW.trans a2⟩
        · show Ending.returned (.string ⟨((drn N p0 (v0 ++ [⟨6, dt, db, di, de⟩])).1.sk.out.drop p0.sk.out.length).toArray⟩) = _
          rw [HDD.out.1, HDD.out.2]
        · have := a1
          simp only [HDD.out.1] at this
          exact this
      go_region_law (refine step_rw (S := S) (by rfl) _ _ (by rfl) (.slice ao v0.length cap) v0 ⟨6, dt, db, di, de⟩ (by rfl) (HRW.out _ (by first | exact ((Below.refl _ _).alloc (Nat.le_refl _) _).drew | exact ((Below.refl _ _).drew).alloc (Nat.le_refl _) _)).1 (HRW.out _ (by first | exact ((Below.refl _ _).alloc (Nat.le_refl _) _).drew | exact ((Below.refl _ _).drew).alloc (Nat.le_refl _) _)).2 X.heap.size 1 (by rfl) (by first | exact new_at _ _ | exact new_at X.drew _) (by omega) ?_; intro b2 off2 cap2 w4 hr4 hk4; obtain ⟨HF4, z1, yy1⟩ := HFIN.out _ _ _ _ _ (by first | exact ((Below.refl _ _).alloc (Nat.le_refl _) _).drew | exact ((Below.refl _ _).drew).alloc (Nat.le_refl _) _) hr4 hk4)
      all_goals (
        go_wp2_with (go_at_call 40; refine (HF4.out).mono ?_; rintro e w5 ⟨rfl, HE5⟩)
        go_ret2
        exact ⟨rfl, HE5.out⟩)
    by_cases h7 : dk = 7
    · subst h7
      have hd0 : dp ≠ 0 := fun e => hk7 ⟨rfl, e⟩
      obtain ⟨dp', rfl⟩ : ∃ dp', dp = dp' + 1 := ⟨dp - 1, by omega⟩
      have e7 : dn 7 (dp' + 1) = dp' := rfl
      rw [e7] at HBU ⊢
      have q3 : ((dp' + 1 : Nat) : Int) - 1 = (dp' : Nat) := by omega
      have q4 : ¬ ((dp' : Int) + 1 = 0) := by omega
      have q5 : (dp' : Int) + 1 - 1 = (dp' : Nat) := by omega
      go_enter Tryz.func24, Tryz.ntmps24
      go_upto_region 9 with (first | (go_at_call 25; refine (HR.out _).mono ?_; rintro e w1 ⟨rfl, hb1⟩; obtain ⟨HP1, x0, x1, x2, x3, x4, g1, g2, f1, f2⟩ := HW1.out _ hb1; clear hb1))
      obtain ⟨X, hX⟩ : ∃ X, w1.setCell ⟨g, 2, none⟩ (.int .i64 ((dp' : Nat) : Int)) = X := ⟨_, rfl⟩
      rw [hX]
      have HPX : Hid (P9 S X g gp N ⟨p0, v0, dp', false⟩ (.slice ao v0.length cap) ∧ X.heap[W.heap.size]? = some (.cells #[.int .u8 7, .string dt, .int .i64 db, .int .i64 di, .bool de] 37 (0, 0)) ∧ Kp S W X) := by
        rw [← hX]
        have hks := Kp.set w1 g 2 (.int .i64 ((dp' : Nat) : Int))
        exact ⟨⟨blk_set HP1.out.1.blk 2 _, HP1.out.1.row.apart hks HP1.out.1.blk (by decide), HP1.out.1.pg.one hks HP1.out.1.blk (by decide), HP1.out.1.sg⟩, blk_other HP1.out.2.1 (by have := blk_lt HP1.out.1.blk; have := World.block_lt_of_cell? _ _ g2; intro e; rw [e] at x0; have := blk_cell (k := 0) HP1.out.1.blk rfl; rw [x0] at this; cases this) _, HP1.out.2.2.trans (hks.one HP1.out.1.sg)⟩
      clear hX HP1 x0 x1 x2 x3 x4 g1 g2 f1 f2
      have c1 : X.cell? ⟨g, 1, none⟩ = some (.slice ao v0.length cap) := blk_cell HPX.out.1.blk rfl
      have y0 := blk_cell (k := 0) HPX.out.2.1 rfl
      have y1 := blk_cell (k := 1) HPX.out.2.1 rfl
      have y2 := blk_cell (k := 2) HPX.out.2.1 rfl
      have y3 := blk_cell (k := 3) HPX.out.2.1 rfl
      have y4 := blk_cell (k := 4) HPX.out.2.1 rfl
      have yf := World.block_lt_of_cell? _ _ c1
      have yb := World.block_lt_of_cell? _ _ y0
      have HRW : Hid (∀ V, Below X.heap.size X V → RW S V (.slice ao v0.length cap) v0 ∧ Nw S V.heap.size) := fun V hV => ⟨HPX.out.1.row.below hV, HB.out.up (Nat.le_trans HPX.out.2.2.size hV.size)⟩
      have HFIN : Hid (∀ V b off cap2 w4, Below X.heap.size X V → RW S w4 (.slice (some ⟨b, off, none⟩) (v0.length + 1) cap2) (v0 ++ [⟨7, dt, db, di, de⟩]) → Kp (fun k => S k ∧ ∃ cur, V.heap[k]? = some (.cells cur 37 (0, 0))) V w4 → Hid (Calls Tryz.prog 40 #[.pointer (some ⟨g, 0, none⟩)] (w4.setCell ⟨g, 1, none⟩ (.slice (some ⟨b, off, none⟩) (v0.length + 1) cap2)) fun e w' => e = .returned (.string TT) ∧ Hid ((∃ vw', P9 S w' g gp N ⟨D.1, D.2, dp', false⟩ vw') ∧ Kp S W w')) ∧ w4.cell? ⟨g, 1, none⟩ = some (.slice ao v0.length cap) ∧ w4.frozen? ⟨g, 1, none⟩ = false) := by
        intro V b off cap2 w4 hV hr hk
        have hv := HPX.out.1.below hV
        have hgb := hk.blk hv.blk (by rintro ⟨_, cur, hc⟩; rw [hv.blk] at hc; simp at hc)
        have hks := Kp.set w4 g 1 (.slice (some ⟨b, off, none⟩) (v0.length + 1) cap2)
        have hpg4 : Qg S w4 gp N p0 := hv.pg.kp hk (fun k cs t hb h3 ⟨_, cur, hc⟩ => by rw [hb] at hc; simp only [Option.some.injEq, Obj.cells.injEq] at hc; obtain ⟨_, rfl, _⟩ := hc; rcases h3 with e | e | e <;> exact absurd e (by decide))
        have hP4 : P9 S (w4.setCell ⟨g, 1, none⟩ (.slice (some ⟨b, off, none⟩) (v0.length + 1) cap2)) g gp N ⟨p0, v0 ++ [⟨7, dt, db, di, de⟩], dp', false⟩ (.slice (some ⟨b, off, none⟩) (v0.length + 1) cap2) := ⟨blk_set hgb 1 _, hr.apart hks hgb (by decide), hpg4.one hks hgb (by decide), hv.sg⟩
        have hkW : Kp S W (w4.setCell ⟨g, 1, none⟩ (.slice (some ⟨b, off, none⟩) (v0.length + 1) cap2)) := ((HPX.out.2.2.trans (Kp.of_below hV)).trans (hk.sub (fun k h => h.1))).trans (hks.one hv.sg)
        refine ⟨?_, blk_cell hgb rfl, blk_frozen hgb⟩
        refine (prints_any hP4 (HB.out.up hkW.size) hN HBU.out (by omega) (by omega)).mono ?_
        rintro e w' ⟨rfl, a1, a2⟩
        refine ⟨?_, ?_, hkW.trans a2⟩
        · show Ending.returned (.string ⟨((drn N p0 (v0 ++ [⟨7, dt, db, di, de⟩])).1.sk.out.drop p0.sk.out.length).toArray⟩) = _
          rw [HDD.out.1, HDD.out.2]
        · have := a1
          simp only [HDD.out.1] at this
          exact this
      go_region_law (refine step_rw (S := S) (by rfl) _ _ (by rfl) (.slice ao v0.length cap) v0 ⟨7, dt, db, di, de⟩ (by rfl) (HRW.out _ (by first | exact ((Below.refl _ _).alloc (Nat.le_refl _) _).drew | exact ((Below.refl _ _).drew).alloc (Nat.le_refl _) _)).1 (HRW.out _ (by first | exact ((Below.refl _ _).alloc (Nat.le_refl _) _).drew | exact ((Below.refl _ _).drew).alloc (Nat.le_refl _) _)).2 X.heap.size 1 (by rfl) (by first | exact new_at _ _ | exact new_at X.drew _) (by omega) ?_; intro b2 off2 cap2 w4 hr4 hk4; obtain ⟨HF4, z1, yy1⟩ := HFIN.out _ _ _ _ _ (by first | exact ((Below.refl _ _).alloc (Nat.le_refl _) _).drew | exact ((Below.refl _ _).drew).alloc (Nat.le_refl _) _) hr4 hk4)
      all_goals (
        go_wp2_with (go_at_call 40; refine (HF4.out).mono ?_; rintro e w5 ⟨rfl, HE5⟩)
        go_ret2
        exact ⟨rfl, HE5.out⟩)
    have k6 : (dk == 6) = false := by simpa using h6
    have k7 : (dk == 7) = false := by simpa using h7
    obtain ⟨dp', hdp'⟩ : ∃ dp', dn dk dp = dp' := ⟨_, rfl⟩
    have ed : dp' = dp := by rw [← hdp']; unfold dn; rw [if_neg h6, if_neg h7]
    rw [hdp'] at HBU ⊢
    subst ed
    go_enter Tryz.func24, Tryz.ntmps24
    go_upto_region 9 with (first | (go_at_call 25; refine (HR.out _).mono ?_; rintro e w1 ⟨rfl, hb1⟩; obtain ⟨HP1, x0, x1, x2, x3, x4, g1, g2, f1, f2⟩ := HW1.out _ hb1; clear hb1))
    obtain ⟨X, hX⟩ : ∃ X, w1 = X := ⟨_, rfl⟩
    rw [hX]
    have HPX : Hid (P9 S X g gp N ⟨p0, v0, dp', false⟩ (.slice ao v0.length cap) ∧ X.heap[W.heap.size]? = some (.cells #[.int .u8 dk, .string dt, .int .i64 db, .int .i64 di, .bool de] 37 (0, 0)) ∧ Kp S W X) := by
      rw [← hX]
      exact HP1.out
    clear hX HP1 x0 x1 x2 x3 x4 g1 g2 f1 f2
    have c1 : X.cell? ⟨g, 1, none⟩ = some (.slice ao v0.length cap) := blk_cell HPX.out.1.blk rfl
    have y0 := blk_cell (k := 0) HPX.out.2.1 rfl
    have y1 := blk_cell (k := 1) HPX.out.2.1 rfl
    have y2 := blk_cell (k := 2) HPX.out.2.1 rfl
    have y3 := blk_cell (k := 3) HPX.out.2.1 rfl
    have y4 := blk_cell (k := 4) HPX.out.2.1 rfl
    have yf := World.block_lt_of_cell? _ _ c1
    have yb := World.block_lt_of_cell? _ _ y0
    have HRW : Hid (∀ V, Below X.heap.size X V → RW S V (.slice ao v0.length cap) v0 ∧ Nw S V.heap.size) := fun V hV => ⟨HPX.out.1.row.below hV, HB.out.up (Nat.le_trans HPX.out.2.2.size hV.size)⟩
    have HFIN : Hid (∀ V b off cap2 w4, Below X.heap.size X V → RW S w4 (.slice (some ⟨b, off, none⟩) (v0.length + 1) cap2) (v0 ++ [⟨dk, dt, db, di, de⟩]) → Kp (fun k => S k ∧ ∃ cur, V.heap[k]? = some (.cells cur 37 (0, 0))) V w4 → Hid (Calls Tryz.prog 40 #[.pointer (some ⟨g, 0, none⟩)] (w4.setCell ⟨g, 1, none⟩ (.slice (some ⟨b, off, none⟩) (v0.length + 1) cap2)) fun e w' => e = .returned (.string TT) ∧ Hid ((∃ vw', P9 S w' g gp N ⟨D.1, D.2, dp', false⟩ vw') ∧ Kp S W w')) ∧ w4.cell? ⟨g, 1, none⟩ = some (.slice ao v0.length cap) ∧ w4.frozen? ⟨g, 1, none⟩ = false) := by
      intro V b off cap2 w4 hV hr hk
      have hv := HPX.out.1.below hV
      have hgb := hk.blk hv.blk (by rintro ⟨_, cur, hc⟩; rw [hv.blk] at hc; simp at hc)
      have hks := Kp.set w4 g 1 (.slice (some ⟨b, off, none⟩) (v0.length + 1) cap2)
      have hpg4 : Qg S w4 gp N p0 := hv.pg.kp hk (fun k cs t hb h3 ⟨_, cur, hc⟩ => by rw [hb] at hc; simp only [Option.some.injEq, Obj.cells.injEq] at hc; obtain ⟨_, rfl, _⟩ := hc; rcases h3 with e | e | e <;> exact absurd e (by decide))
      have hP4 : P9 S (w4.setCell ⟨g, 1, none⟩ (.slice (some ⟨b, off, none⟩) (v0.length + 1) cap2)) g gp N ⟨p0, v0 ++ [⟨dk, dt, db, di, de⟩], dp', false⟩ (.slice (some ⟨b, off, none⟩) (v0.length + 1) cap2) := ⟨blk_set hgb 1 _, hr.apart hks hgb (by decide), hpg4.one hks hgb (by decide), hv.sg⟩
      have hkW : Kp S W (w4.setCell ⟨g, 1, none⟩ (.slice (some ⟨b, off, none⟩) (v0.length + 1) cap2)) := ((HPX.out.2.2.trans (Kp.of_below hV)).trans (hk.sub (fun k h => h.1))).trans (hks.one hv.sg)
      refine ⟨?_, blk_cell hgb rfl, blk_frozen hgb⟩
      refine (prints_any hP4 (HB.out.up hkW.size) hN HBU.out (by omega) (by omega)).mono ?_
      rintro e w' ⟨rfl, a1, a2⟩
      refine ⟨?_, ?_, hkW.trans a2⟩
      · show Ending.returned (.string ⟨((drn N p0 (v0 ++ [⟨dk, dt, db, di, de⟩])).1.sk.out.drop p0.sk.out.length).toArray⟩) = _
        rw [HDD.out.1, HDD.out.2]
      · have := a1
        simp only [HDD.out.1] at this
        exact this
    go_region_law (refine step_rw (S := S) (by rfl) _ _ (by rfl) (.slice ao v0.length cap) v0 ⟨dk, dt, db, di, de⟩ (by rfl) (HRW.out _ (by first | exact ((Below.refl _ _).alloc (Nat.le_refl _) _).drew | exact ((Below.refl _ _).drew).alloc (Nat.le_refl _) _)).1 (HRW.out _ (by first | exact ((Below.refl _ _).alloc (Nat.le_refl _) _).drew | exact ((Below.refl _ _).drew).alloc (Nat.le_refl _) _)).2 X.heap.size 1 (by rfl) (by first | exact new_at _ _ | exact new_at X.drew _) (by omega) ?_; intro b2 off2 cap2 w4 hr4 hk4; obtain ⟨HF4, z1, yy1⟩ := HFIN.out _ _ _ _ _ (by first | exact ((Below.refl _ _).alloc (Nat.le_refl _) _).drew | exact ((Below.refl _ _).drew).alloc (Nat.le_refl _) _) hr4 hk4)
    all_goals (
      go_wp2_with (go_at_call 40; refine (HF4.out).mono ?_; rintro e w5 ⟨rfl, HE5⟩)
      go_ret2
      exact ⟨rfl, HE5.out⟩)
  · have e : s.put N d = (s, 70) := by unfold S9.put; rw [if_neg hcl, if_neg hok]
    rw [e]
    simp only [told_self]
    have HV2 : Hid (∀ V, Below (W.alloc (.cells #[.int .u8 d.k, .string d.t, .int .i64 d.b, .int .i64 d.i, .bool d.e] 37)).heap.size (W.alloc (.cells #[.int .u8 d.k, .string d.t, .int .i64 d.b, .int .i64 d.i, .bool d.e] 37)) V → (∃ vw', P9 S V g gp N s vw') ∧ Kp S W V) := fun V hV => HUP.out V ((HAL.out _).trans (hV.mono (HAL.out _).size))
    obtain ⟨dp, hdp⟩ : ∃ dp, s.dp = dp := ⟨_, rfl⟩
    rw [hdp] at HW1 hok
    obtain ⟨rr, hrr⟩ : ∃ rr, rt d = rr := ⟨_, rfl⟩
    rw [hrr] at HR hok
    clear h e hb hcl g3 hcf hrr
    obtain ⟨dk, dt, db, di, de⟩ := d
    simp only at HR HW1 HV2 hok ⊢
    cases rr with
    | false =>
      go_enter Tryz.func24, Tryz.ntmps24
      go_wp2_with (first | (go_at_call 25; refine (HR.out _).mono ?_; rintro e w1 ⟨rfl, hb1⟩; have HE := HV2.out _ hb1; have HEE : Hid ((∃ vw', P9 S w1 g gp N s vw') ∧ Kp S W w1) := HE; clear hb1 HE))
      go_ret2
      exact ⟨rfl, HEE.out⟩
    | true =>
      have h7 : dk = 7 ∧ dp = 0 := by
        apply Classical.byContradiction
        intro hn
        exact hok ⟨rfl, hn⟩
      obtain ⟨rfl, rfl⟩ := h7
      go_enter Tryz.func24, Tryz.ntmps24
      go_wp2_with (first | (go_at_call 25; refine (HR.out _).mono ?_; rintro e w1 ⟨rfl, hb1⟩; obtain ⟨_, x0, x1, x2, x3, x4, g1, g2, f1, f2⟩ := HW1.out _ hb1; have HE := HV2.out _ hb1; have HEE : Hid ((∃ vw', P9 S w1 g gp N s vw') ∧ Kp S W w1) := HE; clear hb1 HE))
      go_ret2
      exact ⟨rfl, HEE.out⟩
end Go.Proofs.YtmjhfabdbajchaaGreatDoor
