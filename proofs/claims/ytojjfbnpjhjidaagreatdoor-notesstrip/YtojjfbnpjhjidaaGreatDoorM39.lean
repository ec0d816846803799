import Derived.Lib.Builder
import Derived.Test.YtojjfbnpjhjidaaGreatDoorM38
set_option linter.unusedVariables false
set_option linter.unusedSimpArgs false
namespace Go.Proofs.YtojjfbnpjhjidaaGreatDoor
open Go.RowKit
abbrev btB (p : Option Addr) (v : Value) : Obj := .cells #[.pointer p, v] 64
structure Bu (B b : Nat) (x : ByteArray) (w : World) (v : Value) : Prop where
  blk : ∃ p, (p = none ∨ p = some ⟨b, 0, none⟩) ∧ w.heap[b]? = some (btB p v)
  row : Rb8 B w v x
theorem Bu.below {B b : Nat} {x : ByteArray} {w w' : World} {v : Value} (h : Bu B b x w v) (hb : Below w.heap.size w w') : Bu B b x w' v := by
  obtain ⟨p, h1, h2⟩ := h.blk
  exact ⟨⟨p, h1, blk_below h2 hb⟩, h.row.below hb⟩
theorem bsz : (Tryz.prog.info? 64).map (·.size) = some 2 := by kernel_rfl
theorem blie : liesAt Tryz.prog Tryz.prog.depth 64 (2 / Tryz.prog.cellsOf 64) 0 64 1 = true := by kernel_rfl
set_option maxHeartbeats 1000000 in
set_option maxRecDepth 100000 in
theorem bck_any {b : Nat} {p : Option Addr} {v : Value} {w : World} (hp : p = none ∨ p = some ⟨b, 0, none⟩) (h : w.heap[b]? = some (btB p v)) :
    Calls Tryz.prog 33 #[.pointer (some ⟨b, 0, none⟩)] w fun e w' => e = .returned (.tuple #[]) ∧ w'.heap[b]? = some (btB (some ⟨b, 0, none⟩) v) ∧ Kp (fun k => k = b) w w' := by
  obtain ⟨j, hj, hjs⟩ := Option.map_eq_some_iff.1 bsz
  have c0 : w.cell? ⟨b, 0, none⟩ = some (.pointer p) := blk_cell h rfl
  have f0 : w.frozen? ⟨b, 0, none⟩ = false := blk_frozen h
  rcases hp with rfl | rfl
  · have hsh : w.shape? b = some (64, 2) := by simp [World.shape?, h]
    have v1 := Lib.run_to_unsafe (P := Tryz.prog) w ⟨b, 0, none⟩ Tryz.underlying62 Tryz.underlying74 hj (by rw [hjs]; decide) hsh (Nat.zero_lt_succ 1)
    have v2 := Lib.run_from_unsafe (P := Tryz.prog) w ⟨b, 0, none⟩ Tryz.underlying74 Tryz.underlying62 hj hsh blie
    have HE : Hid (w.heap[b]? = some (btB none v)) := h
    clear h hj hjs hsh
    go_enter Tryz.func33, Tryz.ntmps33
    go_wp2_with fail
    rw [run_callFunc_extern Tryz.func45 (by kernel_rfl) (by kernel_rfl) (by kernel_rfl) (e := Extern.AbiNoEscape.same) (by kernel_rfl), Lib.run_noEscape]
    simp only [Result.andThen]
    rw [Oper.upon_value]
    go_wp2_with fail
    go_end0
    exact ⟨rfl, blk_set HE.out 0 _, Kp.set _ _ _ _⟩
  · have HE : Hid (w.heap[b]? = some (btB (some ⟨b, 0, none⟩) v)) := h
    have v3 := Lib.run_neq_ptr_same (P := Tryz.prog) w ⟨b, 0, none⟩ Tryz.underlying62 hj
    clear h hj hjs
    go_enter Tryz.func33, Tryz.ntmps33
    go_wp2_with fail
    go_end0
    exact ⟨rfl, HE.out, Kp.refl _ _⟩
def Bz (B b : Nat) (x : ByteArray) (v : Value) (w w' : World) : Prop := ∃ v', Bu B b x w' v' ∧ Kp (fun k => k = b ∨ some k = v.ownBlock) w w'
theorem bu_put {B b : Nat} {x y : ByteArray} {v v2 : Value} {w w1 w0 w2 : World} (hb1 : w1.heap[b]? = some (btB (some ⟨b, 0, none⟩) v)) (hk1 : Kp (fun k => k = b) w w1) (hr : Rb8 B w1 v x) (h01 : Below w1.heap.size w1 w0) (hg : w0.grownBy w2 v.ownBlock) (hr2 : Rb8 B w2 v2 (x ++ y)) :
    (w2.cell? ⟨b, 0, none⟩ = some (.pointer (some ⟨b, 0, none⟩)) ∧ w2.cell? ⟨b, 1, none⟩ = some v ∧ w2.frozen? ⟨b, 1, none⟩ = false) ∧ Bz B b (x ++ y) v w (w2.setCell ⟨b, 1, none⟩ v2) := by
  have hb0 := blk_below hb1 h01
  have hr0 := hr.below h01
  have hk := Kp.of_grown hg
  have hb2 := hk.blk hb0 (fun e => hr0.ne hb0 (by decide) b e.symm rfl)
  refine ⟨⟨blk_cell hb2 rfl, blk_cell hb2 rfl, blk_frozen hb2⟩, v2, ⟨⟨_, .inr rfl, blk_set hb2 1 v2⟩, ?_⟩, ?_⟩
  · refine ⟨hr2.1, ?_⟩
    rcases hr2.2 with h1 | ⟨g, cap, cur, rfl, a2, a3, a4⟩
    · exact .inl h1
    · exact .inr ⟨g, cap, cur, rfl, a2, (Kp.set w2 b 1 _).blk a3 (fun e => hr2.ne hb2 (by decide) g rfl e), a4⟩
  · exact (((hk1.sub (fun k h => .inl h)).step (Kp.of_below (S := fun k => k = b ∨ some k = v.ownBlock) h01) (fun _ _ h => h)).step hk (fun _ _ h => .inr h)).step (Kp.set w2 b 1 v2) (fun _ _ h => .inl h)
set_option maxHeartbeats 1000000 in
theorem bws_any {B b : Nat} {x t : ByteArray} {v : Value} {w : World} (h : Bu B b x w v) (hB : B ≤ w.heap.size) (hn : x.size + t.size ≤ 100000000000) :
    Calls Tryz.prog 19 #[.pointer (some ⟨b, 0, none⟩), .string t] w fun e w' => e = .returned (.tuple #[.int .i64 t.size, .nilIface]) ∧ Bz B b (x ++ t) v w w' := by
  obtain ⟨p, hp, hb⟩ := h.blk
  have HC : Hid (Calls Tryz.prog 33 #[.pointer (some ⟨b, 0, none⟩)] w fun e w' => e = .returned (.tuple #[]) ∧ w'.heap[b]? = some (btB (some ⟨b, 0, none⟩) v) ∧ Kp (fun k => k = b) w w') := bck_any hp hb
  have HR : Hid (∀ w1, Kp (fun k => k = b) w w1 → Rb8 B w1 v x ∧ B ≤ w1.heap.size) := fun w1 hk => ⟨by
    refine ⟨h.row.1, ?_⟩
    rcases h.row.2 with h1 | ⟨g, cap, cur, rfl, a2, a3, a4⟩
    · exact .inl h1
    · exact .inr ⟨g, cap, cur, rfl, a2, hk.blk a3 (fun e => h.row.ne hb (by decide) g rfl e), a4⟩, Nat.le_trans hB hk.size⟩
  have hv : ∃ p n c, v = .slice p n c := by
    rcases h.row.2 with ⟨rfl, _⟩ | ⟨g, cap, cur, rfl, _⟩
    · exact ⟨_, _, _, rfl⟩
    · exact ⟨_, _, _, rfl⟩
  clear h hb hB
  go_enter Tryz.func19, Tryz.ntmps19
  go_wp2_with (go_at_call 33; refine HC.out.mono ?_)
  rintro e w1 ⟨rfl, hb1, hk1⟩
  obtain ⟨h1, h2⟩ := HR.out w1 hk1
  have c0 : w1.cell? ⟨b, 0, none⟩ = some (.pointer (some ⟨b, 0, none⟩)) := blk_cell hb1 rfl
  have c1 : w1.cell? ⟨b, 1, none⟩ = some v := blk_cell hb1 rfl
  have H1 : Hid (Rb8 B w1 v x ∧ B ≤ w1.heap.size) := ⟨h1, h2⟩
  have HP : Hid (∀ v2 w2, w1.grownBy w2 v.ownBlock → Rb8 B w2 v2 (x ++ t) → (w2.cell? ⟨b, 0, none⟩ = some (.pointer (some ⟨b, 0, none⟩)) ∧ w2.cell? ⟨b, 1, none⟩ = some v ∧ w2.frozen? ⟨b, 1, none⟩ = false) ∧ Bz B b (x ++ t) v w (w2.setCell ⟨b, 1, none⟩ v2)) := fun v2 w2 hg hr => bu_put hb1 hk1 h1 (Below.refl _ _) hg hr
  obtain ⟨p1, n1, k1, rfl⟩ := hv
  clear hb1 hk1 h1 h2 HR HC
  go_wp2_with (at_builtin; refine app_str (by rfl) _ _ (by rfl) B (.slice p1 n1 k1) x t (by rfl) H1.out.1 (by rfl) (by omega) H1.out.2 ?_; intro v' w2 y1 y2 y3; obtain ⟨⟨z0, z1, z2⟩, z3⟩ := HP.out v' w2 y3 y1; have HX := show Hid _ from z3; obtain ⟨p2, n2, k2, rfl⟩ : ∃ p n c, v' = .slice p n c := (by rcases y1.2 with ⟨rfl, _⟩ | ⟨g, cap, cur, rfl, _⟩; exact ⟨_, _, _, rfl⟩; exact ⟨_, _, _, rfl⟩); clear y1 y2 y3 z3 HP)
  go_ret2
  exact ⟨rfl, HX.out⟩
set_option maxHeartbeats 1000000 in
theorem bwb_any {B b : Nat} {x : ByteArray} {v : Value} {w : World} (h : Bu B b x w v) (hB : B ≤ w.heap.size) (hn : x.size ≤ 10000000000) :
    Calls Tryz.prog 20 #[.pointer (some ⟨b, 0, none⟩), .int .u8 32] w fun e w' => e = .returned .nilIface ∧ Bz B b (x ++ ⟨#[32]⟩) v w w' := by
  obtain ⟨p, hp, hb⟩ := h.blk
  have HC : Hid (Calls Tryz.prog 33 #[.pointer (some ⟨b, 0, none⟩)] w fun e w' => e = .returned (.tuple #[]) ∧ w'.heap[b]? = some (btB (some ⟨b, 0, none⟩) v) ∧ Kp (fun k => k = b) w w') := bck_any hp hb
  have HR : Hid (∀ w1, Kp (fun k => k = b) w w1 → Rb8 B w1 v x ∧ B ≤ w1.heap.size) := fun w1 hk => ⟨by
    refine ⟨h.row.1, ?_⟩
    rcases h.row.2 with h1 | ⟨g, cap, cur, rfl, a2, a3, a4⟩
    · exact .inl h1
    · exact .inr ⟨g, cap, cur, rfl, a2, hk.blk a3 (fun e => h.row.ne hb (by decide) g rfl e), a4⟩, Nat.le_trans hB hk.size⟩
  have hv : ∃ p n c, v = .slice p n c := by
    rcases h.row.2 with ⟨rfl, _⟩ | ⟨g, cap, cur, rfl, _⟩
    · exact ⟨_, _, _, rfl⟩
    · exact ⟨_, _, _, rfl⟩
  clear h hb hB
  go_enter Tryz.func20, Tryz.ntmps20
  go_wp2_with (go_at_call 33; refine HC.out.mono ?_)
  rintro e w1 ⟨rfl, hb1, hk1⟩
  obtain ⟨h1, h2⟩ := HR.out w1 hk1
  have c0 : w1.cell? ⟨b, 0, none⟩ = some (.pointer (some ⟨b, 0, none⟩)) := blk_cell hb1 rfl
  have c1 : w1.cell? ⟨b, 1, none⟩ = some v := blk_cell hb1 rfl
  have hal : Below w1.heap.size w1 (w1.alloc (.cells #[.int .u8 32] 5)) := (Below.refl _ _).alloc (Nat.le_refl _) _
  have H1 : Hid (Rb8 B (w1.alloc (.cells #[.int .u8 32] 5)) v x ∧ B ≤ (w1.alloc (.cells #[.int .u8 32] 5)).heap.size) := ⟨h1.below hal, Nat.le_trans h2 hal.size⟩
  have HP : Hid (∀ v2 w2, (w1.alloc (.cells #[.int .u8 32] 5)).grownBy w2 v.ownBlock → Rb8 B w2 v2 (x ++ ⟨#[32]⟩) → (w2.cell? ⟨b, 0, none⟩ = some (.pointer (some ⟨b, 0, none⟩)) ∧ w2.cell? ⟨b, 1, none⟩ = some v ∧ w2.frozen? ⟨b, 1, none⟩ = false) ∧ Bz B b (x ++ ⟨#[32]⟩) v w (w2.setCell ⟨b, 1, none⟩ v2)) := fun v2 w2 hg hr => bu_put hb1 hk1 h1 hal hg hr
  obtain ⟨p1, n1, k1, rfl⟩ := hv
  clear hb1 hk1 h1 h2 HR HC hal
  go_wp2_with (at_builtin; refine app_b8 (by rfl) _ _ (by rfl) B (.slice p1 n1 k1) x (by rfl) H1.out.1 w1.heap.size 1 (by rfl) (new_at _ _) (by omega) H1.out.2 ?_; intro v' w2 y1 y2 y3; obtain ⟨⟨z0, z1, z2⟩, z3⟩ := HP.out v' w2 y3 y1; have HX := show Hid _ from z3; obtain ⟨p2, n2, k2, rfl⟩ : ∃ p n c, v' = .slice p n c := (by rcases y1.2 with ⟨rfl, _⟩ | ⟨g, cap, cur, rfl, _⟩; exact ⟨_, _, _, rfl⟩; exact ⟨_, _, _, rfl⟩); clear y1 y2 y3 z3 HP)
  go_ret
  exact ⟨rfl, HX.out⟩
theorem Bu.is {B b : Nat} {x : ByteArray} {v : Value} {w : World} (h : Bu B b x w v) (hb : B ≤ b) : Lib.IsBuilder 64 5 B b (Lib.byteCells x.data.toList) w := by
  obtain ⟨p, hp, h1⟩ := h.blk
  have hr : w.ownsRow B 5 1 v (Lib.byteCells x.data.toList).length (Lib.byteCells x.data.toList) := by
    rw [Lib.byteCells_length, Array.length_toList]
    exact h.row
  have hn : v.ownBlock ≠ some b := fun e => h.row.ne h1 (by decide) b e rfl
  rcases hp with rfl | rfl
  · exact .inl ⟨hb, v, h1, hr, hn⟩
  · exact .inr ⟨hb, v, h1, hr, hn⟩
end Go.Proofs.YtojjfbnpjhjidaaGreatDoor
namespace Go.Proofs.YtojjfbnpjhjidaaGreatDoor
open Go.RowKit Go.Shelf
theorem cms_nt : ∀ (l : List Tv) (i n : Nat), ∀ t ∈ (cms l i n).map (·.1), ntB t = true
  | [], _, _, _, h => by cases h
  | t :: r, i, n, x, h => by
    unfold cms at h
    split at h
    · rename_i ht
      rw [List.map_cons] at h
      rcases List.mem_cons.1 h with rfl | h
      · exact ht
      · exact cms_nt r _ _ x h
    · exact cms_nt r _ _ x h
theorem stb_cms (s : ByteArray) : ∀ (l : List Tv) (i n u : Nat), stb s ((cms l i n).map (·.1)) u = stb s l u
  | [], _, _, _ => rfl
  | t :: r, i, n, u => by
    unfold cms
    split
    · rename_i ht
      rw [List.map_cons, stb_cons, stb_cons, if_pos ht, if_pos ht, stb_cms s r]
    · rename_i ht
      rw [stb_cons, if_neg ht, stb_cms s r]
theorem chn_cms (s : ByteArray) : ∀ (l : List Tv) (i n u : Nat), Chn s u l → Chn s u ((cms l i n).map (·.1))
  | [], _, _, _, _ => trivial
  | t :: r, i, n, u, ⟨a, h1, h2, h3, h4⟩ => by
    unfold cms
    split
    · rw [List.map_cons]
      exact ⟨a, h1, h2, h3, chn_cms s r _ _ _ h4⟩
    · exact chn_cms s r _ _ _ (h4.low (by omega))
theorem Rb8.kept {B : Nat} {W W' : World} {row : Option Nat} (hg : W.grownBy W' row) (hr : ∀ r, row = some r → ∃ o : Obj, W.heap[r]? = some o ∧ o.isCells = false) {v : Value} {x : ByteArray} (h : Rb8 B W v x) : Rb8 B W' v x := by
  refine ⟨h.1, ?_⟩
  rcases h.2 with h1 | ⟨g, cap, cur, rfl, a0, a2, a3⟩
  · exact .inl h1
  · exact .inr ⟨g, cap, cur, rfl, a0, keeps_cell hg hr a2, a3⟩
theorem Bu.kept {B b : Nat} {W W' : World} {row : Option Nat} (hg : W.grownBy W' row) (hr : ∀ r, row = some r → ∃ o : Obj, W.heap[r]? = some o ∧ o.isCells = false) {v : Value} {x : ByteArray} (h : Bu B b x W v) : Bu B b x W' v := by
  obtain ⟨p, h1, h2⟩ := h.blk
  exact ⟨⟨p, h1, keeps_cell hg hr h2⟩, h.row.kept hg hr⟩
theorem kp_lo {S : Nat → Prop} {B : Nat} {w W W' : World} (h : Below B w W) (hk : Kp S W W') (hS : ∀ k, S k → B ≤ k) (hB : B ≤ W.heap.size) : Below B w W' :=
  h.trans ⟨hk.os, hk.tape, hk.output, hk.size, fun j hj => hk.block j (Nat.lt_of_lt_of_le hj hB) (fun hs => by have := hS j hs; omega)⟩
def Oth (A w : World) : Prop := ∀ (g : Nat) (cs : Array Value) (T : TypeId) (f : Nat × Nat), A.heap[g]? = some (.cells cs T f) → T ≠ 64 → T ≠ 5 → w.heap[g]? = some (.cells cs T f)
theorem Bu.oth {B b : Nat} {x : ByteArray} {A w : World} {y : Value} (h : Bu B b x A y) (hk : Kp (fun k => k = b ∨ some k = y.ownBlock) A w) : Oth A w := fun g cs T f hg h1 h2 => by
  refine hk.blk hg (fun e => ?_)
  rcases e with rfl | e
  · obtain ⟨p, _, hb⟩ := h.blk
    rw [hb] at hg
    cases hg
    exact h1 rfl
  · exact h.row.ne hg h2 g e.symm rfl
theorem Bu.kf {B b : Nat} {x : ByteArray} {A w : World} {y : Value} (h : Bu B b x A y) (hk : Kp (fun k => k = b ∨ some k = y.ownBlock) A w) (n : Nat) : KeepsFrom n A w := by
  refine (ko_kp hk fun k hs => ?_).from n
  rcases hs with rfl | e
  · obtain ⟨p, _, hb⟩ := h.blk
    exact cells_of hb
  · rcases h.row.2 with ⟨rfl, _⟩ | ⟨g, cap, cur, rfl, _, h3, _⟩
    · cases e
    · simp only [Value.ownBlock, Option.some.injEq] at e
      subst e
      exact cells_of h3
theorem rt_oth {B : Nat} {A w : World} {v : Value} {l : List Tv} (h : Rt B A v l) (ho : Oth A w) : Rt B w v l := by
  refine ⟨h.1, ?_⟩
  rcases h.2 with h1 | ⟨g, cap, cur, rfl, a0, a2, a3⟩
  · exact .inl h1
  · exact .inr ⟨g, cap, cur, rfl, a0, ho _ _ _ _ a2 (by decide) (by decide), a3⟩
structure CB (W : World) (h b : Nat) (v : Value) (s : ByteArray) (L : List Tv) (wr : World) : Prop where
  bel : Below W.heap.size W wr
  rt : Rt W.heap.size wr v L
  sb : wr.heap[h]? = some (.cells #[.string s] 9 (0, 0))
  lb : wr.heap[b + 2]? = some (.cells #[v] 44 (0, 0))
theorem CB.own {W : World} {h b : Nat} {v : Value} {s : ByteArray} {L : List Tv} {A V : World} {row : Option Nat} (c : CB W h b v s L A) (hg : A.grownBy V row) (hr : ∀ r, row = some r → W.heap.size ≤ r ∧ ∃ o : Obj, A.heap[r]? = some o ∧ o.isCells = false) : CB W h b v s L V := by
  have hr2 := fun r e => (hr r e).2
  exact ⟨c.bel.grown hg c.bel.size (fun k e => (hr k e).1), rt_kept hg hr2 c.rt, keeps_cell hg hr2 c.sb, keeps_cell hg hr2 c.lb⟩
theorem CB.below {W : World} {h b : Nat} {v : Value} {s : ByteArray} {L : List Tv} {A V : World} (c : CB W h b v s L A) (hb : Below A.heap.size A V) : CB W h b v s L V :=
  ⟨c.bel.trans (hb.mono c.bel.size), c.rt.below hb, blk_below c.sb hb, blk_below c.lb hb⟩
theorem CB.wr {W : World} {h b : Nat} {v : Value} {s : ByteArray} {L : List Tv} {A V : World} {x : ByteArray} {y : Value} (c : CB W h b v s L A) (hW : W.heap.size ≤ b) (hb : Bu W.heap.size b x A y) (hk : Kp (fun k => k = b ∨ some k = y.ownBlock) A V) : CB W h b v s L V := by
  have ho := hb.oth hk
  refine ⟨kp_lo c.bel hk (fun k e => ?_) c.bel.size, rt_oth c.rt ho, ho _ _ _ _ c.sb (by decide) (by decide), ho _ _ _ _ c.lb (by decide) (by decide)⟩
  rcases e with rfl | e
  · exact hW
  · exact hb.row.own k e.symm
structure CS (W : World) (h b : Nat) (v : Value) (s : ByteArray) (L D : List Tv) (j : Nat) (wr : World) : Prop where
  cb : CB W h b v s L wr
  st : ∃ (u : Nat) (x : ByteArray) (y : Value), wr.heap[b + 1]? = some (.cells #[.int .i64 u] 3 (0, 0)) ∧ Bu W.heap.size b x wr y ∧ x ++ stb s (D.drop j) u = stb s L 0 ∧ x.size ≤ u + j ∧ Chn s u (D.drop j) ∧ u ≤ s.size
theorem CS.own {W : World} {h b : Nat} {v : Value} {s : ByteArray} {L D : List Tv} {j : Nat} {A V : World} {row : Option Nat} (c : CS W h b v s L D j A) (hg : A.grownBy V row) (hr : ∀ r, row = some r → W.heap.size ≤ r ∧ ∃ o : Obj, A.heap[r]? = some o ∧ o.isCells = false) : CS W h b v s L D j V := by
  obtain ⟨u, x, y, h1, h2, h3⟩ := c.st
  have hr2 := fun r e => (hr r e).2
  exact ⟨c.cb.own hg hr, u, x, y, keeps_cell hg hr2 h1, h2.kept hg hr2, h3⟩
theorem CS.below {W : World} {h b : Nat} {v : Value} {s : ByteArray} {L D : List Tv} {j : Nat} {A V : World} (c : CS W h b v s L D j A) (hb : Below A.heap.size A V) : CS W h b v s L D j V := by
  obtain ⟨u, x, y, h1, h2, h3⟩ := c.st
  exact ⟨c.cb.below hb, u, x, y, blk_below h1 hb, h2.below hb, h3⟩
structure CM (W : World) (h b : Nat) (v : Value) (s : ByteArray) (L D : List Tv) (j : Nat) (k : Int) (e u : Nat) (A wr : World) : Prop where
  cb : CB W h b v s L wr
  en : wr.heap[b + 1]? = some (.cells #[.int .i64 u] 3 (0, 0))
  st : ∃ x y, Bu W.heap.size b x wr y ∧ x ++ ((if k = 8 then ⟨#[32]⟩ else ⟨#[]⟩) ++ stb s (D.drop (j + 1)) e) = stb s L 0 ∧ x.size + (if k = 8 then 1 else 0) ≤ e + (j + 1)
  ch : Chn s e (D.drop (j + 1))
  es : e ≤ s.size
  kf : KeepsFrom W.heap.size A wr
  ot : Oth A wr
theorem CS.cut {W : World} {h b : Nat} {v : Value} {s : ByteArray} {L D : List Tv} {j : Nat} {A : World} (c : CS W h b v s L D j A) (hW : W.heap.size ≤ b) {t : Tv} (ht : D[j]? = some t) (hn : ntB t = true) : ∃ (a u : Nat) (x : ByteArray) (y : Value), t.a = a ∧ u ≤ a ∧ a + t.t.size ≤ s.size ∧ A.heap[b + 1]? = some (.cells #[.int .i64 u] 3 (0, 0)) ∧ Bu W.heap.size b x A y ∧ x.size ≤ u + j ∧
    ∀ w1, Bz W.heap.size b (x ++ s.extract u a) y A w1 → CM W h b v s L D j t.k (a + t.t.size) u A w1 := by
  obtain ⟨u, x, y, h1, h2, h3, h4, h5, h6⟩ := c.st
  rw [drop_at ht] at h3 h5
  rw [stb_cons, if_pos hn] at h3
  obtain ⟨a, c1, c2, c3, c4⟩ := h5
  rw [c1] at h3
  refine ⟨a, u, x, y, c1, c2, c3, h1, h2, h4, fun w1 hz => ?_⟩
  obtain ⟨y', z1, z2⟩ := hz
  have ho := h2.oth z2
  refine ⟨c.cb.wr hW h2 z2, ho _ _ _ _ h1 (by decide) (by decide), ⟨_, y', z1, ?_, ?_⟩, c4, c3, h2.kf z2 _, ho⟩
  · rw [ByteArray.append_assoc]; exact h3
  · rw [ByteArray.size_append, ByteArray.size_extract]
    split <;> omega
theorem CM.byte {W : World} {h b : Nat} {v : Value} {s : ByteArray} {L D : List Tv} {j : Nat} {e u : Nat} {A V : World} (c : CM W h b v s L D j 8 e u A V) (hW : W.heap.size ≤ b) : ∃ x y, Bu W.heap.size b x V y ∧ x.size ≤ e + j ∧ ∀ w2, Bz W.heap.size b (x ++ ⟨#[32]⟩) y V w2 → CM W h b v s L D j 7 e u A w2 := by
  obtain ⟨x, y, h1, h2, h3⟩ := c.st
  refine ⟨x, y, h1, by simp at h3; omega, fun w2 hz => ?_⟩
  obtain ⟨y', z1, z2⟩ := hz
  have ho := h1.oth z2
  refine ⟨c.cb.wr hW h1 z2, ho _ _ _ _ c.en (by decide) (by decide), ⟨_, y', z1, ?_, ?_⟩, c.ch, c.es, c.kf.trans (h1.kf z2 _), fun g cs T f hg q1 q2 => ho _ _ _ _ (c.ot g cs T f hg q1 q2) q1 q2⟩
  · rw [if_pos rfl] at h2
    rw [if_neg (by decide), nil_cat, ByteArray.append_assoc]
    exact h2
  · rw [ByteArray.size_append]
    show x.size + 1 + 0 ≤ _
    simp at h3
    omega
theorem CM.fin {W : World} {h b : Nat} {v : Value} {s : ByteArray} {L D : List Tv} {j : Nat} {k : Int} {e u : Nat} {A V : World} (c : CM W h b v s L D j k e u A V) (hW : W.heap.size ≤ b) (hk : ¬ k = 8) (hh : h < b) : CS W h b v s L D (j + 1) (V.setCell ⟨b + 1, 0, none⟩ (.int .i64 e)) ∧ KeepsFrom W.heap.size A (V.setCell ⟨b + 1, 0, none⟩ (.int .i64 e)) := by
  obtain ⟨x, y, h1, h2, h3⟩ := c.st
  rw [if_neg hk, nil_cat] at h2
  rw [if_neg hk] at h3
  have hs := Kp.set V (b + 1) 0 (.int .i64 e)
  obtain ⟨p, p1, p2⟩ := h1.blk
  refine ⟨⟨⟨c.cb.bel.setCell (p := ⟨b + 1, 0, none⟩) (by show _ ≤ b + 1; omega) _, c.cb.rt.kp hs (fun k e1 e2 => ?_), hs.blk c.cb.sb (by omega), hs.blk c.cb.lb (by omega)⟩, e, x, y, blk_set c.en 0 _, ⟨⟨p, p1, hs.blk p2 (by omega)⟩, ?_⟩, h2, by omega, c.ch, c.es⟩, c.kf.trans ((KeepsOthers.setCell _ _ _).from _)⟩
  · rcases c.cb.rt.2 with ⟨hv, h0⟩ | ⟨g, cap, cur, hv, _, q3, _⟩
    · rw [hv] at e1; cases e1
    · rw [hv] at e1
      simp only [Value.ownBlock, Option.some.injEq] at e1
      subst e1
      subst e2
      rw [c.en] at q3
      cases q3
  · refine ⟨h1.row.1, ?_⟩
    rcases h1.row.2 with q1 | ⟨g, cap, cur, rfl, a0, a2, a3⟩
    · exact .inl q1
    · exact .inr ⟨g, cap, cur, rfl, a0, hs.blk a2 (fun e => h1.row.ne c.en (by decide) g rfl e), a3⟩
end Go.Proofs.YtojjfbnpjhjidaaGreatDoor
