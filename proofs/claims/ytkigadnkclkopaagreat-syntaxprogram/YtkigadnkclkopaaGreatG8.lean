import Derived.Test.YtkigadnkclkopaaGreatG7
import Derived.Laws.EntriesVeiled
import Derived.Deep.RegionHeld3
import Derived.Deep.RegionWith
import Derived.Deep.RegionLaw
import Derived.WalkMore
import Derived.Deep.AppendLies
set_option linter.unusedVariables false
set_option linter.unusedSimpArgs false
namespace Go.Proofs.YtkigadnkclkopaaGreat
open Go.RowKit

/-! The code's isToken, kindOf, Depth. -/
abbrev ndv (k : Int) (d : Tv) (s : Value) : Value := .agg #[.int .u8 k, .int .u8 d.k, .string d.t, .int .i64 d.a, .int .i64 d.l, .int .i64 d.c, .int .i64 d.f, s]
theorem isTok_any (k : Int) (d : Tv) (ao : Option Addr) (n cap : Nat) (W : World) : Calls Tryz.prog 30 #[ndv k d (.slice ao n cap)] W fun r w' => r = .returned (.bool (k == 0)) ∧ Below W.heap.size W w' := by
  go_enter Tryz.func30, Tryz.ntmps30
  go_wp2_with fail
  go_ret
  exact ⟨rfl, below_new _ _⟩
/-- What a token's event is. -/
def kof (t : Tv) : Int := if cm t then 4 else 2
theorem kindOf_any (t : Tv) (W : World) : Calls Tryz.prog 31 #[t.v] W fun r w' => r = .returned (.int .u8 (kof t)) ∧ Below W.heap.size W w' := by
  unfold kof cm
  dsimp only [Tv.v]
  obtain ⟨b7, e7⟩ : ∃ b, (t.k == 7) = b := ⟨_, rfl⟩
  obtain ⟨b8, e8⟩ : ∃ b, (t.k == 8) = b := ⟨_, rfl⟩
  rw [e7, e8]
  cases b7
  · cases b8
    · go_enter Tryz.func31, Tryz.ntmps31
      go_wp2_with fail
      go_ret
      exact ⟨rfl, below_new _ _⟩
    · go_enter Tryz.func31, Tryz.ntmps31
      go_wp2_with fail
      go_ret
      exact ⟨rfl, below_new _ _⟩
  · go_enter Tryz.func31, Tryz.ntmps31
    go_wp2_with fail
    go_ret
    exact ⟨rfl, below_new _ _⟩
theorem tkE_kof (d : Tv) : tkE d = ⟨kof d, 0, d⟩ := by
  unfold tkE kof
  split <;> rfl

/-- A kid: its cells now, and its value as it was. -/
theorem kid0 {w0 : World} {ao : Option Addr} {c : List Nd} (h : (ao = none → c = []) ∧ ∀ a, ao = some a → c = [] ∨ ∃ b o, a = ⟨b, o, none⟩ ∧ HL w0 b o c) {V : World} (hb : Below w0.heap.size w0 V) {j : Nat} {m : Nd} (hm : c[j]? = some m) :
    ∃ b o, ao = some ⟨b, o, none⟩ ∧ b < V.heap.size ∧ ∃ ao2 cap2, (V.cell? ⟨b, o + j * 8, none⟩ = some (.int .u8 m.k) ∧ V.cell? ⟨b, o + j * 8 + 1, none⟩ = some (.int .u8 m.d.k) ∧ V.cell? ⟨b, o + j * 8 + 2, none⟩ = some (.string m.d.t) ∧ V.cell? ⟨b, o + j * 8 + 3, none⟩ = some (.int .i64 m.d.a) ∧ V.cell? ⟨b, o + j * 8 + 4, none⟩ = some (.int .i64 m.d.l) ∧ V.cell? ⟨b, o + j * 8 + 5, none⟩ = some (.int .i64 m.d.c) ∧ V.cell? ⟨b, o + j * 8 + 6, none⟩ = some (.int .i64 m.d.f) ∧ V.cell? ⟨b, o + j * 8 + 7, none⟩ = some (.slice ao2 m.c.length cap2)) ∧
      Nv w0 (.agg #[.int .u8 m.k, .int .u8 m.d.k, .string m.d.t, .int .i64 m.d.a, .int .i64 m.d.l, .int .i64 m.d.c, .int .i64 m.d.f, .slice ao2 m.c.length cap2]) m := by
  obtain ⟨b, o, e, hlt, ao2, cap2, ⟨y0, y1, y2, y3, y4, y5, y6, y7⟩, hv⟩ := Nv.kid h (Below.refl _ _) hm
  have tr : ∀ i u, w0.cell? ⟨b, i, none⟩ = some u → V.cell? ⟨b, i, none⟩ = some u := fun i u hu => (World.cell?_of_block (a := ⟨b, i, none⟩) (hb.block b hlt)).trans hu
  exact ⟨b, o, e, Nat.lt_of_lt_of_le hlt hb.size, ao2, cap2, ⟨tr _ _ y0, tr _ _ y1, tr _ _ y2, tr _ _ y3, tr _ _ y4, tr _ _ y5, tr _ _ y6, tr _ _ y7⟩, hv⟩
end Go.Proofs.YtkigadnkclkopaaGreat

set_option linter.unusedVariables false
set_option linter.unusedSimpArgs false
namespace Go.Proofs.YtkigadnkclkopaaGreat
open Go.RowKit

/-! The code's Depth. -/
theorem size_al (W : World) (o : Obj) : (W.alloc o).heap.size = W.heap.size + 1 := World.size_alloc _ _
end Go.Proofs.YtkigadnkclkopaaGreat

set_option linter.unusedVariables false
set_option linter.unusedSimpArgs false
namespace Go.Proofs.YtkigadnkclkopaaGreat
open Go.RowKit

/-! The code's Events. -/
theorem step_ev {W : World} {ops : Array Oper} {o : Oper} {a : Act} {K : Act → World → Prop} {Q : Exit → Act → World → Prop} {E : Prop} (hgd : o.guard = none) (s x : Operand)
    (ho : o.op = .call { callee := .builtin .append, args := #[s, x], argTypes := #[41, 41] }) (v : Value) (l : List Ev) (d : Ev) (hs : a.eval s = v) (hr : Re W v l)
    (g c : Nat) (hx : a.eval x = .slice (some ⟨g, 0, none⟩) 1 c) (hg : W.heap[g]? = some (.cells #[.int .u8 d.k, .int .u8 d.n, .int .u8 d.d.k, .string d.d.t, .int .i64 d.d.a, .int .i64 d.d.l, .int .i64 d.d.c, .int .i64 d.d.f] 48 (0, 0))) (hl : l.length ≤ 1000000000)
    (h : ∀ q cap w', Re w' (.slice (some ⟨q, 0, none⟩) (l.length + 1) cap) (l ++ [d]) → W.grownBy w' v.ownBlock → Nb W v (.slice (some ⟨q, 0, none⟩) (l.length + 1) cap) → K (a.put o.dst (.slice (some ⟨q, 0, none⟩) (l.length + 1) cap)) w') :
    if Region.wanted o (yielded ops a.tmps) = true then Oper.wp Tryz.prog o a W K Q else E := by
  obtain ⟨i0, hi, hz0, hz1, hz2⟩ := info_parts Tryz.info48
  refine step_append_lies W hgd s x 41 ho 0 48 i0 _ 8 64 Tryz.underlying41 hi hz0 hz1 hz2 rfl (by decide) v _ _ hs hr ⟨g, 0, none⟩ 1 c (ecs [d]) hx (by rw [ecs_len]; rfl) ?_ (ecs_one [d]) (by omega) (by unfold maxLen; omega) (by omega) (Nat.zero_le _) _ rfl ?_
  · intro j u hu
    refine World.news_of_block hg j u ?_
    have e : ecs [d] = [.int .u8 d.k, .int .u8 d.n, .int .u8 d.d.k, .string d.d.t, .int .i64 d.d.a, .int .i64 d.d.l, .int .i64 d.d.c, .int .i64 d.d.f] := by simp [ecs, flat, Ev.cs]
    rw [e] at hu
    simpa using hu
  · intro q cap w' a1 a2 a3 _
    refine h q cap w' ?_ a2 ?_
    · unfold Re
      rw [List.length_append, ecs_app]
      exact a1
    · rcases a3 with a3 | a3
      · exact .inl a3.symm
      · exact .inr ⟨q, rfl, by omega⟩
/-- A block of a type. -/
def tyB (T : TypeId) (W : World) (k : Nat) : Prop := ∃ cs f, W.heap[k]? = some (.cells cs T f)
/-- What stands, but for one block and those of a type. -/
def KT (T : TypeId) (g : Nat) (W w' : World) : Prop := Kp (fun k => k = g ∨ tyB T W k) W w'
theorem KT.refl (T : TypeId) (g : Nat) (W : World) : KT T g W W := Kp.refl _ _
theorem KT.trans {T : TypeId} {g : Nat} {a b c : World} (h : KT T g a b) (k : KT T g b c) : KT T g a c := by
  refine ⟨k.os.trans h.os, k.tape.trans h.tape, k.output.trans h.output, Nat.le_trans h.size k.size, fun j hj hS => ?_⟩
  have e := h.block j hj hS
  refine (k.block j (Nat.lt_of_lt_of_le hj h.size) (fun ht => hS ?_)).trans e
  rcases ht with ht | ⟨cs, f, ht⟩
  · exact .inl ht
  · exact .inr ⟨cs, f, by rw [← e]; exact ht⟩
theorem KT.of_below {T : TypeId} {g : Nat} {a b : World} (h : Below a.heap.size a b) : KT T g a b := Kp.of_below h
theorem KT.of_kp {T : TypeId} {g : Nat} {a b : World} (h : Kp (fun k => k = g) a b) : KT T g a b := h.sub (fun k e => .inl e)
theorem KT.blk {T : TypeId} {g : Nat} {a b : World} (h : KT T g a b) {k : Nat} {cs : Array Value} {U : TypeId} {f : Nat × Nat} (hk : a.heap[k]? = some (.cells cs U f)) (hg : k ≠ g) (hT : U ≠ T) : b.heap[k]? = some (.cells cs U f) := by
  refine Kp.blk h hk ?_
  rintro (e | ⟨cs', f', e⟩)
  · exact hg e
  · rw [hk] at e
    injection e with e
    injection e with _ e
    exact hT e
theorem re_ty {W : World} {v : Value} {E : List Ev} (h : Re W v E) : ∀ k, v.ownBlock = some k → tyB 48 W k := by
  intro k hk
  rcases h.2 with ⟨rfl, _⟩ | ⟨b, cap, cur, rfl, _, h3, _⟩
  · cases hk
  · simp only [Value.ownBlock, Option.some.injEq] at hk
    subst hk
    exact ⟨_, _, h3⟩

abbrev tellF (g p : Nat) : Value := .func (.func 29) #[] #[.pointer (some ⟨g, 0, none⟩), .pointer (some ⟨p, 0, none⟩)]
/-- What tell has in hand. -/
structure EI (w0 : World) (g p : Nat) (v : Value) (E : List Ev) (V : World) : Prop where
  bel : Below w0.heap.size w0 V
  hg : V.heap[g]? = some (.cells #[v] 41 (0, 0))
  hp : V.heap[p]? = some (.cells #[tellF g p] 37 (0, 0))
  re : Re V v E
  vB : ∀ k, v.ownBlock = some k → w0.heap.size ≤ k
  g0 : w0.heap.size ≤ g
  p0 : w0.heap.size ≤ p
theorem EI.ne {w0 : World} {g p : Nat} {v : Value} {E : List Ev} {V : World} (h : EI w0 g p v E V) : g ≠ p := by
  rintro rfl
  have := h.hg
  rw [h.hp] at this
  injection this with e
  injection e with _ e
  exact absurd e (by decide)
theorem EI.below {w0 : World} {g p : Nat} {v : Value} {E : List Ev} {V V' : World} (h : EI w0 g p v E V) (hb : Below V.heap.size V V') : EI w0 g p v E V' :=
  ⟨h.bel.trans (hb.mono h.bel.size), blk_below h.hg hb, blk_below h.hp hb, h.re.below hb, h.vB, h.g0, h.p0⟩
theorem EI.push {w0 : World} {g p : Nat} {v v' : Value} {E ds : List Ev} {V V1 w3 : World} (h : EI w0 g p v E V) (hb : Below V.heap.size V V1) (hr : Re w3 v' (E ++ ds)) (hg : V1.grownBy w3 v.ownBlock) (hq : Nb V1 v v') :
    (w3.cell? ⟨g, 0, none⟩ = some v ∧ w3.frozen? ⟨g, 0, none⟩ = false ∧ g < w3.heap.size) ∧ EI w0 g p v' (E ++ ds) (w3.setCell ⟨g, 0, none⟩ v') ∧ KT 48 g V (w3.setCell ⟨g, 0, none⟩ v') := by
  have h1 := h.below hb
  have kg := Kp.of_grown hg
  have ne1 : ¬ some g = v.ownBlock := fun e => h1.re.ne h1.hg (by decide) g e.symm rfl
  have ne2 : ¬ some p = v.ownBlock := fun e => h1.re.ne h1.hp (by decide) p e.symm rfl
  have g3 := kg.blk h1.hg ne1
  have p3 := kg.blk h1.hp ne2
  have b3 : Below w0.heap.size w0 w3 := Kp.low h1.bel kg (fun k e => h1.vB k e.symm) h1.bel.size
  refine ⟨⟨blk_cell g3 rfl, blk_frozen g3, blk_lt g3⟩, ⟨Kp.low b3 (Kp.set _ _ _ _) (fun k e => by subst e; exact h.g0) b3.size, blk_set g3 0 _, blk_other p3 (Ne.symm h.ne) _, hr.kp (Kp.set _ _ _ _) (hr.ne g3 (by decide)), ?_, h.g0, h.p0⟩, ?_⟩
  · intro k e
    rcases hq with hq | ⟨q, e1, hq⟩
    · exact h.vB k (by rw [← hq]; exact e)
    · rw [e1] at e
      simp at e
      have := h1.bel.size
      omega
  · refine ((Kp.of_below hb).step kg (fun k hk e => .inr ?_)).step (Kp.set _ _ _ _) (fun k _ e => .inl e)
    exact re_ty h.re k e.symm

def TellC (w0 : World) (n : Nd) : Prop := ∀ vn, Nv w0 vn n → ∀ W g p v E, EI w0 g p v E W → E.length + (evs n).length ≤ 1000000000 → Calls Tryz.prog 29 #[vn, .pointer (some ⟨g, 0, none⟩), .pointer (some ⟨p, 0, none⟩)] W fun r w' => r = .returned (.tuple #[]) ∧ ∃ v', EI w0 g p v' (E ++ evs n) w' ∧ KT 48 g W w'
set_option maxRecDepth 100000 in
set_option maxHeartbeats 1000000 in
theorem tell_tok (w0 : World) (d : Tv) (ao : Option Addr) (nk cap : Nat) (W : World) (g p : Nat) (v : Value) (E : List Ev) (hI : EI w0 g p v E W) (hle : E.length + 1 ≤ 1000000000) : Calls Tryz.prog 29 #[ndv 0 d (.slice ao nk cap), .pointer (some ⟨g, 0, none⟩), .pointer (some ⟨p, 0, none⟩)] W fun r w' => r = .returned (.tuple #[]) ∧ ∃ v', EI w0 g p v' (E ++ [tkE d]) w' ∧ KT 48 g W w' := by
  have HI : Hid (EI w0 g p v E W) := hI
  obtain ⟨pv, cv, hv, _⟩ := hI.re.shape
  subst hv
  have HTk : Hid (∀ V, Calls Tryz.prog 30 #[ndv 0 d (.slice ao nk cap)] V fun r w' => r = .returned (.bool true) ∧ Below V.heap.size V w') := fun V => isTok_any 0 d ao nk cap V
  have HKf : Hid (∀ V, Calls Tryz.prog 31 #[.agg #[.int .u8 d.k, .string d.t, .int .i64 d.a, .int .i64 d.l, .int .i64 d.c, .int .i64 d.f]] V fun r w' => r = .returned (.int .u8 (kof d)) ∧ Below V.heap.size V w') := fun V => kindOf_any d V
  have hle1 : E.length ≤ 1000000000 := by omega
  obtain ⟨W1, eW⟩ : ∃ W1, W1 = W.alloc (NdB 0 d (.slice ao nk cap)) := ⟨_, rfl⟩
  have HB1 : Hid (Below W.heap.size W W1 ∧ W1.heap[W.heap.size]? = some (NdB 0 d (.slice ao nk cap))) := by rw [eW]; exact ⟨below_new _ _, new_at _ _⟩
  clear hI
  rw [tkE_kof]
  obtain ⟨kd, hkd⟩ : ∃ kd, kof d = kd := ⟨_, rfl⟩
  rw [hkd] at HKf ⊢
  clear hkd
  go_enter Tryz.func29, Tryz.ntmps29
  go_wp2_with fail
  try rw [← eW]
  clear eW
  refine (HTk.out _).mono ?_
  rintro r w2 ⟨rfl, hb2⟩
  have H2 : Hid (EI w0 g p (.slice pv E.length cv) E w2 ∧ Below W.heap.size W w2) := ⟨HI.out.below (HB1.out.1.trans (hb2.mono HB1.out.1.size)), HB1.out.1.trans (hb2.mono HB1.out.1.size)⟩
  have t0 : w2.heap[W.heap.size]? = some (NdB 0 d (.slice ao nk cap)) := blk_below HB1.out.2 hb2
  have HC : Hid (∀ V, Below w2.heap.size w2 V → V.cell? ⟨W.heap.size, 1, none⟩ = some (.int .u8 d.k) ∧ V.cell? ⟨W.heap.size, 2, none⟩ = some (.string d.t) ∧ V.cell? ⟨W.heap.size, 3, none⟩ = some (.int .i64 d.a) ∧ V.cell? ⟨W.heap.size, 4, none⟩ = some (.int .i64 d.l) ∧ V.cell? ⟨W.heap.size, 5, none⟩ = some (.int .i64 d.c) ∧ V.cell? ⟨W.heap.size, 6, none⟩ = some (.int .i64 d.f) ∧ V.cell? ⟨g, 0, none⟩ = some (.slice pv E.length cv) ∧ W.heap.size < V.heap.size ∧ g < V.heap.size) := fun V hb => by
    have t := blk_below t0 hb
    have u := blk_below H2.out.1.hg hb
    exact ⟨blk_cell t rfl, blk_cell t rfl, blk_cell t rfl, blk_cell t rfl, blk_cell t rfl, blk_cell t rfl, blk_cell u rfl, blk_lt t, blk_lt u⟩
  have HP : Hid (∀ w4 q cp w3, Below w2.heap.size w2 w4 → Re w3 (.slice (some ⟨q, 0, none⟩) (E.length + 1) cp) (E ++ [⟨kd, 0, d⟩]) → w4.grownBy w3 (Value.slice pv E.length cv).ownBlock → Nb w4 (.slice pv E.length cv) (.slice (some ⟨q, 0, none⟩) (E.length + 1) cp) → (w3.cell? ⟨g, 0, none⟩ = some (.slice pv E.length cv) ∧ w3.frozen? ⟨g, 0, none⟩ = false ∧ g < w3.heap.size) ∧ EI w0 g p (.slice (some ⟨q, 0, none⟩) (E.length + 1) cp) (E ++ [⟨kd, 0, d⟩]) (w3.setCell ⟨g, 0, none⟩ (.slice (some ⟨q, 0, none⟩) (E.length + 1) cp)) ∧ KT 48 g W (w3.setCell ⟨g, 0, none⟩ (.slice (some ⟨q, 0, none⟩) (E.length + 1) cp))) := fun w4 q cp w3 hb h1 h2 h3 => by
    obtain ⟨a1, a2, a3⟩ := H2.out.1.push hb h1 h2 h3
    exact ⟨a1, a2, (KT.of_below H2.out.2).trans a3⟩
  have HR : Hid (∀ V, Below w2.heap.size w2 V → Re V (.slice pv E.length cv) E) := fun V hb => H2.out.1.re.below hb
  clear hb2 t0
  obtain ⟨c1, c2, c3, c4, c5, c6, c7, c8, c9⟩ := HC.out w2 (Below.refl _ _)
  go_wp2_with fail
  go_region_law (first | (refine step_ev (by rfl) _ _ (by rfl) (.slice pv E.length cv) E ⟨kd, 0, d⟩ (by rfl) (HR.out _ (H4.out.trans ((below_new _ _).mono H4.out.size))) w4.heap.size 1 (by rfl) (new_at w4 _) hle1 ?_; intro q cp w3 h1 h2 h3; obtain ⟨⟨x1, x2, x3⟩, x4⟩ := HP.out _ q cp w3 (H4.out.trans ((below_new _ _).mono H4.out.size)) h1 h2 h3; have HX := show Hid _ from x4; clear x4 h1 h2 h3) | (go_simp; go_at_call 31; refine (HKf.out _).mono ?_; rintro r w4 ⟨rfl, hb4⟩; have H4 : Hid (Below w2.heap.size w2 w4) := (Below.refl _ _).drew.trans (hb4.mono (Nat.le_refl _)); obtain ⟨d1, d2, d3, d4, d5, d6, d7, d8, d9⟩ := HC.out w4 H4.out; clear hb4))
  all_goals (
    go_wp2_with fail
    first | go_end0 | (refine bodyPost_ret (results_none rfl _ _ _) rfl ?_)
    exact ⟨rfl, _, HX.out⟩)

end Go.Proofs.YtkigadnkclkopaaGreat

set_option linter.unusedVariables false
set_option linter.unusedSimpArgs false
namespace Go.Proofs.YtkigadnkclkopaaGreat
open Go.RowKit

set_option maxRecDepth 100000 in
set_option maxHeartbeats 1000000 in
theorem tell_step (w0 : World) (n : Nd) (IH : ∀ m, m ∈ n.c → TellC w0 m) : TellC w0 n := by
  intro vn h W g p v E hI hle
  obtain ⟨ao, cap, rfl, q1, q2, q3, q4⟩ := h
  have HI : Hid (EI w0 g p v E W) := hI
  obtain ⟨k, d, c⟩ := n
  dsimp only [Nd.k, Nd.d, Nd.c] at *
  by_cases hk : k = 0
  · subst hk
    have e : evs (.mk 0 d c) = [tkE d] := by simp [evs]
    rw [e] at hle ⊢
    exact tell_tok w0 d ao c.length cap W g p v E hI (by simpa using hle)
  · have e : evs (.mk k d c) = ⟨1, k, tv0⟩ :: (evsL c ++ [⟨3, k, tv0⟩]) := by simp [evs, hk]
    have hkb : (k == 0) = false := by simpa using hk
    obtain ⟨pv, cv, hv, _⟩ := hI.re.shape
    subst hv
    have HTk : Hid (∀ V, Calls Tryz.prog 30 #[ndv k d (.slice ao c.length cap)] V fun r w' => r = .returned (.bool false) ∧ Below V.heap.size V w') := fun V => by have := isTok_any k d ao c.length cap V; rw [hkb] at this; exact this
    have hlc : E.length + (evsL c).length + 2 ≤ 1000000000 := by rw [e] at hle; simp at hle; omega
    have HEV : Hid (E ++ evs (.mk k d c) = (E ++ [⟨1, k, tv0⟩] ++ evsL c) ++ [⟨3, k, tv0⟩]) := (by rw [e]; simp : E ++ evs (.mk k d c) = (E ++ [⟨1, k, tv0⟩] ++ evsL c) ++ [⟨3, k, tv0⟩])
    have HIH : Hid (∀ m, m ∈ c → TellC w0 m) := IH
    have HQ : Hid ((ao = none → c = []) ∧ ∀ a, ao = some a → c = [] ∨ ∃ b o, a = ⟨b, o, none⟩ ∧ HL w0 b o c) := ⟨q3, q4⟩
    have hcl : (c.length : Int) ≤ 9223372036854775807 := by have : maxLen = 9223372036854775807 := rfl; omega
    have hng : W.heap.size ≠ g := fun e => by have := blk_lt HI.out.hg; omega
    obtain ⟨W1, eW⟩ : ∃ W1, W1 = W.alloc (NdB k d (.slice ao c.length cap)) := ⟨_, rfl⟩
    have HB1 : Hid (Below W.heap.size W W1 ∧ W1.heap[W.heap.size]? = some (NdB k d (.slice ao c.length cap))) := by rw [eW]; exact ⟨below_new _ _, new_at _ _⟩
    clear hI hle q3 q4 IH e
    go_enter Tryz.func29, Tryz.ntmps29
    go_wp2_with fail
    try rw [← eW]
    clear eW
    refine (HTk.out _).mono ?_
    rintro r w2 ⟨rfl, hb2⟩
    have H2 : Hid (EI w0 g p (.slice pv E.length cv) E w2 ∧ KT 48 g W w2) := ⟨HI.out.below (HB1.out.1.trans (hb2.mono HB1.out.1.size)), KT.of_below (HB1.out.1.trans (hb2.mono HB1.out.1.size))⟩
    have HN2 : Hid (w2.heap[W.heap.size]? = some (NdB k d (.slice ao c.length cap))) := blk_below HB1.out.2 hb2
    have y0 : w2.cell? ⟨W.heap.size, 0, none⟩ = some (.int .u8 k) := blk_cell HN2.out rfl
    have yg : w2.cell? ⟨g, 0, none⟩ = some (.slice pv E.length cv) := blk_cell H2.out.1.hg rfl
    have ygl := blk_lt H2.out.1.hg
    have yl := blk_lt HN2.out
    have hlE : E.length ≤ 1000000000 := by omega
    clear hb2 HB1
    go_wp2_with (at_builtin; refine app_ev (by rfl) _ _ (by rfl) (.slice pv E.length cv) E ⟨1, k, tv0⟩ (by rfl) (H2.out.1.re.below (below_new _ _)) w2.heap.size 1 (by rfl) (new_at _ _) hlE ?_; intro v' w3 h1 h2 h3; obtain ⟨p3, c3, hv3, _⟩ := h1.shape; subst hv3; obtain ⟨⟨x1, x2, x3⟩, x4, x5⟩ := H2.out.1.push (below_new _ _) h1 h2 h3; have H3 : Hid (EI w0 g p (.slice p3 (E ++ [(⟨1, k, tv0⟩ : Ev)]).length c3) (E ++ [⟨1, k, tv0⟩]) (w3.setCell ⟨g, 0, none⟩ (.slice p3 (E ++ [(⟨1, k, tv0⟩ : Ev)]).length c3)) ∧ KT 48 g W (w3.setCell ⟨g, 0, none⟩ (.slice p3 (E ++ [(⟨1, k, tv0⟩ : Ev)]).length c3)) ∧ (w3.setCell ⟨g, 0, none⟩ (.slice p3 (E ++ [(⟨1, k, tv0⟩ : Ev)]).length c3)).heap[W.heap.size]? = some (NdB k d (.slice ao c.length cap))) := ⟨x4, H2.out.2.trans x5, x5.blk HN2.out hng (by decide)⟩; have x6 : w3.cell? ⟨W.heap.size, 7, none⟩ = some (.slice ao c.length cap) := blk_cell ((Kp.of_grown h2).blk (blk_below HN2.out (below_new _ _)) (fun e => H2.out.1.re.ne HN2.out (by decide) _ e.symm rfl)) rfl; have x7 : W.heap.size < w3.heap.size := World.block_lt_of_cell? _ _ x6; clear x4 x5 h1 h2 h3)
    obtain ⟨w4, e4⟩ : ∃ w4, w3.setCell ⟨g, 0, none⟩ (.slice p3 (E.length + 1) c3) = w4 := ⟨_, rfl⟩
    have H4 : Hid (EI w0 g p (.slice p3 (E ++ [(⟨1, k, tv0⟩ : Ev)]).length c3) (E ++ [⟨1, k, tv0⟩]) w4 ∧ KT 48 g W w4 ∧ w4.heap[W.heap.size]? = some (NdB k d (.slice ao c.length cap))) := by
      have := H3.out
      rw [show (E ++ [(⟨1, k, tv0⟩ : Ev)]).length = E.length + 1 by simp] at this ⊢
      rw [e4] at this
      exact this
    rw [e4]
    clear e4 H3 x1 x2 x3 x6 x7 y0 yg ygl yl
    go_loopw [26] (fun iv wr => ∃ j : Nat, j ≤ c.length ∧ iv = .int .i64 j ∧ Hid (∃ v', EI w0 g p v' (E ++ [⟨1, k, tv0⟩] ++ evsL (c.take j)) wr ∧ KT 48 g W wr ∧ wr.heap[W.heap.size]? = some (NdB k d (.slice ao c.length cap)))) (fun iv _ => c.length - (intOf iv).toNat)
    case atStart => exact ⟨0, Nat.zero_le _, rfl, _, by simpa [evsL] using H4.out⟩
    case round =>
      obtain ⟨j, hj, rfl, HJ0⟩ := hrel
      obtain ⟨vj, hJ⟩ := HJ0.out
      have HJ := show Hid _ from hJ
      clear HJ0 hJ
      have hll := evsL_le (c := c) (j := j)
      by_cases hlt : j < c.length
      · have z1 : (j : Int) < c.length := by omega
        have z2 : (0 : Int) ≤ j := by omega
        obtain ⟨m, hm⟩ : ∃ m, c[j]? = some m := ⟨_, List.getElem?_eq_getElem hlt⟩
        have hmm : m ∈ c := List.mem_of_getElem? hm
        obtain ⟨b, o, rfl, hbl, ao2, cap2, ⟨v0, v1, v2, v3, v4, v5, v6, v7⟩, hv⟩ := kid0 HQ.out HJ.out.1.bel hm
        have yp : wr.cell? ⟨p, 0, none⟩ = some (tellF g p) := blk_cell HJ.out.1.hp rfl
        have ypl : p < wr.heap.size := blk_lt HJ.out.1.hp
        have ht := evsL_take hm
        have hll2 := evsL_le (c := c) (j := j + 1)
        rw [ht] at hll2
        have HC : Hid (∀ V, EI w0 g p vj (E ++ [⟨1, k, tv0⟩] ++ evsL (c.take j)) V → Calls Tryz.prog 29 #[ndv m.k m.d (.slice ao2 m.c.length cap2), .pointer (some ⟨g, 0, none⟩), .pointer (some ⟨p, 0, none⟩)] V fun r w' => r = .returned (.tuple #[]) ∧ ∃ v', EI w0 g p v' (E ++ [⟨1, k, tv0⟩] ++ evsL (c.take (j + 1))) w' ∧ KT 48 g V w') := fun V hV => by
          have := HIH.out m hmm _ hv V g p _ _ hV (by simp at hll2 ⊢; omega)
          rw [ht, ← List.append_assoc]
          exact this
        clear hm hmm hv ht hll2
        obtain ⟨W5, eW5⟩ : ∃ W5, W5 = wr.alloc (NdB m.k m.d (.slice ao2 m.c.length cap2)) := ⟨_, rfl⟩
        have H5 : Hid (Below wr.heap.size wr W5) := by rw [eW5]; exact below_new _ _
        go_wp2_with fail
        try rw [← eW5]
        refine (HC.out _ (HJ.out.1.below H5.out)).mono ?_
        rintro r w6 ⟨rfl, v', h6, k6⟩
        have H6 : Hid (∃ v', EI w0 g p v' (E ++ [⟨1, k, tv0⟩] ++ evsL (c.take (j + 1))) w6 ∧ KT 48 g W w6 ∧ w6.heap[W.heap.size]? = some (NdB k d (.slice (some ⟨b, o, none⟩) c.length cap))) := ⟨v', h6, HJ.out.2.1.trans ((KT.of_below H5.out).trans k6), k6.blk (blk_below HJ.out.2.2 H5.out) hng (by decide)⟩
        clear h6 k6 eW5
        go_wp2_with fail
        exact ⟨⟨j + 1, hlt, by go_num, H6⟩, by simp [intOf]; omega⟩
      · obtain rfl : j = c.length := by omega
        have z1 : ¬ ((c.length : Int) < c.length) := by omega
        rw [List.take_length] at HJ hll
        have HZ : Hid ((E ++ [(⟨1, k, tv0⟩ : Ev)] ++ evsL c).length ≤ 1000000000) := (by simp; omega : (E ++ [(⟨1, k, tv0⟩ : Ev)] ++ evsL c).length ≤ 1000000000)
        obtain ⟨pl, cl, hvl, _⟩ := HJ.out.1.re.shape
        obtain ⟨nl, hnl⟩ : ∃ nl, (E ++ [(⟨1, k, tv0⟩ : Ev)] ++ evsL c).length = nl := ⟨_, rfl⟩
        rw [hnl] at hvl
        subst hvl
        have u0 : wr.cell? ⟨W.heap.size, 0, none⟩ = some (.int .u8 k) := blk_cell HJ.out.2.2 rfl
        have ug : wr.cell? ⟨g, 0, none⟩ = some (.slice pl nl cl) := blk_cell HJ.out.1.hg rfl
        have ul := blk_lt HJ.out.2.2
        have ugl := blk_lt HJ.out.1.hg
        clear hnl
        go_wp2_with (at_builtin; refine app_ev (by rfl) _ _ (by rfl) (.slice pl nl cl) (E ++ [⟨1, k, tv0⟩] ++ evsL c) ⟨3, k, tv0⟩ (by rfl) (HJ.out.1.re.below (below_new _ _)) wr.heap.size 1 (by rfl) (new_at _ _) HZ.out ?_; intro v' w5 h1 h2 h3; obtain ⟨p5, c5, hv5, _⟩ := h1.shape; obtain ⟨nl5, hnl5⟩ : ∃ nl5, ((E ++ [(⟨1, k, tv0⟩ : Ev)] ++ evsL c) ++ [(⟨3, k, tv0⟩ : Ev)]).length = nl5 := ⟨_, rfl⟩; rw [hnl5] at hv5; subst hv5; obtain ⟨⟨x1, x2, x3⟩, x4, x5⟩ := HJ.out.1.push (below_new _ _) h1 h2 h3; have HX : Hid (EI w0 g p (.slice p5 nl5 c5) (E ++ evs (.mk k d c)) (w5.setCell ⟨g, 0, none⟩ (.slice p5 nl5 c5)) ∧ KT 48 g W (w5.setCell ⟨g, 0, none⟩ (.slice p5 nl5 c5))) := ⟨by rw [HEV.out]; exact x4, HJ.out.2.1.trans x5⟩; clear x4 x5 h1 h2 h3 hnl5)
        go_end0
        exact ⟨rfl, ⟨_, HX.out.1⟩, HX.out.2⟩
theorem tell_any (w0 : World) (n : Nd) : TellC w0 n := by
  obtain ⟨s, hs⟩ : ∃ s, nsz n = s := ⟨_, rfl⟩
  induction s using Nat.strongRecOn generalizing n with
  | ind s ih => exact tell_step w0 n (fun m hm => ih (nsz m) (by rw [← hs]; exact nsz_kid hm) m rfl)
theorem ei_start (W : World) (o : Obj) : EI W (W.heap.size + 1) (W.heap.size + 1 + 1) (.slice none 0 0) [] (((W.alloc o).alloc (.cells #[.slice none 0 0] 41)).alloc (.cells #[tellF (W.heap.size + 1) (W.heap.size + 1 + 1)] 37)) := by
  have e1 := size_al W o
  have e2 := size_al (W.alloc o) (.cells #[.slice none 0 0] 41)
  have b1 := below_new W o
  have b2 := below_new (W.alloc o) (.cells #[.slice none 0 0] 41)
  have b3 := below_new ((W.alloc o).alloc (.cells #[.slice none 0 0] 41)) (.cells #[tellF (W.heap.size + 1) (W.heap.size + 1 + 1)] 37)
  refine ⟨(b1.trans (b2.mono b1.size)).trans (b3.mono (by omega)), ?_, ?_, re_nil _, (fun k e => by cases e), by omega, by omega⟩
  · refine alloc_at' ?_ _
    rw [← e1]
    exact new_at _ _
  · rw [← e1, ← e2]
    exact new_at _ _
set_option maxRecDepth 100000 in
theorem events_any (n : Nd) (vn : Value) (W : World) (h : Nv W vn n) (hl : (evs n).length ≤ 1000000000) : Calls Tryz.prog 13 #[vn] W fun r w' => ∃ v', r = .returned v' ∧ BI W v' (evs n) w' := by
  have hmf : ∀ (fn : Fn) (first cap : Array Value) (w : World), (Instr.makeFunc fn first cap).run Tryz.prog w = .ok (.func fn first cap) w := fun _ _ _ _ => rfl
  have HL : Hid (∀ V, EI W (W.heap.size + 1) (W.heap.size + 1 + 1) (.slice none 0 0) [] V → Calls Tryz.prog 29 #[vn, .pointer (some ⟨W.heap.size + 1, 0, none⟩), .pointer (some ⟨W.heap.size + 1 + 1, 0, none⟩)] V fun r w' => r = .returned (.tuple #[]) ∧ ∃ v', EI W (W.heap.size + 1) (W.heap.size + 1 + 1) v' (evs n) w') := fun V hV => by
    refine (tell_any W n vn h V _ _ _ _ hV (by simpa using hl)).mono ?_
    rintro r w' ⟨rfl, v', h1, _⟩
    exact ⟨rfl, v', by simpa using h1⟩
  obtain ⟨ao, cap, rfl, _⟩ := h
  go_enter Tryz.func13, Tryz.ntmps13
  go_wp2_with fail
  refine (HL.out _ (ei_start W _)).mono ?_
  rintro r w1 ⟨rfl, v', h1⟩
  obtain ⟨pv, cv, hv, _⟩ := h1.re.shape
  obtain ⟨nl, hnl⟩ : ∃ nl, (evs n).length = nl := ⟨_, rfl⟩
  rw [hnl] at hv
  subst hv
  have yg : w1.cell? ⟨W.heap.size + 1, 0, none⟩ = some (.slice pv nl cv) := blk_cell h1.hg rfl
  have ygl : W.heap.size + 1 < w1.heap.size := blk_lt h1.hg
  have H1 : Hid (BI W (.slice pv nl cv) (evs n) w1) := ⟨h1.bel, h1.re, h1.vB⟩
  clear h1 HL hnl
  go_wp2_with fail
  go_ret
  exact ⟨_, rfl, H1.out⟩
end Go.Proofs.YtkigadnkclkopaaGreat

set_option linter.unusedVariables false
set_option linter.unusedSimpArgs false
namespace Go.Proofs.YtkigadnkclkopaaGreat
open Go.RowKit

/-! Trees in rows of their own; events as a reader sees them; what reading a node makes (none of a walk). -/
def nc (n : Nd) (s : Value) : List Value := [.int .u8 n.k, .int .u8 n.d.k, .string n.d.t, .int .i64 n.d.a, .int .i64 n.d.l, .int .i64 n.d.c, .int .i64 n.d.f, s]
theorem nc_len (x : Nd × Value) : (nc x.1 x.2).length = 8 := rfl
def ncs (c : List Nd) (vs : List Value) : List Value := flat (fun x : Nd × Value => nc x.1 x.2) (c.zip vs)
theorem ncs_len (c : List Nd) (vs : List Value) (h : vs.length = c.length) : (ncs c vs).length = c.length * 8 := by
  unfold ncs
  rw [flat_len _ 8 nc_len, List.length_zip, h, Nat.min_self]
theorem ncs_app (c : List Nd) (vs : List Value) (h : vs.length = c.length) (n : Nd) (s : Value) : ncs (c ++ [n]) (vs ++ [s]) = ncs c vs ++ nc n s := by
  unfold ncs
  rw [List.zip_append h.symm, flat_append]
  simp [flat]
theorem ncs_at {c : List Nd} {vs : List Value} {j i : Nat} {n : Nd} {s u : Value} (hn : c[j]? = some n) (hs : vs[j]? = some s) (hu : (nc n s)[i]? = some u) : (ncs c vs)[j * 8 + i]? = some u := by
  refine flat_at _ 8 nc_len _ j i (n, s) u ?_ hu
  rw [List.getElem?_zip_eq_some]
  exact ⟨hn, hs⟩
/-- A row of nodes of its own. -/
def RN (W : World) (sv : Value) (c : List Nd) (vs : List Value) : Prop := vs.length = c.length ∧ W.ownsRow 0 32 8 sv c.length (ncs c vs)
theorem RN.shape {W : World} {sv : Value} {c : List Nd} {vs : List Value} (h : RN W sv c vs) : ∃ p cap, sv = .slice p c.length cap ∧ c.length ≤ cap ∧ cap ≤ maxLen := row_shape h.2
theorem RN.kp {S : Nat → Prop} {W W' : World} {sv : Value} {c : List Nd} {vs : List Value} (h : RN W sv c vs) (hk : Kp S W W') (hS : ∀ k, sv.ownBlock = some k → ¬ S k) : RN W' sv c vs := ⟨h.1, hk.row h.2 hS⟩
theorem RN.lt {W : World} {sv : Value} {c : List Nd} {vs : List Value} (h : RN W sv c vs) : ∀ k, sv.ownBlock = some k → k < W.heap.size := by
  intro k hk
  rcases h.2.2 with ⟨rfl, _⟩ | ⟨b, cap, cur, rfl, _, h3, _⟩
  · cases hk
  · simp only [Value.ownBlock, Option.some.injEq] at hk
    subst hk
    exact blk_lt h3
theorem rn_nil (W : World) : RN W (.slice none 0 0) [] [] := ⟨rfl, World.ownsRow_nil W 0 32 8⟩
mutual
/-- The row of a node's kids, and of theirs: all their blocks are of O. -/
def TN (O : Nat → Prop) (W : World) : Nd → Value → Prop
  | .mk _ _ c, sv => ∃ vs, RN W sv c vs ∧ (∀ k, sv.ownBlock = some k → O k) ∧ TL O W c vs
def TL (O : Nat → Prop) (W : World) : List Nd → List Value → Prop
  | [], vs => vs = []
  | n :: r, vs => ∃ x vr, vs = x :: vr ∧ TN O W n x ∧ TL O W r vr
end
theorem tn_nil (O : Nat → Prop) (W : World) (k : Int) (d : Tv) : TN O W (.mk k d []) (.slice none 0 0) := by
  rw [TN]
  exact ⟨[], rn_nil W, (fun k hk => by cases hk), by rw [TL]⟩
mutual
theorem TN.kp {O S : Nat → Prop} {W W' : World} (hk : Kp S W W') (hS : ∀ k, O k → ¬ S k) : ∀ (n : Nd) (x : Value), TN O W n x → TN O W' n x
  | .mk _ _ c, x, h => by
    rw [TN] at h ⊢
    obtain ⟨vs, h1, h2, h3⟩ := h
    exact ⟨vs, h1.kp hk (fun k e => hS k (h2 k e)), h2, TL.kp hk hS c vs h3⟩
theorem TL.kp {O S : Nat → Prop} {W W' : World} (hk : Kp S W W') (hS : ∀ k, O k → ¬ S k) : ∀ (c : List Nd) (vs : List Value), TL O W c vs → TL O W' c vs
  | [], vs, h => by rw [TL] at h ⊢; exact h
  | n :: r, vs, h => by
    rw [TL] at h ⊢
    obtain ⟨x, vr, h1, h2, h3⟩ := h
    exact ⟨x, vr, h1, TN.kp hk hS n x h2, TL.kp hk hS r vr h3⟩
end
mutual
theorem TN.sub {O O' : Nat → Prop} {W : World} (hS : ∀ k, k < W.heap.size → O k → O' k) : ∀ (n : Nd) (x : Value), TN O W n x → TN O' W n x
  | .mk _ _ c, x, h => by
    rw [TN] at h ⊢
    obtain ⟨vs, h1, h2, h3⟩ := h
    exact ⟨vs, h1, fun k e => hS k (h1.lt k e) (h2 k e), TL.sub hS c vs h3⟩
theorem TL.sub {O O' : Nat → Prop} {W : World} (hS : ∀ k, k < W.heap.size → O k → O' k) : ∀ (c : List Nd) (vs : List Value), TL O W c vs → TL O' W c vs
  | [], vs, h => by rw [TL] at h ⊢; exact h
  | n :: r, vs, h => by
    rw [TL] at h ⊢
    obtain ⟨x, vr, h1, h2, h3⟩ := h
    exact ⟨x, vr, h1, TN.sub hS n x h2, TL.sub hS r vr h3⟩
end
theorem TL.len {O : Nat → Prop} {W : World} : ∀ {c : List Nd} {vs : List Value}, TL O W c vs → vs.length = c.length
  | [], vs, h => by rw [TL] at h; rw [h]; rfl
  | n :: r, vs, h => by
    rw [TL] at h
    obtain ⟨x, vr, rfl, _, h3⟩ := h
    simp [TL.len h3]
theorem TL.app {O : Nat → Prop} {W : World} {n : Nd} {x : Value} (hn : TN O W n x) : ∀ {c : List Nd} {vs : List Value}, TL O W c vs → TL O W (c ++ [n]) (vs ++ [x])
  | [], vs, h => by
    rw [TL] at h
    subst h
    rw [List.nil_append, List.nil_append, TL]
    exact ⟨x, [], rfl, hn, by rw [TL]⟩
  | m :: r, vs, h => by
    rw [TL] at h
    obtain ⟨y, vr, rfl, h2, h3⟩ := h
    rw [List.cons_append, List.cons_append, TL]
    exact ⟨y, vr ++ [x], rfl, h2, TL.app hn h3⟩
theorem TL.at {O : Nat → Prop} {W : World} : ∀ {c : List Nd} {vs : List Value} {j : Nat} {n : Nd}, TL O W c vs → c[j]? = some n → ∃ x, vs[j]? = some x ∧ TN O W n x
  | [], vs, j, n, h, hj => by simp at hj
  | m :: r, vs, 0, n, h, hj => by
    rw [TL] at h
    obtain ⟨y, vr, rfl, h2, h3⟩ := h
    simp at hj
    subst hj
    exact ⟨y, rfl, h2⟩
  | m :: r, vs, j + 1, n, h, hj => by
    rw [TL] at h
    obtain ⟨y, vr, rfl, h2, h3⟩ := h
    obtain ⟨x, a, b⟩ := TL.at h3 (j := j) (n := n) (by simpa using hj)
    exact ⟨x, by simpa using a, b⟩
theorem RN.cell {W : World} {sv : Value} {c : List Nd} {vs : List Value} (h : RN W sv c vs) {g n cap : Nat} (hv : sv = .slice (some ⟨g, 0, none⟩) n cap) {j i : Nat} {m : Nd} {s u : Value} (hn : c[j]? = some m) (hs : vs[j]? = some s) (hu : (nc m s)[i]? = some u) : W.cell? ⟨g, j * 8 + i, none⟩ = some u := by
  have := h.2.cells (g := g) (n := c.length) (by rw [hv]; rfl) (j * 8 + i) u (ncs_at hn hs hu)
  rw [Addr.add_lit, Nat.zero_add] at this
  exact this
theorem Nd.eta (n : Nd) : n = .mk n.k n.d n.c := by obtain ⟨k, d, c⟩ := n; rfl
/-- Read, a tree of its own is a tree. -/
theorem TN.see {O : Nat → Prop} {W : World} (n : Nd) : ∀ (x : Value), TN O W n x → Nv W (ndv n.k n.d x) n := by
  obtain ⟨s, hs⟩ : ∃ s, nsz n = s := ⟨_, rfl⟩
  induction s using Nat.strongRecOn generalizing n with
  | ind s ih =>
    intro x h
    obtain ⟨k, d, c⟩ := n
    rw [TN] at h
    obtain ⟨vs, h1, _, h3⟩ := h
    have hr := h1.2.2
    rcases hr with ⟨e1, e2⟩ | ⟨b, cap, cur, e1, _, e3, e4, e5, _⟩
    · have : c = [] := List.eq_nil_of_length_eq_zero e2
      subst this
      subst e1
      exact ⟨none, 0, rfl, Nat.le_refl _, Nat.zero_le _, (fun _ => rfl), (fun a ha => by cases ha)⟩
    · refine ⟨some ⟨b, 0, none⟩, cap, by rw [e1]; rfl, e4, e5, (fun h => by cases h), fun a ha => ?_⟩
      cases ha
      refine .inr ⟨b, 0, rfl, hl_of (fun j m hj => ?_)⟩
      obtain ⟨y, hy, hm⟩ := TL.at h3 hj
      obtain ⟨ao, cp, q0, q1, q2, q3, q4⟩ := ih (nsz m) (by rw [← hs]; exact nsz_kid (List.mem_of_getElem? hj)) m rfl y hm
      have q0' : y = .slice ao m.c.length cp := by
        simp only [ndv, Value.agg.injEq] at q0
        have := congrArg (fun a : Array Value => a[7]?) q0
        simpa using this
      subst q0'
      have hc : ∀ i u, (nc m (.slice ao m.c.length cp))[i]? = some u → W.cell? ⟨b, 0 + j * 8 + i, none⟩ = some u := fun i u hu => by
        rw [Nat.zero_add]
        exact h1.cell e1 hj hy hu
      have hc0 := hc 0 _ rfl
      obtain ⟨mk', md, mc⟩ := m
      rw [HN]
      exact ⟨⟨hc0, hc 1 _ rfl, hc 2 _ rfl, hc 3 _ rfl, hc 4 _ rfl, hc 5 _ rfl, hc 6 _ rfl⟩, ao, cp, hc 7 _ rfl, q1, q2, q3, q4⟩

/-- The events that a slice holds. -/
def Le (w : World) (ao : Option Addr) (l : List Ev) : Prop := ∀ j d, l[j]? = some d → ∃ b off, ao = some ⟨b, off, none⟩ ∧
  w.cell? ⟨b, off + j * 8, none⟩ = some (.int .u8 d.k) ∧ w.cell? ⟨b, off + j * 8 + 1, none⟩ = some (.int .u8 d.n) ∧ w.cell? ⟨b, off + j * 8 + 2, none⟩ = some (.int .u8 d.d.k) ∧ w.cell? ⟨b, off + j * 8 + 3, none⟩ = some (.string d.d.t) ∧ w.cell? ⟨b, off + j * 8 + 4, none⟩ = some (.int .i64 d.d.a) ∧ w.cell? ⟨b, off + j * 8 + 5, none⟩ = some (.int .i64 d.d.l) ∧ w.cell? ⟨b, off + j * 8 + 6, none⟩ = some (.int .i64 d.d.c) ∧ w.cell? ⟨b, off + j * 8 + 7, none⟩ = some (.int .i64 d.d.f)
theorem Le.kp {S : Nat → Prop} {w w' : World} {ao : Option Addr} {l : List Ev} (h : Le w ao l) (hb : Kp S w w') (hS : ∀ a, ao = some a → ¬ S a.block) : Le w' ao l := by
  intro j a ha
  obtain ⟨b, off, h1, c0, c1, c2, c3, c4, c5, c6, c7⟩ := h j a ha
  have hlt := World.block_lt_of_cell? _ _ c0
  have e : w'.heap[b]? = w.heap[b]? := hb.block b hlt (hS _ h1)
  exact ⟨b, off, h1, (World.cell?_of_block (a := ⟨b, _, none⟩) e).trans c0, (World.cell?_of_block (a := ⟨b, _, none⟩) e).trans c1, (World.cell?_of_block (a := ⟨b, _, none⟩) e).trans c2, (World.cell?_of_block (a := ⟨b, _, none⟩) e).trans c3, (World.cell?_of_block (a := ⟨b, _, none⟩) e).trans c4, (World.cell?_of_block (a := ⟨b, _, none⟩) e).trans c5, (World.cell?_of_block (a := ⟨b, _, none⟩) e).trans c6, (World.cell?_of_block (a := ⟨b, _, none⟩) e).trans c7⟩
theorem Le.below {w w' : World} {ao : Option Addr} {l : List Ev} (h : Le w ao l) (hb : Below w.heap.size w w') : Le w' ao l := h.kp (Kp.of_below (S := fun _ => False) hb) (fun _ _ h => h)
theorem Le.row {w : World} {v : Value} {l : List Ev} (h : Re w v l) : ∃ ao cap, v = .slice ao l.length cap ∧ Le w ao l ∧ (ao = none ∨ ∃ g, ao = some ⟨g, 0, none⟩ ∧ g < w.heap.size) ∧ l.length ≤ cap ∧ cap ≤ maxLen := by
  rcases h.2 with ⟨rfl, h0⟩ | ⟨g, cap, cur, rfl, hb, hg, h3, h4, h5, h6⟩
  · have : l = [] := List.eq_nil_of_length_eq_zero h0
    subst this
    exact ⟨none, 0, rfl, fun j d h => by simp at h, .inl rfl, Nat.zero_le _, Nat.zero_le _⟩
  · refine ⟨some ⟨g, 0, none⟩, cap, rfl, ?_, .inr ⟨g, rfl, blk_lt hg⟩, h3, h4⟩
    intro j d hj
    have hc : ∀ (i : Nat) (u : Value), d.cs[i]? = some u → w.cell? ⟨g, 0 + j * 8 + i, none⟩ = some u := fun i u hu => by
      have := World.ownsRow.cells h (g := g) rfl _ u (flat_at Ev.cs 8 Ev.cs_len l j i d _ hj hu)
      rw [Addr.add_lit, Nat.zero_add] at this
      rw [Nat.zero_add]
      exact this
    exact ⟨g, 0, rfl, hc 0 _ rfl, hc 1 _ rfl, hc 2 _ rfl, hc 3 _ rfl, hc 4 _ rfl, hc 5 _ rfl, hc 6 _ rfl, hc 7 _ rfl⟩
theorem size_ev (w : World) : (sizeOf 48).run Tryz.prog w = .ok 8 w := by kernel_rfl
/-- A slice without its first event. -/
theorem Le.tail {w : World} {ao : Option Addr} {e : Ev} {r : List Ev} {cap : Nat} (h : Le w ao (e :: r)) (hc : r.length + 1 ≤ cap) (hm : cap ≤ maxLen) :
    ∃ b off ao2 cap2, ao = some ⟨b, off, none⟩ ∧ b < w.heap.size ∧ (w.cell? ⟨b, off, none⟩ = some (.int .u8 e.k) ∧ w.cell? ⟨b, off + 1, none⟩ = some (.int .u8 e.n) ∧ w.cell? ⟨b, off + 2, none⟩ = some (.int .u8 e.d.k) ∧ w.cell? ⟨b, off + 3, none⟩ = some (.string e.d.t) ∧ w.cell? ⟨b, off + 4, none⟩ = some (.int .i64 e.d.a) ∧ w.cell? ⟨b, off + 5, none⟩ = some (.int .i64 e.d.l) ∧ w.cell? ⟨b, off + 6, none⟩ = some (.int .i64 e.d.c) ∧ w.cell? ⟨b, off + 7, none⟩ = some (.int .i64 e.d.f)) ∧
      (∀ W, (Instr.slice 41 (.slice (some ⟨b, off, none⟩) (r.length + 1) cap) (some (.int .i64 1)) none none).run Tryz.prog W = .ok (.slice ao2 r.length cap2) W) ∧ r.length ≤ cap2 ∧ cap2 ≤ maxLen ∧ Le w ao2 r := by
  obtain ⟨b, off, h1, c0, c1, c2, c3, c4, c5, c6, c7⟩ := h 0 e rfl
  have hlt := World.block_lt_of_cell? _ _ c0
  rw [Nat.zero_mul, Nat.add_zero] at c0 c1 c2 c3 c4 c5 c6 c7
  have run : ∀ W, (Instr.slice 41 (.slice (some ⟨b, off, none⟩) (r.length + 1) cap) (some (.int .i64 1)) none none).run Tryz.prog W = .ok (sliced (some ⟨b, off, none⟩) 1 (r.length + 1) cap 8) W := fun W => by
    rw [run_slice_l W 41 _ _ _ (by kernel_rfl) .i64 1 (by omega) (by omega)]
    have : Tryz.prog.elem 41 = 48 := by kernel_rfl
    rw [this, size_ev]
    rfl
  subst h1
  by_cases hz : cap = 1
  · have hr : r = [] := List.eq_nil_of_length_eq_zero (by omega)
    subst hr
    subst hz
    refine ⟨b, off, some ⟨b, off, none⟩, 0, rfl, hlt, ⟨c0, c1, c2, c3, c4, c5, c6, c7⟩, fun W => (run W).trans ?_, Nat.le_refl _, Nat.zero_le _, fun j d hj => by simp at hj⟩
    simp [sliced]
  · refine ⟨b, off, some ⟨b, off + 8, none⟩, cap - 1, rfl, hlt, ⟨c0, c1, c2, c3, c4, c5, c6, c7⟩, fun W => (run W).trans ?_, by omega, by omega, fun j d hj => ?_⟩
    · simp [sliced, hz, Addr.add_lit]
    · obtain ⟨b', off', e', x0, x1, x2, x3, x4, x5, x6, x7⟩ := h (j + 1) d (by simpa using hj)
      simp only [Option.some.injEq, Addr.mk.injEq] at e'
      obtain ⟨rfl, rfl, _⟩ := e'
      rw [show off + (j + 1) * 8 = off + 8 + j * 8 by omega] at x0 x1 x2 x3 x4 x5 x6 x7
      exact ⟨b, off + 8, rfl, x0, x1, x2, x3, x4, x5, x6, x7⟩

/-! What reading makes, by the document's steps. -/
def aft (r : List Ev) (n : Nd) : List (Int × List Nd) → Option Nd
  | [] => if n.k = 0 then none else if r = [] then some n else none
  | x :: S => bld r (putN n (x :: S))
def Aft (a : Nat) (l : List Ev) (n : Nd) (r : List Ev) : Prop := ∀ S, S.length = a → bld l S = aft r n S
def Bad (a : Nat) (l : List Ev) : Prop := ∀ S, S.length = a → bld l S = none
theorem leaf_good {a : Nat} {e : Ev} {r : List Ev} (h : e.k = kof e.d) : Aft a (e :: r) (.mk 0 e.d []) r := by
  intro S _
  have h1 : ¬ e.k = 1 := by rw [h]; unfold kof; split <;> decide
  have h3 : ¬ e.k = 3 := by rw [h]; unfold kof; split <;> decide
  have hc : (e.k = 2 ∧ cm e.d = false) ∨ (e.k = 4 ∧ cm e.d = true) := by
    rw [h]
    unfold kof
    cases hm : cm e.d
    · exact .inl ⟨by simp, rfl⟩
    · exact .inr ⟨by simp, rfl⟩
  simp only [bld]
  rw [if_neg h1, if_neg h3, if_pos hc]
  cases S with
  | nil => simp [aft, Nd.k]
  | cons x S => obtain ⟨k, c⟩ := x; simp [aft, putN]
theorem leaf_bad {a : Nat} {e : Ev} {r : List Ev} (h1 : e.k ≠ 1) (h : e.k ≠ kof e.d) (h3 : e.k = 3 → a = 0) : Bad a (e :: r) := by
  intro S hS
  simp only [bld]
  rw [if_neg h1]
  by_cases h3' : e.k = 3
  · rw [if_pos h3']
    have := h3 h3'
    have : S = [] := List.eq_nil_of_length_eq_zero (by omega)
    subst this
    rfl
  · rw [if_neg h3', if_neg]
    rintro (⟨x, y⟩ | ⟨x, y⟩)
    · exact h (by rw [x]; unfold kof; rw [y]; rfl)
    · exact h (by rw [x]; unfold kof; rw [y]; rfl)
theorem open_bad {a : Nat} {e : Ev} {r : List Ev} (h1 : e.k = 1) (h : e.n = 0 ∨ 1000 ≤ a) : Bad a (e :: r) := by
  intro S hS
  simp only [bld]
  rw [if_pos h1, if_pos (by rw [hS]; exact h)]
/-- Within a node: what came so far. -/
def Lnk (a : Nat) (l : List Ev) (k : Int) (c : List Nd) (r : List Ev) : Prop := ∀ S, S.length = a → bld l S = bld r ((k, c) :: S)
theorem open_lnk {a : Nat} {e : Ev} {r : List Ev} (h1 : e.k = 1) (h : ¬ (e.n = 0 ∨ 1000 ≤ a)) : Lnk a (e :: r) e.n [] r := by
  intro S hS
  simp only [bld]
  rw [if_pos h1, if_neg (by rw [hS]; exact h)]
theorem Lnk.kid {a : Nat} {l : List Ev} {k : Int} {c : List Nd} {r r' : List Ev} {n : Nd} (h : Lnk a l k c r) (hn : Aft (a + 1) r n r') : Lnk a l k (c ++ [n]) r' := by
  intro S hS
  rw [h S hS, hn ((k, c) :: S) (by simp [hS])]
  rfl
theorem Lnk.bad {a : Nat} {l : List Ev} {k : Int} {c : List Nd} {r : List Ev} (h : Lnk a l k c r) (hn : Bad (a + 1) r) : Bad a l := by
  intro S hS
  rw [h S hS]
  exact hn _ (by simp [hS])
theorem Lnk.nil {a : Nat} {l : List Ev} {k : Int} {c : List Nd} (h : Lnk a l k c []) : Bad a l := by
  intro S hS
  rw [h S hS]
  rfl
theorem Lnk.other {a : Nat} {l : List Ev} {k : Int} {c : List Nd} {e : Ev} {r : List Ev} (h : Lnk a l k c (e :: r)) (h3 : e.k = 3) (hn : e.n ≠ k) : Bad a l := by
  intro S hS
  rw [h S hS]
  simp only [bld]
  rw [if_neg (by rw [h3]; decide), if_pos h3]
  rw [if_neg (fun e => hn e.symm)]
theorem Lnk.shut {a : Nat} {l : List Ev} {k : Int} {c : List Nd} {e : Ev} {r : List Ev} (h : Lnk a l k c (e :: r)) (h3 : e.k = 3) (hn : e.n = k) (hk : k ≠ 0) : Aft a l (.mk k tv0 c) r := by
  intro S hS
  rw [h S hS]
  simp only [bld]
  rw [if_neg (by rw [h3]; decide), if_pos h3]
  rw [if_pos hn.symm]
  cases S with
  | nil => simp [aft, Nd.k, hk]
  | cons x S => obtain ⟨k', c'⟩ := x; simp [aft, putN]

end Go.Proofs.YtkigadnkclkopaaGreat
