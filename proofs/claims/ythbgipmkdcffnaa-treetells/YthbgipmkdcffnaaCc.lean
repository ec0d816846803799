import Derived.Test.YthbgipmkdcffnaaCb
import Derived.Deep.RegionHeld3
import Derived.Deep.RegionWith
import Derived.Deep.RegionLaw
import Derived.WalkMore
import Derived.Deep.AppendLies
set_option linter.unusedVariables false
set_option linter.unusedSimpArgs false
namespace Go.Proofs.Ythbgipmkdcffnaa
open Go.RowKit

/-! The code's Events. -/
theorem step_ev {W : World} {ops : Array Oper} {o : Oper} {a : Act} {K : Act → World → Prop} {Q : Exit → Act → World → Prop} {E : Prop} (hgd : o.guard = none) (s x : Operand)
    (ho : o.op = .call { callee := .builtin .append, args := #[s, x], argTypes := #[22, 22] }) (v : Value) (l : List Ev) (d : Ev) (hs : a.eval s = v) (hr : Re W v l)
    (g c : Nat) (hx : a.eval x = .slice (some ⟨g, 0, none⟩) 1 c) (hg : W.heap[g]? = some (.cells #[.int .u8 d.k, .int .u8 d.n, .int .u8 d.d.k, .string d.d.t, .int .i64 d.d.a, .int .i64 d.d.l, .int .i64 d.d.c, .int .i64 d.d.f] 32 (0, 0))) (hl : l.length ≤ 1000000000)
    (h : ∀ q cap w', Re w' (.slice (some ⟨q, 0, none⟩) (l.length + 1) cap) (l ++ [d]) → W.grownBy w' v.ownBlock → Nb W v (.slice (some ⟨q, 0, none⟩) (l.length + 1) cap) → K (a.put o.dst (.slice (some ⟨q, 0, none⟩) (l.length + 1) cap)) w') :
    if Region.wanted o (yielded ops a.tmps) = true then Oper.wp Try.prog o a W K Q else E := by
  obtain ⟨i0, hi, hz0, hz1, hz2⟩ := info_parts Try.info32
  refine step_append_lies W hgd s x 22 ho 0 32 i0 _ 8 64 Try.underlying22 hi hz0 hz1 hz2 rfl (by decide) v _ _ hs hr ⟨g, 0, none⟩ 1 c (ecs [d]) hx (by rw [ecs_len]; rfl) ?_ (ecs_one [d]) (by omega) (by unfold maxLen; omega) (by omega) (Nat.zero_le _) _ rfl ?_
  · intro j u hu
    refine World.news_of_block hg j u ?_
    have e : ecs [d] = [.int .u8 d.k, .int .u8 d.n, .int .u8 d.d.k, .string d.d.t, .int .i64 d.d.a, .int .i64 d.d.l, .int .i64 d.d.c, .int .i64 d.d.f] := by simp [ecs, flat, Ev.cs]
    rw [e] at hu
    simpa using hu
  · intro q cap w' a1 a2 a3 _
    refine h q cap w' ?_ a2 ?_
    · unfold Re
      rw [List.length_append, ecs_app]
      exact a1
    · rcases a3 with a3 | a3
      · exact .inl a3.symm
      · exact .inr ⟨q, rfl, by omega⟩
/-- A block of a type. -/
def tyB (T : TypeId) (W : World) (k : Nat) : Prop := ∃ cs f, W.heap[k]? = some (.cells cs T f)
/-- What stands, but for one block and those of a type. -/
def KT (T : TypeId) (g : Nat) (W w' : World) : Prop := Kp (fun k => k = g ∨ tyB T W k) W w'
theorem KT.refl (T : TypeId) (g : Nat) (W : World) : KT T g W W := Kp.refl _ _
theorem KT.trans {T : TypeId} {g : Nat} {a b c : World} (h : KT T g a b) (k : KT T g b c) : KT T g a c := by
  refine ⟨k.os.trans h.os, k.tape.trans h.tape, k.output.trans h.output, Nat.le_trans h.size k.size, fun j hj hS => ?_⟩
  have e := h.block j hj hS
  refine (k.block j (Nat.lt_of_lt_of_le hj h.size) (fun ht => hS ?_)).trans e
  rcases ht with ht | ⟨cs, f, ht⟩
  · exact .inl ht
  · exact .inr ⟨cs, f, by rw [← e]; exact ht⟩
theorem KT.of_below {T : TypeId} {g : Nat} {a b : World} (h : Below a.heap.size a b) : KT T g a b := Kp.of_below h
theorem KT.of_kp {T : TypeId} {g : Nat} {a b : World} (h : Kp (fun k => k = g) a b) : KT T g a b := h.sub (fun k e => .inl e)
theorem KT.blk {T : TypeId} {g : Nat} {a b : World} (h : KT T g a b) {k : Nat} {cs : Array Value} {U : TypeId} {f : Nat × Nat} (hk : a.heap[k]? = some (.cells cs U f)) (hg : k ≠ g) (hT : U ≠ T) : b.heap[k]? = some (.cells cs U f) := by
  refine Kp.blk h hk ?_
  rintro (e | ⟨cs', f', e⟩)
  · exact hg e
  · rw [hk] at e
    injection e with e
    injection e with _ e
    exact hT e
theorem re_ty {W : World} {v : Value} {E : List Ev} (h : Re W v E) : ∀ k, v.ownBlock = some k → tyB 32 W k := by
  intro k hk
  rcases h.2 with ⟨rfl, _⟩ | ⟨b, cap, cur, rfl, _, h3, _⟩
  · cases hk
  · simp only [Value.ownBlock, Option.some.injEq] at hk
    subst hk
    exact ⟨_, _, h3⟩

abbrev tellF (g p : Nat) : Value := .func (.func 29) #[] #[.pointer (some ⟨g, 0, none⟩), .pointer (some ⟨p, 0, none⟩)]
/-- What tell has in hand. -/
structure EI (w0 : World) (g p : Nat) (v : Value) (E : List Ev) (V : World) : Prop where
  bel : Below w0.heap.size w0 V
  hg : V.heap[g]? = some (.cells #[v] 22 (0, 0))
  hp : V.heap[p]? = some (.cells #[tellF g p] 40 (0, 0))
  re : Re V v E
  vB : ∀ k, v.ownBlock = some k → w0.heap.size ≤ k
  g0 : w0.heap.size ≤ g
  p0 : w0.heap.size ≤ p
theorem EI.ne {w0 : World} {g p : Nat} {v : Value} {E : List Ev} {V : World} (h : EI w0 g p v E V) : g ≠ p := by
  rintro rfl
  have := h.hg
  rw [h.hp] at this
  injection this with e
  injection e with _ e
  exact absurd e (by decide)
theorem EI.below {w0 : World} {g p : Nat} {v : Value} {E : List Ev} {V V' : World} (h : EI w0 g p v E V) (hb : Below V.heap.size V V') : EI w0 g p v E V' :=
  ⟨h.bel.trans (hb.mono h.bel.size), blk_below h.hg hb, blk_below h.hp hb, h.re.below hb, h.vB, h.g0, h.p0⟩
theorem EI.push {w0 : World} {g p : Nat} {v v' : Value} {E ds : List Ev} {V V1 w3 : World} (h : EI w0 g p v E V) (hb : Below V.heap.size V V1) (hr : Re w3 v' (E ++ ds)) (hg : V1.grownBy w3 v.ownBlock) (hq : Nb V1 v v') :
    (w3.cell? ⟨g, 0, none⟩ = some v ∧ w3.frozen? ⟨g, 0, none⟩ = false ∧ g < w3.heap.size) ∧ EI w0 g p v' (E ++ ds) (w3.setCell ⟨g, 0, none⟩ v') ∧ KT 32 g V (w3.setCell ⟨g, 0, none⟩ v') := by
  have h1 := h.below hb
  have kg := Kp.of_grown hg
  have ne1 : ¬ some g = v.ownBlock := fun e => h1.re.ne h1.hg (by decide) g e.symm rfl
  have ne2 : ¬ some p = v.ownBlock := fun e => h1.re.ne h1.hp (by decide) p e.symm rfl
  have g3 := kg.blk h1.hg ne1
  have p3 := kg.blk h1.hp ne2
  have b3 : Below w0.heap.size w0 w3 := Kp.low h1.bel kg (fun k e => h1.vB k e.symm) h1.bel.size
  refine ⟨⟨blk_cell g3 rfl, blk_frozen g3, blk_lt g3⟩, ⟨Kp.low b3 (Kp.set _ _ _ _) (fun k e => by subst e; exact h.g0) b3.size, blk_set g3 0 _, blk_other p3 (Ne.symm h.ne) _, hr.kp (Kp.set _ _ _ _) (hr.ne g3 (by decide)), ?_, h.g0, h.p0⟩, ?_⟩
  · intro k e
    rcases hq with hq | ⟨q, e1, hq⟩
    · exact h.vB k (by rw [← hq]; exact e)
    · rw [e1] at e
      simp at e
      have := h1.bel.size
      omega
  · refine ((Kp.of_below hb).step kg (fun k hk e => .inr ?_)).step (Kp.set _ _ _ _) (fun k _ e => .inl e)
    exact re_ty h.re k e.symm

def TellC (w0 : World) (n : Nd) : Prop := ∀ vn, Nv w0 vn n → ∀ W g p v E, EI w0 g p v E W → E.length + (evs n).length ≤ 1000000000 → Calls Try.prog 29 #[vn, .pointer (some ⟨g, 0, none⟩), .pointer (some ⟨p, 0, none⟩)] W fun r w' => r = .returned (.tuple #[]) ∧ ∃ v', EI w0 g p v' (E ++ evs n) w' ∧ KT 32 g W w'
set_option maxRecDepth 100000 in
set_option maxHeartbeats 1000000 in
theorem tell_tok (w0 : World) (d : Tv) (ao : Option Addr) (nk cap : Nat) (W : World) (g p : Nat) (v : Value) (E : List Ev) (hI : EI w0 g p v E W) (hle : E.length + 1 ≤ 1000000000) : Calls Try.prog 29 #[ndv 0 d (.slice ao nk cap), .pointer (some ⟨g, 0, none⟩), .pointer (some ⟨p, 0, none⟩)] W fun r w' => r = .returned (.tuple #[]) ∧ ∃ v', EI w0 g p v' (E ++ [tkE d]) w' ∧ KT 32 g W w' := by
  have HI : Hid (EI w0 g p v E W) := hI
  obtain ⟨pv, cv, hv, _⟩ := hI.re.shape
  subst hv
  have HTk : Hid (∀ V, Calls Try.prog 27 #[ndv 0 d (.slice ao nk cap)] V fun r w' => r = .returned (.bool true) ∧ Below V.heap.size V w') := fun V => isTok_any 0 d ao nk cap V
  have HKf : Hid (∀ V, Calls Try.prog 26 #[.agg #[.int .u8 d.k, .string d.t, .int .i64 d.a, .int .i64 d.l, .int .i64 d.c, .int .i64 d.f]] V fun r w' => r = .returned (.int .u8 (kof d)) ∧ Below V.heap.size V w') := fun V => kindOf_any d V
  have hle1 : E.length ≤ 1000000000 := by omega
  obtain ⟨W1, eW⟩ : ∃ W1, W1 = W.alloc (NdB 0 d (.slice ao nk cap)) := ⟨_, rfl⟩
  have HB1 : Hid (Below W.heap.size W W1 ∧ W1.heap[W.heap.size]? = some (NdB 0 d (.slice ao nk cap))) := by rw [eW]; exact ⟨below_new _ _, new_at _ _⟩
  clear hI
  rw [tkE_kof]
  obtain ⟨kd, hkd⟩ : ∃ kd, kof d = kd := ⟨_, rfl⟩
  rw [hkd] at HKf ⊢
  clear hkd
  go_enter Try.func29, Try.ntmps29
  go_wp2_with fail
  try rw [← eW]
  clear eW
  refine (HTk.out _).mono ?_
  rintro r w2 ⟨rfl, hb2⟩
  have H2 : Hid (EI w0 g p (.slice pv E.length cv) E w2 ∧ Below W.heap.size W w2) := ⟨HI.out.below (HB1.out.1.trans (hb2.mono HB1.out.1.size)), HB1.out.1.trans (hb2.mono HB1.out.1.size)⟩
  have t0 : w2.heap[W.heap.size]? = some (NdB 0 d (.slice ao nk cap)) := blk_below HB1.out.2 hb2
  have HC : Hid (∀ V, Below w2.heap.size w2 V → V.cell? ⟨W.heap.size, 1, none⟩ = some (.int .u8 d.k) ∧ V.cell? ⟨W.heap.size, 2, none⟩ = some (.string d.t) ∧ V.cell? ⟨W.heap.size, 3, none⟩ = some (.int .i64 d.a) ∧ V.cell? ⟨W.heap.size, 4, none⟩ = some (.int .i64 d.l) ∧ V.cell? ⟨W.heap.size, 5, none⟩ = some (.int .i64 d.c) ∧ V.cell? ⟨W.heap.size, 6, none⟩ = some (.int .i64 d.f) ∧ V.cell? ⟨g, 0, none⟩ = some (.slice pv E.length cv) ∧ W.heap.size < V.heap.size ∧ g < V.heap.size) := fun V hb => by
    have t := blk_below t0 hb
    have u := blk_below H2.out.1.hg hb
    exact ⟨blk_cell t rfl, blk_cell t rfl, blk_cell t rfl, blk_cell t rfl, blk_cell t rfl, blk_cell t rfl, blk_cell u rfl, blk_lt t, blk_lt u⟩
  have HP : Hid (∀ w4 q cp w3, Below w2.heap.size w2 w4 → Re w3 (.slice (some ⟨q, 0, none⟩) (E.length + 1) cp) (E ++ [⟨kd, 0, d⟩]) → w4.grownBy w3 (Value.slice pv E.length cv).ownBlock → Nb w4 (.slice pv E.length cv) (.slice (some ⟨q, 0, none⟩) (E.length + 1) cp) → (w3.cell? ⟨g, 0, none⟩ = some (.slice pv E.length cv) ∧ w3.frozen? ⟨g, 0, none⟩ = false ∧ g < w3.heap.size) ∧ EI w0 g p (.slice (some ⟨q, 0, none⟩) (E.length + 1) cp) (E ++ [⟨kd, 0, d⟩]) (w3.setCell ⟨g, 0, none⟩ (.slice (some ⟨q, 0, none⟩) (E.length + 1) cp)) ∧ KT 32 g W (w3.setCell ⟨g, 0, none⟩ (.slice (some ⟨q, 0, none⟩) (E.length + 1) cp))) := fun w4 q cp w3 hb h1 h2 h3 => by
    obtain ⟨a1, a2, a3⟩ := H2.out.1.push hb h1 h2 h3
    exact ⟨a1, a2, (KT.of_below H2.out.2).trans a3⟩
  have HR : Hid (∀ V, Below w2.heap.size w2 V → Re V (.slice pv E.length cv) E) := fun V hb => H2.out.1.re.below hb
  clear hb2 t0
  obtain ⟨c1, c2, c3, c4, c5, c6, c7, c8, c9⟩ := HC.out w2 (Below.refl _ _)
  go_wp2_with fail
  go_region_law (first | (refine step_ev (by rfl) _ _ (by rfl) (.slice pv E.length cv) E ⟨kd, 0, d⟩ (by rfl) (HR.out _ (H4.out.trans ((below_new _ _).mono H4.out.size))) w4.heap.size 1 (by rfl) (new_at w4 _) hle1 ?_; intro q cp w3 h1 h2 h3; obtain ⟨⟨x1, x2, x3⟩, x4⟩ := HP.out _ q cp w3 (H4.out.trans ((below_new _ _).mono H4.out.size)) h1 h2 h3; have HX := show Hid _ from x4; clear x4 h1 h2 h3) | (go_simp; go_at_call 26; refine (HKf.out _).mono ?_; rintro r w4 ⟨rfl, hb4⟩; have H4 : Hid (Below w2.heap.size w2 w4) := (Below.refl _ _).drew.trans (hb4.mono (Nat.le_refl _)); obtain ⟨d1, d2, d3, d4, d5, d6, d7, d8, d9⟩ := HC.out w4 H4.out; clear hb4))
  all_goals (
    go_wp2_with fail
    first | go_end0 | (refine bodyPost_ret (results_none rfl _ _ _) rfl ?_)
    exact ⟨rfl, _, HX.out⟩)

end Go.Proofs.Ythbgipmkdcffnaa
