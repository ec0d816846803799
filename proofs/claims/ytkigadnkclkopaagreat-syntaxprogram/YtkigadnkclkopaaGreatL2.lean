import Derived.Test.YtkigadnkclkopaaGreatL1
import Derived.ArgAppend
set_option linter.unusedVariables false
set_option linter.unusedSimpArgs false
namespace Go.Proofs.YtkigadnkclkopaaGreat
open Go.RowKit

/-! The law's spoil: what it writes are leaves, in the tree's own blocks. -/
def slotIs (cur : Array Value) (j : Nat) (k : Int) (d : Tv) (s : Value) : Prop := ∀ (i : Nat) (u : Value), (nc (.mk k d []) s)[i]? = some u → cur[j * 8 + i]? = some u
structure LW (S : Nat → Prop) (W W' : World) : Prop where
  kp : Kp S W W'
  blk : ∀ b cur, S b → W.heap[b]? = some (.cells cur 32 (0, 0)) → ∃ cur', W'.heap[b]? = some (.cells cur' 32 (0, 0)) ∧ cur'.size = cur.size ∧ ∀ j, (j + 1) * 8 ≤ cur.size → (∀ i, i < 8 → cur'[j * 8 + i]? = cur[j * 8 + i]?) ∨ ∃ k d, slotIs cur' j k d (.slice none 0 0)
theorem LW.of_below {S : Nat → Prop} {W W' : World} (h : Below W.heap.size W W') : LW S W W' :=
  ⟨Kp.of_below h, fun b cur hS hb => ⟨cur, blk_below hb h, rfl, fun j hj => .inl (fun i hi => rfl)⟩⟩
theorem slot_same {cur cur' : Array Value} {j : Nat} {k : Int} {d : Tv} {s : Value} (h : slotIs cur j k d s) (he : ∀ i, i < 8 → cur'[j * 8 + i]? = cur[j * 8 + i]?) : slotIs cur' j k d s := fun i u hu => by
  have hi : i < 8 := by
    have := (List.getElem?_eq_some_iff.1 hu).1
    simpa [nc] using this
  rw [he i hi]
  exact h i u hu
theorem LW.trans {S : Nat → Prop} {a b c : World} (h : LW S a b) (k : LW S b c) : LW S a c := by
  refine ⟨h.kp.trans k.kp, fun q cur hS hq => ?_⟩
  obtain ⟨cur1, h1, h2, h3⟩ := h.blk q cur hS hq
  obtain ⟨cur2, k1, k2, k3⟩ := k.blk q cur1 hS h1
  refine ⟨cur2, k1, k2.trans h2, fun j hj => ?_⟩
  rcases k3 j (by omega) with e | e
  · rcases h3 j hj with e' | ⟨k', d', e'⟩
    · exact .inl (fun i hi => (e i hi).trans (e' i hi))
    · exact .inr ⟨k', d', slot_same e' e⟩
  · exact .inr e
/-- A leaf is written into a slot. -/
theorem LW.leaf {S : Nat → Prop} {W : World} {b : Nat} {cur : Array Value} (hb : W.heap[b]? = some (.cells cur 32 (0, 0))) (hS : S b) (m : Nat) (hm : (m + 1) * 8 ≤ cur.size) (k : Int) (d : Tv) : LW S W (W.setCells b (m * 8) (nc (.mk k d []) (.slice none 0 0))) := by
  have ks := sets_kp b (nc (.mk k d []) (.slice none 0 0)) (m * 8) W
  refine ⟨ks.sub (fun q e => by subst e; exact hS), fun q cu hq hcu => ?_⟩
  by_cases hqb : q = b
  · subst hqb
    rw [hb] at hcu
    cases hcu
    obtain ⟨cur', e1, e2, e3, e4⟩ := sets_blk q (nc (.mk k d []) (.slice none 0 0)) (m * 8) W cur hb
    have hl8 : (nc (.mk k d []) (.slice none 0 0)).length = 8 := rfl
    refine ⟨cur', e1, e2, fun j hj => ?_⟩
    by_cases hjm : j = m
    · subst hjm
      exact .inr ⟨k, d, fun i u hu => e4 (by omega) i u hu⟩
    · exact .inl (fun i hi => e3 _ (by omega))
  · exact ⟨cu, ks.blk hcu hqb, rfl, fun j hj => .inl (fun i hi => rfl)⟩
/-- A leaf's kind is written. -/
theorem LW.kind {S : Nat → Prop} {W : World} {q : Nat} {cur : Array Value} (hb : W.heap[q]? = some (.cells cur 32 (0, 0))) (m : Nat) (hm : (m + 1) * 8 ≤ cur.size) (k k' : Int) (d : Tv) (hl : slotIs cur m k d (.slice none 0 0)) : LW S W (W.setCell ⟨q, m * 8, none⟩ (.int .u8 k')) ∨ ¬ S q := by
  by_cases hS : S q
  · left
    have ks := Kp.set W q (m * 8) (.int .u8 k')
    refine ⟨ks.sub (fun j e => by subst e; exact hS), fun b cu hq hcu => ?_⟩
    by_cases hqb : b = q
    · subst hqb
      rw [hb] at hcu
      cases hcu
      refine ⟨_, blk_set hb (m * 8) _, by simp, fun j hj => ?_⟩
      by_cases hjm : j = m
      · subst hjm
        refine .inr ⟨k', d, fun i u hu => ?_⟩
        have hi : i < 8 := by
          have := (List.getElem?_eq_some_iff.1 hu).1
          simpa [nc] using this
        match i, hi with
        | 0, _ =>
          simp [nc, Nd.k] at hu
          subst hu
          rw [Nat.add_zero, Array.getElem?_setIfInBounds_self_of_lt (by omega)]
        | i + 1, _ =>
          rw [Array.getElem?_setIfInBounds_ne (by omega)]
          refine hl (i + 1) u ?_
          simpa [nc, Nd.d] using hu
      · exact .inl (fun i hi => by rw [Array.getElem?_setIfInBounds_ne (by omega)])
    · exact ⟨cu, ks.blk hcu hqb, rfl, fun j hj => .inl (fun i hi => rfl)⟩
  · exact .inr hS
theorem LW.new {S : Nat → Prop} {W w8 : World} {q : Nat} (h : LW S W w8) (hq : W.heap.size ≤ q) (hS : ¬ S q) (i : Nat) (v : Value) : LW S W (w8.setCell ⟨q, i, none⟩ v) := by
  refine ⟨h.kp.step (Kp.set _ _ _ _) (fun j hj e => by omega), fun b cur hb hcb => ?_⟩
  obtain ⟨cur', e1, e2, e3⟩ := h.blk b cur hb hcb
  exact ⟨cur', blk_other e1 (fun e => by subst e; exact hS hb) _, e2, e3⟩
/-- A tree that may be spoilt: so high, all its blocks of S. -/
def SP (S : Nat → Prop) (W : World) : Nat → Value → Prop
  | 0, sv => sv = .slice none 0 0
  | h + 1, sv => sv = .slice none 0 0 ∨ ∃ b len cap cur, sv = .slice (some ⟨b, 0, none⟩) len cap ∧ S b ∧ len ≤ cap ∧ cap ≤ maxLen ∧ len ≤ 1000000000 ∧ W.heap[b]? = some (.cells cur 32 (0, 0)) ∧ cur.size = cap * 8 ∧ ∀ j, j < len → ∃ k d s, slotIs cur j k d s ∧ SP S W h s
theorem SP.nil (S : Nat → Prop) (W : World) : ∀ h, SP S W h (.slice none 0 0)
  | 0 => rfl
  | h + 1 => .inl rfl
theorem SP.lw {S : Nat → Prop} {W W' : World} (hl : LW S W W') : ∀ (h : Nat) (sv : Value), SP S W h sv → SP S W' h sv
  | 0, sv, hs => hs
  | h + 1, sv, hs => by
    rcases hs with rfl | ⟨b, len, cap, cur, h1, h2, h3, h4, h5, h6, h7, h8⟩
    · exact .inl rfl
    · obtain ⟨cur', e1, e2, e3⟩ := hl.blk b cur h2 h6
      refine .inr ⟨b, len, cap, cur', h1, h2, h3, h4, h5, e1, e2.trans h7, fun j hj => ?_⟩
      rcases e3 j (by omega) with e | ⟨k, d, e⟩
      · obtain ⟨k, d, s, a1, a2⟩ := h8 j hj
        exact ⟨k, d, s, slot_same a1 e, SP.lw hl h s a2⟩
      · exact ⟨k, d, _, e, SP.nil S W' h⟩
theorem SP.shape {S : Nat → Prop} {W : World} {h : Nat} {sv : Value} (hs : SP S W h sv) : ∃ p n c, sv = .slice p n c := by
  cases h with
  | zero => exact ⟨_, _, _, hs⟩
  | succ h =>
    rcases hs with rfl | ⟨b, len, cap, cur, h1, _⟩
    · exact ⟨_, _, _, rfl⟩
    · exact ⟨_, _, _, h1⟩
mutual
/-- How high a tree is, tokens too. -/
def hgt : Nd → Nat
  | .mk _ _ c => hgtL c + 1
def hgtL : List Nd → Nat
  | [] => 0
  | n :: r => max (hgt n) (hgtL r)
end
theorem hgt_kid {c : List Nd} {j : Nat} {m : Nd} (h : c[j]? = some m) : hgt m ≤ hgtL c := by
  induction c generalizing j with
  | nil => simp at h
  | cons x r ih =>
    simp only [hgtL]
    cases j with
    | zero => simp at h; subst h; omega
    | succ j => have := ih (j := j) (by simpa using h); omega
theorem TN.sp {S : Nat → Prop} {W : World} (h : Nat) : ∀ (n : Nd) (x : Value), hgt n ≤ h → nsz n ≤ 1000000000 → TN S W n x → SP S W h x := by
  induction h with
  | zero =>
    intro n x hh _ _
    obtain ⟨k, d, c⟩ := n
    simp [hgt] at hh
  | succ h ih =>
    intro n x hh hz ht
    have hlc : n.c.length ≤ 1000000000 := by
      obtain ⟨k, d, c⟩ := n
      have key : ∀ c : List Nd, c.length ≤ nszL c := by
        intro c
        induction c with
        | nil => simp
        | cons x r ih =>
          have : 0 < nsz x := by obtain ⟨a, b, e⟩ := x; simp [nsz]
          simp only [nszL, List.length_cons]
          omega
      have := key c
      simp only [nsz] at hz
      show c.length ≤ _
      omega
    obtain ⟨k, d, c⟩ := n
    rw [TN] at ht
    obtain ⟨vs, h1, h2, h3⟩ := ht
    rcases h1.2.2 with ⟨e1, e2⟩ | ⟨b, cap, cur, e1, _, e3, e4, e5, e6, e7⟩
    · exact .inl e1
    · refine .inr ⟨b, c.length, cap, cur, e1, h2 b (by rw [e1]; rfl), e4, e5, hlc, e3, e6, fun j hj => ?_⟩
      obtain ⟨m, hm⟩ : ∃ m, c[j]? = some m := ⟨_, List.getElem?_eq_getElem hj⟩
      obtain ⟨y, hy, hty⟩ := TL.at h3 hm
      refine ⟨m.k, m.d, y, fun i u hu => ?_, ih m y (by have := hgt_kid hm; simp only [hgt] at hh; omega) (by have := nsz_kid (n := .mk k d c) (m := m) (List.mem_of_getElem? hm); omega) hty⟩
      have hc := h1.cell e1 hm hy (i := i) (u := u) hu
      simp only [World.cell?, e3] at hc
      simpa using hc

end Go.Proofs.YtkigadnkclkopaaGreat

set_option linter.unusedVariables false
set_option linter.unusedSimpArgs false
namespace Go.Proofs.YtkigadnkclkopaaGreat
open Go.RowKit

abbrev lf78 : List Value := nc (.mk 78 tv0 []) (.slice none 0 0)
/-- Behind the append: the new last slot is a leaf. -/
structure AS (S : Nat → Prop) (W : World) (len : Nat) (q cap : Nat) (V : World) : Prop where
  lw : LW S W V
  ex : ∃ cur, V.heap[q]? = some (.cells cur 32 (0, 0)) ∧ (len + 1) * 8 ≤ cur.size ∧ slotIs cur len 78 tv0 (.slice none 0 0)
  nw : S q ∨ W.heap.size ≤ q
theorem app_sp {S : Nat → Prop} {W : World} {ops : Array Oper} {rest : List Oper} {o : Oper} {a : Act} {Q : Exit → Act → World → Prop} {h : Nat} (hgd : o.guard = none) (s x : Operand)
    (ho : o.op = .call { callee := .builtin .append, args := #[s, x], argTypes := #[30, 30] }) (p : Option Addr) (len cap : Nat) (hs : a.eval s = .slice p len cap) (hsp : SP S W h (.slice p len cap))
    (c1 : Nat) (hx : a.eval x = .slice (some ⟨W.heap.size, 0, none⟩) 1 c1) (hS : ∀ q, S q → q < W.heap.size)
    (hk : ∀ q cap' w', AS S W len q cap' w' → wpList Tryz.prog ops Q rest (a.put o.dst (.slice (some ⟨q, 0, none⟩) (len + 1) cap')) w') : wpList Tryz.prog ops Q (o :: rest) a (W.alloc (NdB 78 tv0 (.slice none 0 0))) := by
  obtain ⟨i0, hi, hz0, hz1, hz2⟩ := info_parts Tryz.info32
  have hb := below_new W (NdB 78 tv0 (.slice none 0 0))
  have hnew := new_at W (NdB 78 tv0 (.slice none 0 0))
  have hnews : ∀ j u, lf78[j]? = some u → (W.alloc (NdB 78 tv0 (.slice none 0 0))).cell? ((⟨W.heap.size, 0, none⟩ : Addr).add j) = some u := fun j u hu => World.news_of_block hnew j u (by simpa [nc, Nd.k, Nd.d] using hu)
  have hone : ∀ u ∈ lf78, u.oneCell' = true := by
    intro u hu
    simp only [lf78, nc, List.mem_cons, List.not_mem_nil, or_false] at hu
    rcases hu with rfl | rfl | rfl | rfl | rfl | rfl | rfl | rfl <;> rfl
  have hl78 : lf78.length = 8 := rfl
  have grow : ∀ (olds : List Value), olds.length = len * 8 → ∀ v' w', w'.ownsRow (W.alloc (NdB 78 tv0 (.slice none 0 0))).heap.size 32 8 v' (len + 1) (olds ++ lf78) → (W.alloc (NdB 78 tv0 (.slice none 0 0))).grownBy w' none → wpList Tryz.prog ops Q rest (a.put o.dst v') w' := by
    intro olds ho v' w' h1 h2
    rcases h1.2 with ⟨_, e⟩ | ⟨g, cp, cur, rfl, hg, h3, h4, h5, h6, h7⟩
    · omega
    · have hb2 : Below (W.alloc (NdB 78 tv0 (.slice none 0 0))).heap.size (W.alloc (NdB 78 tv0 (.slice none 0 0))) w' := ⟨h2.os, h2.tape, h2.output, h2.size, fun k hk => h2.block k hk (by simp)⟩
      have hb3 := hb.trans (hb2.mono hb.size)
      have hs1 := size_al W (NdB 78 tv0 (.slice none 0 0))
      refine hk g cp w' ⟨LW.of_below hb3, ⟨cur, h3, by omega, fun i u hu => ?_⟩, .inr (by omega)⟩
      have hi8 : i < 8 := by
        have := (List.getElem?_eq_some_iff.1 hu).1
        simpa [nc] using this
      have h8 : (olds ++ lf78)[len * 8 + i]? = some u := by
        rw [List.getElem?_append_right (by omega), ho, show len * 8 + i - len * 8 = i by omega]
        exact hu
      rw [← h7, List.getElem?_take] at h8
      split at h8
      · simpa using h8
      · cases h8
  have hN : SP S W h (.slice p len cap) → (p = none ∧ len = 0 ∧ cap = 0) ∨ ∃ b cur, p = some ⟨b, 0, none⟩ ∧ S b ∧ len ≤ cap ∧ cap ≤ maxLen ∧ len ≤ 1000000000 ∧ W.heap[b]? = some (.cells cur 32 (0, 0)) ∧ cur.size = cap * 8 := by
    intro hs
    cases h with
    | zero =>
      have hs' : Value.slice p len cap = .slice none 0 0 := hs
      cases hs'
      exact .inl ⟨rfl, rfl, rfl⟩
    | succ h =>
      rcases hs with e | ⟨b, len', cap', cur, e, h2, h3, h4, h5, h6, h7, _⟩
      · cases e
        exact .inl ⟨rfl, rfl, rfl⟩
      · cases e
        exact .inr ⟨b, cur, rfl, h2, h3, h4, h5, h6, h7⟩
  rcases hN hsp with ⟨rfl, rfl, rfl⟩ | ⟨b, cur, rfl, h2, h3, h4, h5, h6, h7⟩
  · refine wpList_append_grows (P := Tryz.prog) (W.alloc (NdB 78 tv0 (.slice none 0 0))) hgd s x 30 ho 32 i0 _ 8 88 Tryz.underlying30 hi hz0 hz1 hz2 rfl (by decide) none 0 0 [] hs (fun _ => ⟨rfl, rfl⟩) rfl (fun b e => by cases e) ⟨W.heap.size, 0, none⟩ 1 c1 lf78 hx rfl hnews hone (by omega) (by unfold maxLen; omega) (by omega) ?_
    exact fun v' w' a1 a2 => grow [] rfl v' w' a1 a2
  · have h6' := alloc_at' h6 (NdB 78 tv0 (.slice none 0 0))
    have hmx : maxLen = 9223372036854775807 := rfl
    refine wpList_append_arg (P := Tryz.prog) (W.alloc (NdB 78 tv0 (.slice none 0 0))) hgd s x 30 ho 32 i0 _ 8 88 Tryz.underlying30 hi hz0 hz1 hz2 rfl (by decide) b 0 len cap (cur.toList.take (len * 8)) hs (by rw [List.length_take, Array.length_toList]; omega) ?_ ⟨W.heap.size, 0, none⟩ 1 c1 lf78 hx rfl hnews hone ?_ (by omega) (by omega) ?_ ?_
    · intro j u hu
      rw [List.getElem?_take] at hu
      split at hu
      · rw [Nat.zero_add]
        exact blk_cell h6' (by simpa using hu)
      · cases hu
    · intro hr j hj
      have hj' : j < 8 := hj
      have : 0 + len * 8 + j < cur.size := by omega
      exact ⟨by rw [blk_cell h6' (Array.getElem?_eq_getElem this)]; rfl, blk_frozen h6'⟩
    · intro hr
      rw [Nat.zero_add]
      have hsz : (len + 1) * 8 ≤ cur.size := by omega
      refine hk b cap _ ⟨(LW.of_below hb).trans (LW.leaf h6' h2 len hsz 78 tv0), ?_, .inl h2⟩
      obtain ⟨cur', e1, e2, e3, e4⟩ := sets_blk b lf78 (len * 8) (W.alloc (NdB 78 tv0 (.slice none 0 0))) cur h6'
      exact ⟨cur', e1, by omega, fun i u hu => e4 (by omega) i u hu⟩
    · intro hr v' w' a1 a2
      exact grow _ (by rw [List.length_take, Array.length_toList]; omega) v' w' a1 a2
theorem AS.kind {S : Nat → Prop} {W : World} {len q cap : Nat} {V : World} (h : AS S W len q cap V) (hS : ∀ q, S q → q < W.heap.size) : (V.cell? ⟨q, len * 8, none⟩ = some (.int .u8 78) ∧ V.frozen? ⟨q, len * 8, none⟩ = false ∧ q < V.heap.size) ∧ LW S W (V.setCell ⟨q, len * 8, none⟩ (.int .u8 79)) := by
  obtain ⟨cur, h1, h2, h3⟩ := h.ex
  refine ⟨⟨blk_cell h1 (h3 0 _ rfl), blk_frozen h1, blk_lt h1⟩, ?_⟩
  rcases LW.kind (S := S) h1 len h2 78 79 tv0 h3 with e | e
  · exact h.lw.trans e
  · rcases h.nw with e2 | e2
    · exact absurd e2 e
    · exact h.lw.new e2 e _ _
def SpC (S : Nat → Prop) (h : Nat) : Prop := ∀ (k : Int) (d : Tv) (sv : Value) (W : World), SP S W h sv → (∀ q, S q → q < W.heap.size) → Calls Tryz.prog 9 #[ndv k d sv] W fun r w' => r = .returned (.tuple #[]) ∧ LW S W w'
set_option maxRecDepth 100000 in
set_option maxHeartbeats 1000000 in
theorem spoil_step (S : Nat → Prop) (h : Nat) (IH : ∀ h', h' < h → SpC S h') : SpC S h := by
  intro k d sv W hsp hS
  obtain ⟨p, len, cap, rfl⟩ := hsp.shape
  have HIH := show Hid _ from IH
  have HSP : Hid (∀ V, LW S W V → SP S V h (.slice p len cap)) := fun V hl => SP.lw hl h _ hsp
  have HS : Hid (∀ V : World, W.heap.size ≤ V.heap.size → ∀ q, S q → q < V.heap.size) := fun V hv q hq => Nat.lt_of_lt_of_le (hS q hq) hv
  have hlen : len ≤ 1000000000 := by
    cases h with
    | zero =>
      have hs' : Value.slice p len cap = .slice none 0 0 := hsp
      cases hs'
      omega
    | succ h =>
      rcases hsp with e | ⟨b, len', cap', cur, e, h2, h3, h4, h5, h6, h7, _⟩
      · cases e
        omega
      · cases e
        omega
  have hnS : Hid (¬ S W.heap.size) := fun e => by have := hS _ e; omega
  obtain ⟨W1, eW1⟩ : ∃ W1, W.alloc (NdB k d (.slice p len cap)) = W1 := ⟨_, rfl⟩
  have H1 : Hid (LW S W W1 ∧ W1.heap[W.heap.size]? = some (NdB k d (.slice p len cap))) := by rw [← eW1]; exact ⟨LW.of_below (below_new _ _), new_at _ _⟩
  have hlI : (len : Int) ≤ 1000000000 := by omega
  clear hsp IH hS
  go_enter Tryz.func9, Tryz.ntmps9
  go_wp2_with fail
  try rw [eW1]
  clear eW1
  go_loopw [2] (fun iv wr => ∃ j : Nat, j ≤ len ∧ iv = .int .i64 j ∧ Hid (LW S W wr ∧ wr.heap[W.heap.size]? = some (NdB k d (.slice p len cap)))) (fun iv _ => len - (intOf iv).toNat)
  case atStart => exact ⟨0, Nat.zero_le _, rfl, H1⟩
  case round =>
    obtain ⟨j, hj, rfl, HJ⟩ := hrel
    have x7 : wr.cell? ⟨W.heap.size, 7, none⟩ = some (.slice p len cap) := blk_cell HJ.out.2 rfl
    have xl : W.heap.size < wr.heap.size := blk_lt HJ.out.2
    by_cases hlt : j < len
    · have z1 : (j : Int) < len := by omega
      have z2 : (0 : Int) ≤ j := by omega
      obtain ⟨h', b, cur, rfl, rfl, hSb, hlc, hcm, hcur, hcsz, hkids⟩ : ∃ h' b cur, h = h' + 1 ∧ p = some ⟨b, 0, none⟩ ∧ S b ∧ len ≤ cap ∧ cap ≤ maxLen ∧ wr.heap[b]? = some (.cells cur 32 (0, 0)) ∧ cur.size = cap * 8 ∧ ∀ j, j < len → ∃ k d s, slotIs cur j k d s ∧ SP S wr h' s := by
        have hs := HSP.out wr HJ.out.1
        cases h with
        | zero =>
          have hs' : Value.slice p len cap = .slice none 0 0 := hs
          cases hs'
          omega
        | succ h =>
          rcases hs with e | ⟨b, len', cap', cur, e, h2, h3, h4, h5, h6, h7, h8⟩
          · cases e
            omega
          · cases e
            exact ⟨h, b, cur, rfl, rfl, h2, h3, h4, h6, h7, h8⟩
      obtain ⟨k', d', s', hsl, hsp'⟩ := hkids j hlt
      obtain ⟨p', n', c', rfl⟩ := hsp'.shape
      have hc : ∀ i u, (nc (.mk k' d' []) (.slice p' n' c'))[i]? = some u → wr.cell? ⟨b, j * 8 + i, none⟩ = some u := fun i u hu => blk_cell hcur (hsl i u hu)
      have u0 : wr.cell? ⟨b, j * 8, none⟩ = some (.int .u8 k') := hc 0 _ rfl
      have u1 : wr.cell? ⟨b, j * 8 + 1, none⟩ = some (.int .u8 d'.k) := hc 1 _ rfl
      have u2 : wr.cell? ⟨b, j * 8 + 2, none⟩ = some (.string d'.t) := hc 2 _ rfl
      have u3 : wr.cell? ⟨b, j * 8 + 3, none⟩ = some (.int .i64 d'.a) := hc 3 _ rfl
      have u4 : wr.cell? ⟨b, j * 8 + 4, none⟩ = some (.int .i64 d'.l) := hc 4 _ rfl
      have u5 : wr.cell? ⟨b, j * 8 + 5, none⟩ = some (.int .i64 d'.c) := hc 5 _ rfl
      have u6 : wr.cell? ⟨b, j * 8 + 6, none⟩ = some (.int .i64 d'.f) := hc 6 _ rfl
      have u7 : wr.cell? ⟨b, j * 8 + 7, none⟩ = some (.slice p' n' c') := hc 7 _ rfl
      have bl : b < wr.heap.size := blk_lt hcur
      have HC : Hid (Calls Tryz.prog 9 #[ndv k' d' (.slice p' n' c')] wr fun r w' => r = .returned (.tuple #[]) ∧ LW S wr w') := HIH.out h' (by omega) k' d' _ wr hsp' (HS.out wr (HJ.out.1.kp.size))
      have HB : Hid (S b ∧ wr.heap[b]? = some (.cells cur 32 (0, 0)) ∧ cur.size = cap * 8 ∧ len ≤ cap) := ⟨hSb, hcur, hcsz, hlc⟩
      clear hkids hsl hsp' hc hcur hSb
      go_wp2_with fail
      refine HC.out.mono ?_
      rintro r w2 ⟨rfl, hl2⟩
      obtain ⟨cur2, e1, e2, _⟩ := hl2.blk b cur HB.out.1 HB.out.2.1
      have hx2 : w2.heap[W.heap.size]? = some (NdB k d (.slice (some ⟨b, 0, none⟩) len cap)) := hl2.kp.blk HJ.out.2 hnS.out
      have hslot : (j + 1) * 8 ≤ cur2.size := by have := HB.out.2.2; omega
      have x72 : w2.cell? ⟨W.heap.size, 7, none⟩ = some (.slice (some ⟨b, 0, none⟩) len cap) := blk_cell hx2 rfl
      have xl2 : W.heap.size < w2.heap.size := blk_lt hx2
      have bl2 : b < w2.heap.size := blk_lt e1
      have hcell : ∀ i, i < 8 → ∃ u, w2.cell? ⟨b, j * 8 + i, none⟩ = some u := fun i hi => by
        have : j * 8 + i < cur2.size := by omega
        exact ⟨cur2[j * 8 + i], blk_cell e1 (Array.getElem?_eq_getElem this)⟩
      obtain ⟨q0, t0⟩ := hcell 0 (by omega)
      obtain ⟨q1, t1⟩ := hcell 1 (by omega)
      obtain ⟨q2, t2⟩ := hcell 2 (by omega)
      obtain ⟨q3, t3⟩ := hcell 3 (by omega)
      obtain ⟨q4, t4⟩ := hcell 4 (by omega)
      obtain ⟨q5, t5⟩ := hcell 5 (by omega)
      obtain ⟨q6, t6⟩ := hcell 6 (by omega)
      obtain ⟨q7, t7⟩ := hcell 7 (by omega)
      rw [Nat.add_zero] at t0
      have tf : ∀ i, w2.frozen? ⟨b, i, none⟩ = false := fun i => blk_frozen e1
      have hbx : W.heap.size ≠ b := fun e => hnS.out (by rw [e]; exact HB.out.1)
      have H3 : Hid (LW S W (w2.setCells b (j * 8) (nc (.mk 77 tv0 []) (.slice none 0 0))) ∧ (w2.setCells b (j * 8) (nc (.mk 77 tv0 []) (.slice none 0 0))).heap[W.heap.size]? = some (NdB k d (.slice (some ⟨b, 0, none⟩) len cap))) := ⟨(HJ.out.1.trans hl2).trans (LW.leaf e1 HB.out.1 j hslot 77 tv0), (sets_kp _ _ _ _).blk hx2 hbx⟩
      clear hl2 e1 e2 hx2 hcell u0 u1 u2 u3 u4 u5 u6 u7 bl x7 xl
      go_wp2_with fail
      refine ⟨⟨j + 1, hlt, by go_num, ?_⟩, by simp [intOf]; omega⟩
      have := H3.out
      rw [sets_eq] at this
      exact this
    · obtain rfl : j = len := by omega
      have z1 : ¬ ((j : Int) < j) := by omega
      have HSw := HSP.out wr HJ.out.1
      have HSw' := show Hid _ from HSw
      have HSb := HS.out wr HJ.out.1.kp.size
      have HSb' := show Hid _ from HSb
      clear HSw HSb
      go_wp2_with (at_builtin; refine app_sp (S := S) (h := h) (by rfl) _ _ (by rfl) p j cap (by rfl) HSw'.out 1 (by rfl) HSb'.out ?_; intro q8 c8 w8 h8; obtain ⟨⟨y1, y2, y3⟩, y4⟩ := h8.kind HSb'.out; have H8 : Hid (LW S W (w8.setCell ⟨q8, j * 8, none⟩ (.int .u8 79))) := HJ.out.1.trans y4; clear y4 h8)
      go_end0
      exact ⟨rfl, H8.out⟩
theorem spoil_any (S : Nat → Prop) (h : Nat) : SpC S h := by
  induction h using Nat.strongRecOn with
  | ind h ih => exact spoil_step S h ih

end Go.Proofs.YtkigadnkclkopaaGreat
