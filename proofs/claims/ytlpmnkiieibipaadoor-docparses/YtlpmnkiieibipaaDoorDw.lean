import Derived.Test.YtlpmnkiieibipaaDoorDv
set_option linter.unusedVariables false
set_option linter.unusedSimpArgs false
namespace Go.Proofs.YtlpmnkiieibipaaDoor
open Go.RowKit

/-! A row of pieces of the call's own. -/
def Rp (B : Nat) (w : World) (v : Value) (l : List Dc) : Prop := w.ownsRow B 36 5 v l.length (dcs l)
theorem rp_nil (B : Nat) (w : World) : Rp B w (.slice none 0 0) [] := World.ownsRow_nil w B 36 5
theorem Rp.shape {B : Nat} {w : World} {v : Value} {l : List Dc} (h : Rp B w v l) : ∃ p cap, v = .slice p l.length cap ∧ l.length ≤ cap ∧ cap ≤ maxLen := by
  rcases h.2 with ⟨rfl, h0⟩ | ⟨b, cap, cur, rfl, _, h3, h4, h5, _⟩
  · exact ⟨none, 0, by rw [h0], by omega, Nat.zero_le _⟩
  · exact ⟨_, cap, rfl, h4, h5⟩
theorem Rp.own {B : Nat} {w : World} {v : Value} {l : List Dc} (h : Rp B w v l) : ∀ k, v.ownBlock = some k → B ≤ k := by
  intro k hk
  rcases h.2 with ⟨rfl, h0⟩ | ⟨b, cap, cur, rfl, hb, _⟩
  · cases hk
  · simp only [Value.ownBlock, Option.some.injEq] at hk
    omega
theorem Rp.below {B : Nat} {w w' : World} {v : Value} {l : List Dc} (h : Rp B w v l) (hb : Below w.heap.size w w') : Rp B w' v l := by
  refine ⟨h.1, ?_⟩
  rcases h.2 with h1 | ⟨g, cap, cur, rfl, h2, h3, h4⟩
  · exact .inl h1
  · exact .inr ⟨g, cap, cur, rfl, h2, blk_below h3 hb, h4⟩
theorem dcs_app (a b : List Dc) : dcs (a ++ b) = dcs a ++ dcs b := flat_append Dc.cs a b
theorem app_piece {W : World} {ops : Array Oper} {rest : List Oper} {o : Oper} {a : Act} {Q : Exit → Act → World → Prop} (hgd : o.guard = none) (s x : Operand)
    (ho : o.op = .call { callee := .builtin .append, args := #[s, x], argTypes := #[23, 23] }) (B : Nat) (v : Value) (l : List Dc) (d : Dc) (hs : a.eval s = v) (hr : Rp B W v l)
    (g c : Nat) (hx : a.eval x = .slice (some ⟨g, 0, none⟩) 1 c) (hg : W.heap[g]? = some (.cells #[.int .u8 d.k, .string d.t, .int .i64 d.b, .int .i64 d.i, .bool d.e] 36 (0, 0))) (hl : l.length ≤ 1000000000) (hB : B ≤ W.heap.size)
    (h : ∀ v' w', Rp B w' v' (l ++ [d]) → Below B W w' → W.grownBy w' v.ownBlock → (v'.ownBlock = v.ownBlock ∨ v'.ownBlock = some W.heap.size) → wpList Tryd.prog ops Q rest (a.put o.dst v') w') : wpList Tryd.prog ops Q (o :: rest) a W := by
  obtain ⟨i0, hi, hz0, hz1, hz2⟩ := info_parts Tryd.info36
  refine wpList_append_own_at (P := Tryd.prog) (w := W) hgd s x 23 ho B 36 i0 _ 5 48 Tryd.underlying23 hi hz0 hz1 hz2 rfl (by decide) v _ _ hs hr ⟨g, 0, none⟩ 1 c (dcs [d]) hx (by rw [dcs_len]; rfl) ?_ (dcs_one [d]) (by unfold maxLen; omega) (by omega) hB ?_
  · intro j u hu
    refine World.news_of_block hg j u ?_
    have e : dcs [d] = [.int .u8 d.k, .string d.t, .int .i64 d.b, .int .i64 d.i, .bool d.e] := by simp [dcs, flat, Dc.cs]
    rw [e] at hu
    simpa using hu
  · intro v' w' h1 h2 _ h4
    refine h v' w' ?_ ((Below.refl B W).grown h2 hB hr.own) h2 h4
    unfold Rp
    rw [List.length_append, dcs_app]
    exact h1
theorem heap_new2 (w : World) (o1 o2 : Obj) : ((w.alloc o1).alloc o2).heap[w.heap.size + 1]? = some o2 := by
  have := heap_new (w.alloc o1) o2
  rwa [World.size_alloc] at this
theorem rt_size {d : Dc} (h : rt d = true) : d.t.size ≤ 9223372036854775807 := by
  cases rt_of h with
  | text t hq => have := (rtT_len hq).2; show t.size ≤ _; omega
  | brk n hq => exact Nat.zero_le _
  | beg n e hq => exact Nat.zero_le _
  | blank => exact Nat.zero_le _
  | hard => exact Nat.zero_le _
  | empty => exact Nat.zero_le _
  | «end» => exact Nat.zero_le _

theorem c10L (s : ByteArray) : ls (cL 10 s) = ln1 (ls s) := ls_mk _
theorem c10R (s : ByteArray) : ls (cR 10 s) = ln2 (ls s) := ls_mk _

/-- What Parse answers. -/
def PV (w : World) (s : ByteArray) (e : Ending) (w' : World) : Prop := (∃ v, e = .returned (.tuple #[v, .int .i64 (prs (ls s)).2.1, .int .i64 (prs (ls s)).2.2]) ∧ Rp w.heap.size w' v (prs (ls s)).1) ∧ Below w.heap.size w w'

set_option maxHeartbeats 2000000 in
set_option maxRecDepth 100000 in
theorem parse_any (s : ByteArray) (hs : s.size ≤ 9223372036854775807) (w : World) (hG : Gl w) : Calls Tryd.prog 15 #[.string s] w fun e w' => PV w s e w' := by
  have hz : (ls s).length = s.size := ls_len s
  by_cases hbig : 4194304 < s.size
  · have q0 : (4194304 : Int) < s.size := by omega
    have HP : Hid (prs (ls s) = ([], 2, 0)) := by show _ = _; unfold prs; rw [if_pos (by omega)]
    clear hz hG
    go_enter Tryd.func15, Tryd.ntmps15
    go_wp2_with fail
    go_ret3
    unfold PV
    rw [HP.out]
    exact ⟨⟨_, rfl, rp_nil _ _⟩, Below.refl _ _⟩
  have q0 : ¬ (4194304 : Int) < s.size := by omega
  have HP : Hid (prs (ls s) = if (prs1 (ls s) []).2 = false then (([] : List Dc), (71 : Int), (((prs1 (ls s) []).1.length + 1 : Nat) : Int)) else if (chk (prs1 (ls s) []).1).1 ≠ 0 then ([], (chk (prs1 (ls s) []).1).1, (chk (prs1 (ls s) []).1).2 + 1) else ((prs1 (ls s) []).1, 0, 0)) := by
    show _ = _; conv => lhs; unfold prs
    rw [if_neg (by omega)]
  have HG : Hid (GlB w.heap.size w) := hG.glB
  clear hG hz
  go_enter Tryd.func15, Tryd.ntmps15
  go_wp2_with fail
  go_loopw [0, 5] (fun x b wr => ∃ (r : ByteArray) (acc : List Dc), x = .string r ∧ r.size ≤ s.size ∧ acc.length + r.size ≤ s.size ∧ Hid (prs1 (ls r) acc = prs1 (ls s) [] ∧ (∀ d ∈ acc, rt d = true) ∧ Rp w.heap.size wr b acc ∧ Below w.heap.size w wr)) (fun x _ _ => strSz x)
  case atStart => exact ⟨s, [], rfl, Nat.le_refl _, by simp, rfl, by simp, rp_nil _ _, Below.refl _ _⟩
  case round =>
    obtain ⟨r, acc, rfl, h1, h2, HI⟩ := hrel
    obtain ⟨e1, hrt, hr, hw⟩ := HI.out
    by_cases h0 : r.size = 0
    · obtain rfl : r = ⟨#[]⟩ := ls_inj (List.eq_nil_of_length_eq_zero (by rw [ls_len]; exact h0))
      rw [show ls ⟨#[]⟩ = [] from rfl, prs1_nil] at e1
      have HQ : Hid (prs (ls s) = if (chk acc).1 ≠ 0 then ([], (chk acc).1, (chk acc).2 + 1) else (acc, 0, 0)) := by
        show _ = _; rw [HP.out, ← e1]; simp
      obtain ⟨ao, cap, rfl, hn, hL, hao, hcap, hcm⟩ := Lay.row hr (fun d hd => rt_size (hrt d hd))
      have HC : Hid (Calls Tryd.prog 10 #[.slice ao acc.length cap] wr fun e w' => e = .returned (.tuple #[.int .i64 (chk acc).1, .int .i64 (chk acc).2]) ∧ Below wr.heap.size wr w') := check_any ao acc cap wr hL (by omega)
      have HR : Hid (Rp w.heap.size wr (.slice ao acc.length cap) acc ∧ Below w.heap.size w wr) := ⟨hr, hw⟩
      obtain ⟨b0, b1, b2, b3⟩ := chk_bd acc
      clear HI e1 hr hw hL hao hn HP hrt
      generalize (chk acc).1 = k1 at *
      generalize (chk acc).2 = k2 at *
      by_cases hk : k1 = 0
      · subst hk
        go_wp2_with (go_at_call 10; refine HC.out.mono ?_; rintro e w1 ⟨rfl, hb1⟩)
        go_ret3
        unfold PV
        rw [HQ.out]
        exact ⟨⟨_, rfl, HR.out.1.below hb1⟩, HR.out.2.trans (hb1.mono HR.out.2.size)⟩
      · go_wp2_with (go_at_call 10; refine HC.out.mono ?_; rintro e w1 ⟨rfl, hb1⟩)
        go_ret3
        unfold PV
        rw [HQ.out, if_pos hk]
        exact ⟨⟨_, rfl, rp_nil _ _⟩, HR.out.2.trans (hb1.mono HR.out.2.size)⟩
    · have hp : 0 < r.size := by omega
      have hne := tl_ne hp
      have hne2 : r.toList.isEmpty = false := by cases h : r.toList with | nil => exact absurd h hne | cons a b => rfl
      have hnl : ls r ≠ [] := fun h => h0 (by rw [← ls_len, h]; rfl)
      obtain ⟨x, hx⟩ : ∃ x, cL 10 r = x := ⟨_, rfl⟩
      obtain ⟨y, hy⟩ : ∃ y, cR 10 r = y := ⟨_, rfl⟩
      have hlx : ls x = ln1 (ls r) := by rw [← hx]; exact c10L r
      have hly : ls y = ln2 (ls r) := by rw [← hy]; exact c10R r
      have hxs : x.size ≤ r.size := by
        rw [← ls_len, hlx, ← ls_len r]
        exact (List.takeWhile_sublist (l := ls r) (p := (· != 10))).length_le
      have HC : Hid (∀ W, Calls Tryd.prog 22 #[.string r, .string ⟨#[10]⟩] W fun e w' => e = .returned (.tuple #[.string x, .string y, .bool (cB 10 r)]) ∧ Below W.heap.size W w') := fun W => by
        rw [← hx, ← hy]; exact cut_any 10 r W (by omega)
      obtain ⟨o, ho⟩ : ∃ o, rl (ls x) = o := ⟨_, rfl⟩
      have HL : Hid (∀ W, Below w.heap.size w W → Calls Tryd.prog 23 #[.string x] W fun e w' => e = .returned (.tuple #[(o.getD z0).v, .bool o.isSome]) ∧ Below W.heap.size W w') := fun W hW => by
        have := rl_any x (by omega) W (HG.out W hW)
        rw [ho] at this
        exact this
      rw [rl_rd, hlx] at ho
      obtain ⟨p, cap, rfl, hc1, hc2⟩ := hr.shape
      have HR : Hid (Rp w.heap.size wr (.slice p acc.length cap) acc ∧ Below w.heap.size w wr) := ⟨hr, hw⟩
      have hal : acc.length ≤ 9223372036854775807 := by omega
      have hal2 : acc.length ≤ 1000000000 := by omega
      by_cases h10 : (10 : UInt8) ∈ ls r
      · have hm : cB 10 r = true := by simp [cB, h10]
        rw [hm] at HC
        cases o with
        | none =>
          have HQ : Hid (prs (ls s) = ([], 71, ((acc.length + 1 : Nat) : Int))) := by
            show _ = _; rw [HP.out, ← e1, prs1_bad acc h10 ho]; rfl
          simp only [Option.getD_none, Option.isSome_none, z0, Dc.v] at HL
          clear HI e1 hr hw hrt hnl h10 hm ho HP hlx hly hx hy
          go_wp2_with (first | (go_at_call 22; refine (HC.out _).mono ?_; rintro e w1 ⟨rfl, hb1⟩; have HB1 : Hid (Below w.heap.size w w1) := HR.out.2.trans (hb1.mono HR.out.2.size); clear hb1) | (go_at_call 23; refine (HL.out _ HB1.out).mono ?_; rintro e w2 ⟨rfl, hb2⟩; have HB2 : Hid (Below w.heap.size w w2) := HB1.out.trans (hb2.mono HB1.out.size); clear hb2))
          go_ret3
          unfold PV
          rw [HQ.out]
          exact ⟨⟨_, rfl, rp_nil _ _⟩, HB2.out.alloc HB2.out.size _⟩
        | some d =>
          obtain ⟨hd1, hd2⟩ := rd_of ho
          have HE : Hid (prs1 (ls y) (acc ++ [d]) = prs1 (ls s) [] ∧ (∀ z ∈ acc ++ [d], rt z = true) ∧ y.size < r.size) := by
            refine ⟨?_, ?_, ?_⟩
            · rw [hly, ← e1, prs1_good acc h10 ho]
            · intro z hz
              rcases List.mem_append.1 hz with h | h
              · exact hrt z h
              · simp at h; subst h; exact hd1
            · rw [← ls_len, hly, ← ls_len r]; exact ln2_lt _ h10
          simp only [Option.getD_some, Option.isSome_some, Dc.v] at HL
          clear HI e1 hr hw hrt hnl h10 hm ho HP hlx hly hx hy hd1 hd2
          go_wp2_with (first | (go_at_call 22; refine (HC.out _).mono ?_; rintro e w1 ⟨rfl, hb1⟩; have HB1 : Hid (Rp w.heap.size w1 (.slice p acc.length cap) acc ∧ Below w.heap.size w w1) := ⟨HR.out.1.below hb1, HR.out.2.trans (hb1.mono HR.out.2.size)⟩; clear hb1) | (go_at_call 23; refine (HL.out _ HB1.out.2).mono ?_; rintro e w2 ⟨rfl, hb2⟩; have HB2 : Hid (Rp w.heap.size w2 (.slice p acc.length cap) acc ∧ Below w.heap.size w w2) := ⟨HB1.out.1.below hb2, HB1.out.2.trans (hb2.mono HB1.out.2.size)⟩; clear hb2) | (at_builtin; refine app_piece rfl _ _ rfl w.heap.size (.slice p acc.length cap) acc d rfl ((HB2.out.1.below ((Below.refl _ _).alloc (Nat.le_refl _) _)).below ((Below.refl _ _).alloc (Nat.le_refl _) _)) _ _ rfl (heap_new2 _ _ _) hal2 (by rw [World.size_alloc, World.size_alloc]; have := HB2.out.2.size; omega) ?_))
          intro v3 w3 hr3 hb3 _ _
          obtain ⟨p3, cp3, rfl, _, _⟩ := hr3.shape
          have HR3 : Hid (Rp w.heap.size w3 (.slice p3 (acc ++ [d]).length cp3) (acc ++ [d]) ∧ Below w.heap.size w w3) := ⟨hr3, ((HB2.out.2.alloc HB2.out.2.size _).alloc (by rw [World.size_alloc]; have := HB2.out.2.size; omega) _).trans hb3⟩
          have HN : Hid ((acc ++ [d]).length = acc.length + 1) := by show _ = _; simp
          obtain ⟨nn, hnn⟩ : ∃ nn, (acc ++ [d]).length = nn := ⟨_, rfl⟩
          rw [hnn] at HR3 ⊢
          clear hr3 hb3 hnn
          go_wp2_with fail
          refine ⟨⟨y, acc ++ [d], rfl, by have := HE.out.2.2; omega, by rw [HN.out]; have := HE.out.2.2; omega, HE.out.1, HE.out.2.1, HR3.out⟩, ?_⟩
          show y.size < r.size
          exact HE.out.2.2
      · have hm : cB 10 r = false := by simp [cB, h10]
        rw [hm] at HC
        have HQ : Hid (prs (ls s) = ([], 71, ((acc.length + 1 : Nat) : Int))) := by
          show _ = _; rw [HP.out, ← e1, prs1_no acc hnl h10]; rfl
        generalize o.isSome = g at HL
        generalize o.getD z0 = d at HL
        simp only [Dc.v] at HL
        clear HI e1 hr hw hrt hnl h10 hm ho HP hlx hly hx hy
        go_wp2_with (first | (go_at_call 22; refine (HC.out _).mono ?_; rintro e w1 ⟨rfl, hb1⟩; have HB1 : Hid (Below w.heap.size w w1) := HR.out.2.trans (hb1.mono HR.out.2.size); clear hb1) | (go_at_call 23; refine (HL.out _ HB1.out).mono ?_; rintro e w2 ⟨rfl, hb2⟩; have HB2 : Hid (Below w.heap.size w w2) := HB1.out.trans (hb2.mono HB1.out.size); clear hb2))
        go_ret3
        unfold PV
        rw [HQ.out]
        exact ⟨⟨_, rfl, rp_nil _ _⟩, HB2.out.alloc HB2.out.size _⟩
end Go.Proofs.YtlpmnkiieibipaaDoor
