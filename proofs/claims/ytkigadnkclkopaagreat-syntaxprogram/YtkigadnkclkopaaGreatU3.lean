import Derived.Test.YtkigadnkclkopaaGreatU1
import Derived.Test.YtkigadnkclkopaaGreatG9
import Derived.Test.YtkigadnkclkopaaGreatUo
set_option linter.unusedVariables false
set_option linter.unusedSimpArgs false
namespace Go.Proofs.YtkigadnkclkopaaGreat
open Go.RowKit

/-! What lies between two tokens' nodes (no memory). -/
def cpl : List (Int × Nat) → List (Int × Nat) → Nat
  | x :: a, y :: b => if x = y then cpl a b + 1 else 0
  | _, _ => 0
def clE (x : Int × Nat) : Ev := ⟨3, x.1, tv0⟩
def opE (x : Int × Nat) : Ev := ⟨1, x.1, tv0⟩
def btw (a b : List (Int × Nat)) : List Ev := (a.drop (cpl a b)).reverse.map clE ++ (b.drop (cpl a b)).map opE
theorem cpl_base (x y : List (Int × Nat)) : ∀ base : List (Int × Nat), cpl (base ++ x) (base ++ y) = base.length + cpl x y
  | [] => by simp
  | z :: base => by
    simp only [List.cons_append, cpl, if_true, List.length_cons, cpl_base x y base]
    omega
theorem btw_split {base x y : List (Int × Nat)} (h : ∀ u v a b, x = u :: a → y = v :: b → u ≠ v) : btw (base ++ x) (base ++ y) = x.reverse.map clE ++ y.map opE := by
  have h0 : cpl x y = 0 := by
    cases x with
    | nil => rfl
    | cons u a =>
      cases y with
      | nil => rfl
      | cons v b => simp only [cpl, if_neg (h u v a b rfl rfl)]
  unfold btw
  rw [cpl_base, h0, Nat.add_zero, List.drop_left, List.drop_left]
theorem cpl_le : ∀ a b : List (Int × Nat), cpl a b ≤ a.length ∧ cpl a b ≤ b.length
  | [], b => by cases b <;> simp [cpl]
  | x :: a, [] => by simp [cpl]
  | x :: a, y :: b => by
    simp only [cpl]
    have := cpl_le a b
    split
    · simp; omega
    · simp
/-- Closes take the last nodes off. -/
theorem cl_split : ∀ (c : List Ev) (p : List (Int × Nat)) (s1 : List Int), (∀ e ∈ c, e.k = 3 ∧ e.d = tv0) → play (p.map (·.1)).reverse c = some s1 → ∃ base x, p = base ++ x ∧ c = x.reverse.map clE ∧ s1 = (base.map (·.1)).reverse ∧ ∀ s, pev c (p, s) = (base, s)
  | [], p, s1, _, h => ⟨p, [], by simp, rfl, by cases h; rfl, fun s => rfl⟩
  | e :: c, p, s1, hc, h => by
    obtain ⟨h3, hd⟩ := hc e (List.mem_cons_self ..)
    have h1 : ¬ e.k = 1 := by omega
    rcases List.eq_nil_or_concat p with rfl | ⟨p', z, rfl⟩
    · simp [play, h1, h3] at h
    · have e0 : (p' ++ [z]).map (·.1) = p'.map (·.1) ++ [z.1] := by simp
      rw [List.concat_eq_append] at h ⊢
      rw [e0, List.reverse_append] at h
      simp only [List.reverse_cons, List.reverse_nil, List.nil_append, List.singleton_append, play, if_neg h1, if_pos h3] at h
      split at h
      · rename_i hz
        obtain ⟨base, x, a1, a2, a3, a4⟩ := cl_split c p' s1 (fun y hy => hc y (List.mem_cons_of_mem _ hy)) h
        refine ⟨base, x ++ [z], by rw [a1, List.append_assoc], ?_, a3, fun s => ?_⟩
        · rw [List.reverse_append, List.map_append, a2]
          have : e = clE z := by
            obtain ⟨ek, en, ed⟩ := e
            simp only at h3 hd hz
            subst h3 hd hz
            rfl
          rw [this]
          rfl
        · simp only [pev, if_neg h1, if_pos h3, List.dropLast_concat]
          exact a4 s
      · cases h
/-- Opens lay new ones behind. -/
theorem op_split : ∀ (o : List Ev) (p : List (Int × Nat)) (s : Nat), (∀ e ∈ o, e.k = 1 ∧ e.d = tv0) → ∃ y, pev o (p, s) = (p ++ y, s + o.length) ∧ o = y.map opE ∧ ∀ v ∈ y, s < v.2 ∧ v.2 ≤ s + o.length
  | [], p, s, _ => ⟨[], by simp [pev], rfl, fun v h => by cases h⟩
  | e :: o, p, s, ho => by
    obtain ⟨h1, hd⟩ := ho e (List.mem_cons_self ..)
    obtain ⟨y, a1, a2, a3⟩ := op_split o (p ++ [(e.n, s + 1)]) (s + 1) (fun x hx => ho x (List.mem_cons_of_mem _ hx))
    refine ⟨(e.n, s + 1) :: y, ?_, ?_, ?_⟩
    · simp only [pev, if_pos h1, a1, List.length_cons]
      simp
      omega
    · obtain ⟨ek, en, ed⟩ := e
      simp only at h1 hd
      subst h1 hd
      rw [List.map_cons, ← a2]
      rfl
    · intro v hv
      rcases List.mem_cons.1 hv with rfl | hv
      · simp
      · have := a3 v hv
        simp
        omega
def SerOk (p : List (Int × Nat)) (s : Nat) : Prop := ∀ x ∈ p, x.2 ≤ s
/-- A token's events are what lies between. -/
theorem btw_pev {p : List (Int × Nat)} {s : Nat} {o c op : List Ev} {K K2 : List It} (hs : SerOk p s) (hp : p.map (·.1) = (lvs K).reverse) (e : o = c ++ op) (hc : ∀ e ∈ c, e.k = 3) (ho : ∀ e ∈ op, e.k = 1) (hd : ∀ e ∈ o, e.d = tv0) (hpl : play (lvs K) o = some (lvs K2)) :
    btw p (pev o (p, s)).1 = o ∧ SerOk (pev o (p, s)).1 (pev o (p, s)).2 ∧ (pev o (p, s)).2 ≤ s + o.length := by
  have hl : lvs K = (p.map (·.1)).reverse := by rw [hp, List.reverse_reverse]
  subst e
  rw [hl] at hpl
  have hc' : ∀ e ∈ c, e.k = 3 ∧ e.d = tv0 := fun e he => ⟨hc e he, hd e (List.mem_append_left _ he)⟩
  have ho' : ∀ e ∈ op, e.k = 1 ∧ e.d = tv0 := fun e he => ⟨ho e he, hd e (List.mem_append_right _ he)⟩
  obtain ⟨s1, hs1⟩ : ∃ s1, play (p.map (·.1)).reverse c = some s1 := by
    clear hc' ho' hd ho
    generalize (p.map (·.1)).reverse = q at hpl
    induction c generalizing q with
    | nil => exact ⟨q, rfl⟩
    | cons e c ih =>
      have h3 := hc e (List.mem_cons_self ..)
      have h1 : ¬ e.k = 1 := by omega
      simp only [List.cons_append, play, if_neg h1, if_pos h3] at hpl ⊢
      cases q with
      | nil => cases hpl
      | cons n q =>
        simp only at hpl ⊢
        split
        · rename_i hz
          rw [if_pos hz] at hpl
          exact ih (fun x hx => hc x (List.mem_cons_of_mem _ hx)) q hpl
        · rename_i hz
          rw [if_neg hz] at hpl
          cases hpl
  obtain ⟨base, x, a1, a2, a3, a4⟩ := cl_split c p s1 hc' hs1
  obtain ⟨y, b1, b2, b3⟩ := op_split op base s ho'
  rw [pev_app, a4 s, b1]
  subst a1
  refine ⟨?_, ?_, by simp⟩
  · show btw (base ++ x) (base ++ y) = c ++ op
    rw [btw_split, ← a2, ← b2]
    intro u v a b e1 e2 e3
    have h1 := hs u (by rw [e1]; simp)
    have h2 := (b3 v (by rw [e2]; simp)).1
    rw [e3] at h1
    omega
  · intro z hz
    simp only at hz ⊢
    rcases List.mem_append.1 hz with h | h
    · have := hs z (List.mem_append_left _ h)
      omega
    · exact (b3 z h).2

theorem btw_nil (a : List (Int × Nat)) : btw a [] = a.reverse.map clE := by
  have h0 : cpl a [] = 0 := by cases a <;> rfl
  unfold btw
  simp [h0]
/-- The document's events, out of each token's nodes. -/
def rec14 : List Tv → List (Int × Nat) → List (List (Int × Nat)) → List Ev
  | [], now, _ => btw now []
  | t :: r, now, q => if cmm t then ntE t :: rec14 r now q else btw now (q.headD []) ++ ⟨2, 0, t⟩ :: rec14 r (q.headD []) q.tail
theorem pev_play : ∀ (o : List Ev) (p : List (Int × Nat)) (s : Nat) (q : List Int), (∀ e ∈ o, e.k = 1 ∨ e.k = 3) → play (p.map (·.1)).reverse o = some q → ((pev o (p, s)).1.map (·.1)).reverse = q
  | [], p, s, q, _, h => by cases h; rfl
  | e :: o, p, s, q, ho, h => by
    have he := ho e (by simp)
    have ho' : ∀ e ∈ o, e.k = 1 ∨ e.k = 3 := fun x hx => ho x (by simp [hx])
    simp only [play] at h
    simp only [pev]
    by_cases h1 : e.k = 1
    · rw [if_pos h1] at h ⊢
      exact pev_play o _ _ q ho' (by simpa using h)
    · rw [if_neg h1] at h ⊢
      have h3 : e.k = 3 := by rcases he with h | h; exact absurd h h1; exact h
      rw [if_pos h3] at h ⊢
      rcases List.eq_nil_or_concat p with rfl | ⟨p', z, rfl⟩
      · simp at h
      · rw [List.concat_eq_append] at h ⊢
        rw [List.map_append, List.reverse_append] at h
        simp only [List.map_cons, List.map_nil, List.reverse_cons, List.reverse_nil, List.nil_append, List.singleton_append] at h
        split at h
        · rw [List.dropLast_concat]
          exact pev_play o p' s q ho' h
        · cases h
theorem pts_oc : ∀ (o : List Ev) (x : List (Int × Nat) × Nat), (∀ e ∈ o, e.k = 1 ∨ e.k = 3) → pts o x = []
  | [], x, _ => rfl
  | e :: o, (p, s), h => by
    have he := h e (by simp)
    have h' : ∀ e ∈ o, e.k = 1 ∨ e.k = 3 := fun x hx => h x (by simp [hx])
    simp only [pts]
    rcases he with he | he
    · rw [if_pos he]; exact pts_oc o _ h'
    · rw [if_neg (by omega), if_pos he]; exact pts_oc o _ h'
/-- The parser's events are the document's. -/
theorem alr_rec : ∀ (l : List Tv) (K : List It) (n : Int) (p : List (Int × Nat)) (s : Nat) (E : List Ev) (k : Nat), Good (.live K n) → n ≠ 0 → p.map (·.1) = (lvs K).reverse → SerOk p s → Alr (.live K n) l E 0 k → E = rec14 l p (pts E (p, s)) ∧ (pts E (p, s)).length = (tks l).length ∧ ∀ q ∈ pts E (p, s), q.length ≤ 1000
  | [], K, n, p, s, E, k, hg, hn, hp, hs, h => by
    obtain ⟨hc, rfl⟩ := h.end
    cases hc with
    | all hh =>
      have hK : K = [.lv 1] := by
        rcases hg.2 with ⟨h0, _⟩ | ⟨X, rfl⟩
        · exact absurd h0 hn
        · have : X = [] := by simp at hh; exact hh
          rw [this]; rfl
      subst hK
      have hp1 : p.map (·.1) = [1] := by rw [hp]; rfl
      obtain ⟨x, rfl⟩ : ∃ x, p = [x] := by
        have h1 := congrArg List.length hp1
        simp at h1
        exact List.length_eq_one_iff.1 h1
      have hx : x.1 = 1 := by simpa using hp1
      refine ⟨?_, by simp [pts, tks], by simp [pts]⟩
      show _ = btw [x] []
      rw [btw_nil]
      simp [clE, hx]
  | t :: r, K, n, p, s, E, k, hg, hn, hp, hs, h => by
    rcases h.inv with ⟨ev, st', hpu, hcd, _, _⟩ | ⟨ev, st', E2, k2, hpu, hR2, rfl, rfl⟩
    · exact absurd rfl hcd
    · obtain ⟨b1, b2, b3⟩ := beg_self (K := K) hn
      have hgs := (put_keep hg hpu).1
      cases hpu with
      | note hh =>
        rw [b1, b2] at hR2 hgs
        rw [b3]
        obtain ⟨i1, i2, i3⟩ := alr_rec r K n p s E2 k2 hgs hn hp hs hR2
        have hc : cmm t = true := by unfold cmm; exact hh
        have e0 : pts (([] ++ [⟨4, 0, t⟩]) ++ E2) (p, s) = pts E2 (p, s) := by simp [pts]
        rw [e0]
        refine ⟨?_, by rw [toks_c hc]; exact i2, i3⟩
        rw [rec14, if_pos hc, ← i1]
        rfl
      | yes hh hR hk hm2 =>
        rename_i L m2 E1 k1
        obtain ⟨g1, g2, g3, g4, g5, gbot, gbn, gbe⟩ := good_beg hg
        obtain ⟨c1, c2, c3, o, c4, c5, c6, c7⟩ := ru_keep hR rfl g1 g2 g3
        obtain ⟨cc, oo, e1, e2, e3⟩ := ru_phase hR rfl g1
        rw [b1] at c5
        rw [b3, List.nil_append] at c4 e1
        subst c4
        obtain ⟨f1, f2, f3⟩ := btw_pev (K2 := L) hs hp e1 e2 e3 (fun e he => (c6 e he).1) c5
        have hpl : play (p.map (·.1)).reverse E1 = some (lvs L) := by rw [hp, List.reverse_reverse]; exact c5
        have hp2 : (pev E1 (p, s)).1.map (·.1) = (lvs L).reverse := by
          have := pev_play E1 p s _ (fun e he => (c6 e he).2.1) hpl
          rw [← this, List.reverse_reverse]
        have hn2 : m2 ≠ 0 := by
          have h5 := bot_lv (ru_bot hR rfl gbot)
          omega
        obtain ⟨i1, i2, i3⟩ := alr_rec r L m2 _ _ E2 k2 hgs hn2 hp2 f2 hR2
        have hc : cmm t = false := by unfold cmm; exact hh
        have e0 : pts ((E1 ++ [⟨2, 0, t⟩]) ++ E2) (p, s) = (pev E1 (p, s)).1 :: pts E2 (pev E1 (p, s)) := by
          rw [List.append_assoc, pts_app, pts_oc E1 _ (fun e he => (c6 e he).2.1)]
          simp [pts]
        rw [e0]
        refine ⟨?_, by rw [toks_t hc]; simp; exact i2, ?_⟩
        · rw [rec14, if_neg (by rw [hc]; decide)]
          simp only [List.headD_cons, List.tail_cons, f1]
          rw [← i1]
          simp
        · intro q hq
          rcases List.mem_cons.1 hq with rfl | hq
          · have h1 := congrArg List.length hp2
            simp at h1
            omega
          · exact i3 q hq
theorem alr_doc {l : List Tv} {E : List Ev} {k : Nat} (h : Alr (.live [] 0) l E 0 k) : E = ⟨1, 1, tv0⟩ :: rec14 l [(1, 1)] (pz E) ∧ (pz E).length = (tks l).length ∧ ∀ q ∈ pz E, q.length ≤ 1000 := by
  by_cases hl : l = []
  · subst hl
    obtain ⟨hc, rfl⟩ := h.end
    cases hc with
    | all hh => simp at hh
  · obtain ⟨E1, h1, h2⟩ := alr_first h hl
    rw [h2 rfl]
    have hz : pz (⟨1, 1, tv0⟩ :: E1) = pts E1 ([(1, 1)], 1) := by simp [pz, pts]
    rw [hz]
    obtain ⟨a, b, c⟩ := alr_rec l _ 1 [(1, 1)] 1 E1 k good_one (by decide) rfl (fun x hx => by simp at hx; subst hx; exact Nat.le_refl _) h1
    exact ⟨by rw [← a], b, c⟩
/-- What the reader's answer says, by the parser's. -/
theorem doc_ans {l : List Tv} {E : List Ev} {code : Int} {k : Nat} (h : Alr (.live [] 0) l E code k) {dz d' : D} (hb : Rb (tks l) progR (opD 1 (d00 (fun j => (nts l j).map ntE))) dz) (hd : (dz.e = 0 ∧ dz.i < (tks l).length ∧ d' = { dz with e := 120 }) ∨ (¬ (dz.e = 0 ∧ dz.i < (tks l).length) ∧ d' = dz)) :
    d'.e = code ∧ (code ≠ 0 → k = ps l d'.i) ∧ (code = 0 → pz d'.v = pz E) := by
  obtain ⟨f1, f2⟩ := alr_top h hb
  by_cases hc : code = 0
  · obtain ⟨a1, a2, E0, a3, a4⟩ := f1 hc
    have e : d' = dz := by
      rcases hd with ⟨_, h, _⟩ | ⟨_, h⟩
      · omega
      · exact h
    subst e
    refine ⟨by rw [a1, hc], fun h => absurd hc h, fun _ => ?_⟩
    rw [a3, a4]
    have n1 : ∀ x, pts ((lead l).map ntE) x = [] ∧ pev ((lead l).map ntE) x = x := fun x => nts_quiet _ x (fun e he => by obtain ⟨c, _, rfl⟩ := List.mem_map.1 he; rfl)
    simp only [pz, pts, if_true, List.nil_append]
    rw [pts_app, pts_app, (n1 _).1, (n1 _).2]
    simp [pts]
  · obtain ⟨a1, a2⟩ := f2 hc
    refine ⟨?_, fun _ => ?_, fun h => absurd h hc⟩
    · rcases hd with ⟨h1, h2, rfl⟩ | ⟨h1, rfl⟩
      · rcases a1 with a1 | ⟨a1, _⟩
        · exact absurd (a1.symm.trans h1) hc
        · exact a1.symm
      · rcases a1 with a1 | ⟨_, a3⟩
        · exact a1
        · exact absurd a3 h1
    · rcases hd with ⟨_, _, rfl⟩ | ⟨_, rfl⟩
      · exact a2
      · exact a2

end Go.Proofs.YtkigadnkclkopaaGreat

set_option linter.unusedVariables false
set_option linter.unusedSimpArgs false
namespace Go.Proofs.YtkigadnkclkopaaGreat
open Go.RowKit

/-! Read; Between. -/
/-- What Read leaves. -/
def RdO (X : Rx) (N : Nat → List Ev) (w' : World) : Prop := ∃ dz d', Rb X.L progR (opD 1 (d00 N)) dz ∧ ((dz.e = 0 ∧ dz.i < X.L.length ∧ d' = { dz with e := 120 }) ∨ (¬ (dz.e = 0 ∧ dz.i < X.L.length) ∧ d' = dz)) ∧ RD X 0 d' w'
set_option maxHeartbeats 1000000 in
theorem read_doc (N : Nat → List Ev) (hN : ∀ j e, e ∈ N j → e.k = 4) (ao : Option Addr) (cap : Nat) (L : List Tv) (w : World) (hLt : Lt w ao L) (hL : L.length ≤ 4194304) :
    Calls Tryz.prog 22 #[.slice ao L.length cap, .bool true] w fun e w' => e = .returned (pt w.heap.size) ∧ RdO ⟨w, ao, cap, L, w.heap.size⟩ N w' := by
  have HP : Hid (∀ W, W = w.alloc (.cells #[.slice ao L.length cap, .int .i64 0, nilS, .int .i64 0, .bool true, nilS, nilS, .int .i64 0] 67) → Calls Tryz.prog 40 #[pt w.heap.size] W fun e w' => e = .returned (.tuple #[]) ∧ RdO ⟨w, ao, cap, L, w.heap.size⟩ N w') := by
    intro W eW
    have hb : Below w.heap.size w W := by rw [eW]; exact below_new _ _
    have hn : W.heap[w.heap.size]? = some (.cells #[.slice ao L.length cap, .int .i64 0, nilS, .int .i64 0, .bool true, nilS, nilS, .int .i64 0] 67) := by rw [eW]; exact new_at _ _
    have hRD : RD ⟨w, ao, cap, L, w.heap.size⟩ 0 (d00 N) W := ⟨hb, hLt, Nat.le_refl _, hL, ⟨nilS, nilS, nilS, hn, rp_nil _, rq_nil _ _, (fun k e => by cases e), (fun k e => by cases e), ⟨none, 0, 0, rfl⟩⟩, Nat.zero_le _, (fun _ => Nat.zero_le _), Nat.zero_le _, Nat.zero_le _, hN, rfl, Nat.zero_le _⟩
    refine (yprogram_any hRD (by omega)).mono ?_
    rintro e w' ⟨rfl, dz, d', h1, h2, h3⟩
    exact ⟨rfl, dz, d', h1, h3, h2⟩
  clear hLt
  go_enter Tryz.func22, Tryz.ntmps22
  go_wp2_with fail
  refine (HP.out _ rfl).mono ?_
  rintro e w1 ⟨rfl, h1⟩
  have H1 := show Hid _ from h1
  clear h1 HP
  go_wp2_with fail
  go_ret
  exact ⟨rfl, H1.out⟩
theorem st_cells {W : World} {v : Value} {p : List (Int × Nat)} (h : Rp W v p) {i : Nat} {x : Int × Nat} (hi : p[i]? = some x) : ∃ b cap, v = .slice (some ⟨b, 0, none⟩) p.length cap ∧ b < W.heap.size ∧ W.cell? ⟨b, i * 2, none⟩ = some (.int .u8 x.1) ∧ W.cell? ⟨b, i * 2 + 1, none⟩ = some (.int .i64 (x.2 : Int)) := by
  have hil := (List.getElem?_eq_some_iff.1 hi).1
  rcases h.2 with ⟨_, h0⟩ | ⟨b, cap, cur, rfl, _, h2, _⟩
  · omega
  · have hc : ∀ (k : Nat) (u : Value), (scs p)[k]? = some u → W.cell? ⟨b, k, none⟩ = some u := fun k u hu => by
      have := World.ownsRow.cells h (g := b) rfl k u hu
      rw [Addr.add_lit, Nat.zero_add] at this
      exact this
    exact ⟨b, cap, rfl, blk_lt h2, hc _ _ (flat_at _ 2 (fun _ => rfl) p i 0 x _ hi rfl), hc _ _ (flat_at _ 2 (fun _ => rfl) p i 1 x _ hi rfl)⟩
theorem cpl_step {a b : List (Int × Nat)} {n : Nat} (h : n ≤ cpl a b) : (∀ x y, a[n]? = some x → b[n]? = some y → (x = y ↔ n < cpl a b)) ∧ (n < cpl a b → n < a.length ∧ n < b.length) ∧ (n = cpl a b → n < a.length → n < b.length → ∀ x y, a[n]? = some x → b[n]? = some y → x ≠ y) := by
  induction a generalizing b n with
  | nil =>
    have h0 : cpl [] b = 0 := by cases b <;> rfl
    rw [h0] at h ⊢
    exact ⟨(fun x y h => by simp at h), (fun h => by omega), (fun _ h => by simp at h)⟩
  | cons u a ih =>
    cases b with
    | nil =>
      have h0 : cpl (u :: a) [] = 0 := rfl
      rw [h0] at h ⊢
      exact ⟨(fun x y _ h => by simp at h), (fun h => by omega), (fun _ _ h => by simp at h)⟩
    | cons v b =>
      by_cases e : u = v
      · have hc : cpl (u :: a) (v :: b) = cpl a b + 1 := by simp only [cpl, if_pos e]
        rw [hc] at h ⊢
        cases n with
        | zero =>
          refine ⟨fun x y h1 h2 => ?_, fun _ => by simp, fun h0 => by omega⟩
          simp at h1 h2
          subst h1 h2
          exact ⟨fun _ => by omega, fun _ => e⟩
        | succ n =>
          obtain ⟨a1, a2, a3⟩ := ih (b := b) (n := n) (by omega)
          refine ⟨fun x y h1 h2 => ?_, fun h1 => ?_, fun h0 h1 h2 x y h3 h4 => ?_⟩
          · have := a1 x y (by simpa using h1) (by simpa using h2)
            rw [this]
            omega
          · have := a2 (by omega)
            simp
            exact this
          · exact a3 (by omega) (by simpa using h1) (by simpa using h2) x y (by simpa using h3) (by simpa using h4)
      · have hc : cpl (u :: a) (v :: b) = 0 := by simp only [cpl, if_neg e]
        rw [hc] at h ⊢
        obtain rfl : n = 0 := by omega
        refine ⟨fun x y h1 h2 => ?_, fun h => by omega, fun _ _ _ x y h1 h2 => ?_⟩
        · simp at h1 h2
          subst h1 h2
          exact ⟨fun h => absurd h e, fun h => by omega⟩
        · simp at h1 h2
          subst h1 h2
          exact e

end Go.Proofs.YtkigadnkclkopaaGreat
