import Derived.Test.YtkglkhijngpgiaaYc
set_option linter.unusedVariables false
set_option linter.unusedSimpArgs false
namespace Go.Proofs.Ytkglkhijngpgiaa
open Go.RowKit

/-! The law's 'all'. -/
theorem Kp.low {S : Nat → Prop} {B : Nat} {w W W' : World} (h : Below B w W) (hk : Kp S W W') (hS : ∀ k, S k → B ≤ k) (hB : B ≤ W.heap.size) : Below B w W' :=
  ⟨hk.os.trans h.os, hk.tape.trans h.tape, hk.output.trans h.output, Nat.le_trans h.size hk.size, fun k hlt => (hk.block k (by omega) (fun hs => by have := hS k hs; omega)).trans (h.block k hlt)⟩
/-- Between two rounds. -/
structure AI (w : World) (g : Nat) (v : Value) (E : List Ev) (st : St) (S : Nat → Prop) (W : World) : Prop where
  bel : Below w.heap.size w W
  pq : Pq S W g st
  gd : Good st
  sB : ∀ k, S k → w.heap.size ≤ k ∧ k < W.heap.size
  re : Re W v E
  vB : ∀ k, v.ownBlock = some k → w.heap.size ≤ k ∧ ¬ S k
theorem AI.below {w : World} {g : Nat} {v : Value} {E : List Ev} {st : St} {S : Nat → Prop} {W W' : World} (h : AI w g v E st S W) (hb : Below W.heap.size W W') : AI w g v E st S W' :=
  ⟨h.bel.trans (hb.mono h.bel.size), h.pq.below hb, h.gd, fun k hk => ⟨(h.sB k hk).1, Nat.lt_of_lt_of_le (h.sB k hk).2 hb.size⟩, h.re.below hb, h.vB⟩
/-- Behind a call. -/
structure AJ (w : World) (g : Nat) (v x : Value) (E ev : List Ev) (st : St) (W : World) : Prop where
  rv : Re W v E
  rx : Re W x ev
  fin : ∀ v' w', Re w' v' (E ++ ev) → Kp (fun k => v.ownBlock = some k) W w' → Nb W v v' → ∃ S, AI w g v' (E ++ ev) st S w'
  ex : ∃ S, AI w g v E st S W
theorem AI.call {w : World} {g : Nat} {v : Value} {E : List Ev} {st : St} {S : Nat → Prop} {W W' : World} (h : AI w g v E st S W) {x : Value} {ev : List Ev} {st' : St} (hp : Pa S g W W' x ev st') (hg : Good st') : AJ w g v x E ev st' W' := by
  obtain ⟨S', p1, p2, p3, p4⟩ := hp.ex
  have hb : Below w.heap.size w W' := Kp.low h.bel hp.kp (fun k hk => (h.sB k hk).1) h.bel.size
  have hs' : ∀ k, S' k → w.heap.size ≤ k ∧ k < W'.heap.size := by
    intro k hk
    rcases p3 k hk with a | a
    · exact ⟨(h.sB k a).1, Nat.lt_of_lt_of_le (h.sB k a).2 hp.kp.size⟩
    · exact ⟨Nat.le_trans h.bel.size a.1, a.2⟩
  have hv : Re W' v E := h.re.kp hp.kp (fun k e => (h.vB k e).2)
  have hvS : ∀ k, v.ownBlock = some k → w.heap.size ≤ k ∧ ¬ S' k := by
    intro k e
    refine ⟨(h.vB k e).1, fun hs => ?_⟩
    rcases p3 k hs with a | a
    · exact (h.vB k e).2 a
    · have := h.re.lt k e; omega
  refine ⟨hv, hp.re, fun v' w' hr hk hn => ⟨S', ?_⟩, S', hb, p1, hg, hs', hv, hvS⟩
  refine ⟨Kp.low hb hk (fun k e => (h.vB k e).1) hb.size, p1.kp hk (fun k hs e => (hvS k e).2 hs), hg, fun k hs => ⟨(hs' k hs).1, Nat.lt_of_lt_of_le (hs' k hs).2 hk.size⟩, hr, ?_⟩
  intro k e
  rcases hn with e1 | ⟨q, e1, hq⟩
  · exact hvS k (by rw [← e1]; exact e)
  · rw [e1] at e
    simp at e
    subst e
    exact ⟨Nat.le_trans hb.size hq, fun hs => by have := (hs' _ hs).2; omega⟩
theorem Lt.cell6 {W : World} {ao : Option Addr} {l : List Tv} (h : Lt W ao l) {j : Nat} {d : Tv} (hj : l[j]? = some d) : ∃ b off, ao = some ⟨b, off, none⟩ ∧ W.cell? ⟨b, off + j * 6, none⟩ = some (.int .u8 d.k) ∧ W.cell? ⟨b, off + j * 6 + 1, none⟩ = some (.string d.t) ∧ W.cell? ⟨b, off + j * 6 + 2, none⟩ = some (.int .i64 d.a) ∧ W.cell? ⟨b, off + j * 6 + 3, none⟩ = some (.int .i64 d.l) ∧ W.cell? ⟨b, off + j * 6 + 4, none⟩ = some (.int .i64 d.c) ∧ W.cell? ⟨b, off + j * 6 + 5, none⟩ = some (.int .i64 d.f) := h j d hj

set_option maxHeartbeats 1000000 in
theorem all_any (ao : Option Addr) (l : List Tv) (cap : Nat) (w : World) (hL : Lt w ao l) (hl : l.length ≤ 1048576) {E : List Ev} {code : Int} {k : Nat} (hA : Alr (.live [] 0) l E code k) :
    Calls Try.prog 6 #[.slice ao l.length cap] w fun r w' => ∃ v, r = .returned (.tuple #[v, .int .i64 code, .int .i64 k]) ∧ Re w' v E ∧ Below w.heap.size w w' ∧ (∀ k, v.ownBlock = some k → w.heap.size ≤ k) := by
  have HL : Hid (Lt w ao l ∧ l.length ≤ 1048576) := ⟨hL, hl⟩
  have HA : Hid (Alr (.live [] 0) l E code k) := hA
  clear hL hA
  go_enter Try.func6, Try.ntmps6
  go_wp2_with fail
  refine (new_st _).mono ?_
  rintro r w1 ⟨rfl, hq, hb, hs1⟩
  obtain ⟨g, hg⟩ : ∃ g, w.heap.size = g := ⟨_, rfl⟩
  have HI : Hid (∃ S, AI w w.heap.size nilS [] (.live [] 0) S w1) := ⟨_, hb, hq, good_new, fun k e => by rw [e]; omega, re_nil _, fun k e => by cases e⟩
  rw [hg] at HI ⊢
  have HG : Hid (w.heap.size = g) := hg
  clear hq hb hs1 hg
  go_wp2_with fail
  go_loopw [6, 7, 8, 9] (fun v i _ _ wr => ∃ j : Nat, j ≤ l.length ∧ i = .int .i64 j ∧ Hid (∃ S st E0 E1 k1, AI w g v E0 st S wr ∧ Alr st (l.drop j) E1 code k1 ∧ E = E0 ++ E1 ∧ k = j + k1 ∧ E0.length ≤ 30000 * j)) (fun _ i _ _ _ => l.length - (intOf i).toNat)
  case atStart =>
    obtain ⟨S, hI⟩ := HI.out
    exact ⟨0, Nat.zero_le _, rfl, S, _, [], E, k, hI, HA.out, rfl, by omega, by simp⟩
  case round =>
    obtain ⟨j, hj, rfl, HJ⟩ := hrel
    obtain ⟨S, st, E0, E1, k1, hI, hR, hE, hk, hz⟩ := HJ.out
    obtain ⟨pv, cv, hv, _⟩ := hI.re.shape
    subst hv
    by_cases hlt : j < l.length
    · have q1 : (j : Int) < l.length := by omega
      have q0 : (0 : Int) ≤ j := by omega
      obtain ⟨t, ht⟩ : ∃ t, l[j]? = some t := ⟨_, List.getElem?_eq_getElem hlt⟩
      have hdr : l.drop j = t :: l.drop (j + 1) := by
        obtain ⟨a1, a2⟩ := List.getElem?_eq_some_iff.1 ht
        rw [List.drop_eq_getElem_cons a1, a2]
      obtain ⟨b, off, rfl, x0, x1, x2, x3, x4, x5⟩ := (HL.out.1.below hI.bel).cell6 ht
      rw [hdr] at hR
      clear HJ HI HA hdr ht
      rcases hR.inv with ⟨ev, st', hp, hc, rfl, rfl⟩ | ⟨ev, st', E2, k2, hp, hR2, rfl, rfl⟩
      · have HP : Hid (Calls Try.prog 12 #[pt g, .agg #[.int .u8 t.k, .string t.t, .int .i64 t.a, .int .i64 t.l, .int .i64 t.c, .int .i64 t.f]] wr fun r w' => ∃ v, r = .returned (.tuple #[v, .int .i64 code]) ∧ Pa S g wr w' v ev st') := put_any hI.pq (fun k hk => (hI.sB k hk).2) hI.gd.ok hp
        have HN : Hid (∀ w' x, Pa S g wr w' x ev st' → AJ w g (.slice pv E0.length cv) x E0 ev st' w') := fun w' x hx => hI.call hx (put_keep hI.gd hp).1
        have HK : Hid (E = E0 ∧ k = j) := ⟨by simpa using hE, by omega⟩
        have q5 : (code != 0) = true := by simpa using hc
        clear hI hR hp hc hE hk
        go_wp2_with fail
        refine HP.out.mono ?_
        rintro r w2 ⟨x, rfl, hx⟩
        have H2 : Hid (AJ w g (.slice pv E0.length cv) x E0 ev st' w2) := HN.out _ _ hx
        obtain ⟨px, cx, hxs, _⟩ := hx.re.shape
        subst hxs
        clear hx
        go_wp2_with fail
        obtain ⟨S2, hI2⟩ := H2.out.ex
        obtain ⟨k1, k2⟩ := HK.out
        refine bodyPost_ret (v := .tuple #[.slice pv E0.length cv, .int .i64 code, .int .i64 j]) (by simp [results, Try.f6, go_sem]) rfl ?_
        exact ⟨_, by rw [k2], by rw [k1]; exact hI2.re, hI2.bel, fun k e => (hI2.vB k e).1⟩
      · have HP : Hid (Calls Try.prog 12 #[pt g, .agg #[.int .u8 t.k, .string t.t, .int .i64 t.a, .int .i64 t.l, .int .i64 t.c, .int .i64 t.f]] wr fun r w' => ∃ v, r = .returned (.tuple #[v, .int .i64 0]) ∧ Pa S g wr w' v ev st') := put_any hI.pq (fun k hk => (hI.sB k hk).2) hI.gd.ok hp
        have HN : Hid (∀ w' x, Pa S g wr w' x ev st' → AJ w g (.slice pv E0.length cv) x E0 ev st' w') := fun w' x hx => hI.call hx (put_keep hI.gd hp).1
        have hel := (put_keep hI.gd hp).2.1
        have HK : Hid (Alr st' (l.drop (j + 1)) E2 code k2 ∧ E = (E0 ++ ev) ++ E2 ∧ k = (j + 1) + k2 ∧ (E0 ++ ev).length ≤ 30000 * (j + 1) ∧ E0.length + ev.length ≤ 1000000000000) := ⟨hR2, by rw [hE, List.append_assoc], by omega, by simp; omega, by have := HL.out.2; omega⟩
        clear hI hR hp hE hk hR2 hel
        go_wp2_with fail
        refine HP.out.mono ?_
        rintro r w2 ⟨x, rfl, hx⟩
        have H2 : Hid (AJ w g (.slice pv E0.length cv) x E0 ev st' w2) := HN.out _ _ hx
        obtain ⟨px, cx, hxs, _⟩ := hx.re.shape
        subst hxs
        clear hx
        go_wp2_with (at_builtin; refine app_evs (by rfl) _ _ (by rfl) (.slice pv E0.length cv) (.slice px ev.length cx) E0 ev (by rfl) H2.out.rv (by rfl) H2.out.rx HK.out.2.2.2.2 ?_; intro v3 w3 h3 k3 n3; have H3 : Hid (∃ S, AI w g v3 (E0 ++ ev) st' S w3) := H2.out.fin _ _ h3 k3 n3; clear h3 k3 n3)
        obtain ⟨S3, hI3⟩ := H3.out
        exact ⟨⟨j + 1, hlt, by go_num, S3, st', E0 ++ ev, E2, k2, hI3, HK.out.1, HK.out.2.1, HK.out.2.2.1, HK.out.2.2.2.1⟩, by simp [intOf]; omega⟩
    · obtain rfl : j = l.length := by omega
      have q1 : ¬ ((l.length : Int) < l.length) := by omega
      rw [List.drop_length] at hR
      obtain ⟨hc, rfl⟩ := hR.end
      have hcl := (close_ex st)
      have HP : Hid (Calls Try.prog 14 #[pt g] wr fun r w' => ∃ v, r = .returned (.tuple #[v, .int .i64 code]) ∧ Pa S g wr w' v E1 .shut) := close_any hI.pq (fun k hk => (hI.sB k hk).2) hI.gd.ok hc
      have HN : Hid (∀ w' x, Pa S g wr w' x E1 .shut → AJ w g (.slice pv E0.length cv) x E0 E1 .shut w') := fun w' x hx => hI.call hx trivial
      have HK : Hid (E = E0 ++ E1 ∧ k = l.length ∧ E0.length + E1.length ≤ 1000000000000) := ⟨hE, by omega, by
        have h1 : E1.length ≤ 1 := by cases hc <;> simp
        have := HL.out.2
        omega⟩
      clear hI hR hE hk hc HJ HI HA hcl
      go_wp2_with fail
      refine HP.out.mono ?_
      rintro r w2 ⟨x, rfl, hx⟩
      have H2 : Hid (AJ w g (.slice pv E0.length cv) x E0 E1 .shut w2) := HN.out _ _ hx
      obtain ⟨px, cx, hxs, _⟩ := hx.re.shape
      subst hxs
      clear hx
      go_wp2_with (at_builtin; refine app_evs (by rfl) _ _ (by rfl) (.slice pv E0.length cv) (.slice px E1.length cx) E0 E1 (by rfl) H2.out.rv (by rfl) H2.out.rx HK.out.2.2 ?_; intro v3 w3 h3 k3 n3; have H3 : Hid (∃ S, AI w g v3 (E0 ++ E1) .shut S w3) := H2.out.fin _ _ h3 k3 n3; clear h3 k3 n3)
      obtain ⟨S3, hI3⟩ := H3.out
      refine bodyPost_ret (v := .tuple #[v3, .int .i64 code, .int .i64 l.length]) (by simp [results, Try.f6, go_sem]) rfl ?_
      exact ⟨_, by rw [HK.out.2.1], by rw [HK.out.1]; exact hI3.re, hI3.bel, fun k e => (hI3.vB k e).1⟩

end Go.Proofs.Ytkglkhijngpgiaa
