import Derived.Test.YtkglkhijngpgiaaGreatG3
set_option linter.unusedVariables false
set_option linter.unusedSimpArgs false
namespace Go.Proofs.YtkglkhijngpgiaaGreat
open Go.RowKit

theorem beg_bd {K : List It} {n : Int} (h : Lz K n) {k : Nat} (hk : k ≤ (beg K n).length + 20) : Bd k (beg K n) (begN n) (begE n) := by
  have h1 := h.lv
  have h2 := h.sn
  have h3 := h.sk
  by_cases h0 : n = 0
  · subst h0
    have hl : (beg K 0).length = K.length + 6 := by simp [beg, progR]
    have e : lvs (beg K 0) = 1 :: lvs K := by simp [beg, progR, lvs]
    have hlv : (lvs K).length = 0 := by omega
    refine ⟨?_, ?_, ?_, by omega, by simp [begE]; omega⟩
    · refine wfs_app ?_ (wfs_cons trivial h.wf)
      intro i hi
      simp [progR] at hi
      rcases hi with rfl | rfl | rfl | rfl | rfl <;> trivial
    · rw [e]; simp [begN, hlv]
    · rw [e]; simp; omega
  · have h0' : (n == 0) = false := by simpa using h0
    have e1 : beg K n = K := by simp [beg, h0]
    have e2 : begN n = n := by simp [begN, h0]
    have e3 : begE n = [] := by simp [begE, h0]
    rw [e1] at hk ⊢
    rw [e2, e3]
    exact ⟨h.wf, h1, by omega, by omega, by simp; omega⟩

/-- read, at whatever the first token begins with. -/
theorem read_put {g : Nat} {D : Nat → Prop} {vs vt : Value} {W w : World} {K : List It} {n : Int} (hG : Gone g D vs vt W w (begN n) (beg K n) (begE n)) (hz : Lz K n) {t : Tv} {ev : List Ev} {code : Int} {st : St} (hp : Putr t (.live K n) ev code st) :
    Calls Tryz.prog 22 #[pt g, t.v] w fun e w' => e = .returned (.int .i64 code) ∧ ((code = 0 ∧ ∃ L m, st = .live L m ∧ Gone g D vs vt W w' m L ev) ∨ (code ≠ 0 ∧ st = .stuck code n ∧ ev = [] ∧ ∃ m L E, Gone g D vs vt W w' m L E)) := by
  obtain ⟨D1, vs1, vt1, p1, k1, ns1, nt1, d1, d2⟩ := hG
  have up : ∀ {w' m L E}, Gone g D1 vs1 vt1 w w' m L E → Gone g D vs vt W w' m L E := fun h => Gone.go k1 ns1 nt1 d1 d2 h
  cases hp with
  | note h7 =>
    refine (note_any p1 t h7 (by unfold begE; split <;> simp)).mono ?_
    rintro e w' ⟨rfl, h⟩
    exact ⟨rfl, .inl ⟨rfl, _, _, rfl, up h⟩⟩
  | no h7 hR hk =>
    rw [Bool.or_eq_false_iff] at h7
    refine (read_any p1 t h7.1 h7.2 hR (beg_bd hz hk)).mono ?_
    rintro e w' ⟨rfl, m, L, E, h⟩
    exact ⟨rfl, .inr ⟨by decide, rfl, rfl, m, L, E, up h⟩⟩
  | deep h7 hR hk hm =>
    rw [Bool.or_eq_false_iff] at h7
    refine (read_any p1 t h7.1 h7.2 hR (beg_bd hz hk)).mono ?_
    intro e w' h
    obtain ⟨rfl, m, L, E, h2⟩ := h.1 hm
    exact ⟨rfl, .inr ⟨by decide, rfl, rfl, m, L, E, up h2⟩⟩
  | yes h7 hR hk hm =>
    rw [Bool.or_eq_false_iff] at h7
    refine (read_any p1 t h7.1 h7.2 hR (beg_bd hz hk)).mono ?_
    intro e w' h
    obtain ⟨rfl, h2⟩ := h.2 hm
    exact ⟨rfl, .inl ⟨rfl, _, _, rfl, up h2⟩⟩

set_option maxHeartbeats 1000000 in
theorem put_live {S : Nat → Prop} {W : World} {g : Nat} {K : List It} {n : Int} {D : Nat → Prop} {vs : Value} (h : Lv1 S W g K n D vs) (hl : ∀ k, S k → k < W.heap.size) (hz : Lz K n) {t : Tv} {ev : List Ev} {code : Int} {st : St} (hp : Putr t (.live K n) ev code st) :
    Calls Tryz.prog 12 #[pt g, t.v] W fun r w' => ∃ v, r = .returned (.tuple #[v, .int .i64 code]) ∧ Pa S g W w' v ev st := by
  obtain ⟨V, hV⟩ : ∃ V, W.alloc (.cells #[.int .u8 t.k, .string t.t, .int .i64 t.a, .int .i64 t.l, .int .i64 t.c, .int .i64 t.f] 35) = V := ⟨_, rfl⟩
  have hb : Below W.heap.size W V := by rw [← hV]; exact tok_below W t
  have hT : Tb V W.heap.size t := by rw [← hV]; exact new_at _ _
  have pV := h.ps.below' hb
  have HV : Hid (W.alloc (.cells #[.int .u8 t.k, .string t.t, .int .i64 t.a, .int .i64 t.l, .int .i64 t.c, .int .i64 t.f] 35) = V) := hV
  have HR : Hid (Calls Tryz.prog 20 #[pt g] V fun r w' => r = .returned (.int .i64 0) ∧ w' = V) := refusal_any pV.pb
  have HRd : Hid (∀ w, Gone g D vs nilS W w (begN n) (beg K n) (begE n) → Calls Tryz.prog 22 #[pt g, .agg #[.int .u8 t.k, .string t.t, .int .i64 t.a, .int .i64 t.l, .int .i64 t.c, .int .i64 t.f]] w fun e w' => e = .returned (.int .i64 code) ∧ ((code = 0 ∧ ∃ L m, st = .live L m ∧ Gone g D vs nilS W w' m L ev) ∨ (code ≠ 0 ∧ st = .stuck code n ∧ ev = [] ∧ ∃ m L E, Gone g D vs nilS W w' m L E))) := fun w hw => read_put hw hz hp
  have HTold : Hid (∀ w L m, Gone g D vs nilS W w m L ev → ∃ vs' vt', PB w g false 0 m vs' vt' ∧ Pa S g W (w.setCell ⟨g, 4, none⟩ nilS) vt' ev (.live L m)) := fun w L m hG => pa_told h hl hG
  have HErr : Hid (∀ w L m E, Gone g D vs nilS W w m L E → (∃ vs' vt', PB w g false 0 m vs' vt') ∧ PB (((((w.setCell ⟨g, 0, none⟩ (.bool false)).setCell ⟨g, 1, none⟩ (.int .i64 code)).setCell ⟨g, 2, none⟩ (.int .i64 n)).setCell ⟨g, 3, none⟩ nilS).setCell ⟨g, 4, none⟩ nilS) g false code n nilS nilS ∧ Pa S g W ((((((w.setCell ⟨g, 0, none⟩ (.bool false)).setCell ⟨g, 1, none⟩ (.int .i64 code)).setCell ⟨g, 2, none⟩ (.int .i64 n)).setCell ⟨g, 3, none⟩ nilS).setCell ⟨g, 4, none⟩ nilS).setCell ⟨g, 4, none⟩ nilS) nilS [] (.stuck code n)) := fun w L m E hG => pa_err h hG code n
  obtain ⟨c0, c1, c2, c3, c4⟩ := pV.pb.cells
  have HG0 : Hid (Gone g D vs nilS W V n K [] ∧ Tb V W.heap.size t ∧ Ps g D V n K [] vs nilS) := ⟨h.ps.quiet hb, hT, pV⟩
  have HPr : Hid (n = 0 → Calls Tryz.prog 21 #[pt g] V fun e w' => e = .returned (.int .i64 1) ∧ Gone g D vs nilS W w' (begN n) (beg K n) (begE n) ∧ Tb w' W.heap.size t) := fun h0 => by
    subst h0
    have hz2 := hz.sk
    refine (program_ps (g := g) (D := D) (W := V) (n := 0) (K := K) (E := []) (vs := vs) (vt := nilS) ⟨pV, by omega, by omega, by omega, by simp⟩).mono ?_
    rintro e w' ⟨rfl, hG⟩
    refine ⟨rfl, Gone.go (Kp.of_below hb) (Nb.refl _ _) (Nb.refl _ _) (fun _ h => h) (fun _ h => .inl h) hG, ?_⟩
    obtain ⟨_, _, _, _, k5, _⟩ := hG
    exact hT.kp pV k5
  have hnn : 0 ≤ n := by have := hz.lv; omega
  clear h hl hz hp hV hb pV
  dsimp only [Tv.v]
  by_cases h0 : n = 0
  · have q0 : (n == 0) = true := by simpa using h0
    have HP0 : Hid (Calls Tryz.prog 21 #[pt g] V fun e w' => e = .returned (.int .i64 1) ∧ Gone g D vs nilS W w' (begN n) (beg K n) (begE n) ∧ Tb w' W.heap.size t) := HPr.out h0
    generalize begN n = n1 at *
    generalize beg K n = K1 at *
    generalize begE n = E1 at *
    clear HPr h0
    go_enter Tryz.func12, Tryz.ntmps12
    go_wp2_with fail
    rw [HV.out]
    refine HR.out.mono ?_
    rintro r w1 ⟨rfl, rfl⟩
    go_wp2_with fail
    refine HP0.out.mono ?_
    rintro r w3 ⟨rfl, hG3, hT3⟩
    obtain ⟨m0, m1, m2, m3, m4, m5⟩ := hT3.cells
    have HG3 : Hid (Gone g D vs nilS W w3 n1 K1 E1) := hG3
    clear hG3 hT3
    go_wp2_with fail
    refine (HRd.out _ HG3.out).mono ?_
    rintro r w2 ⟨rfl, h2⟩
    rcases h2 with ⟨rfl, L, m, rfl, hG2⟩ | ⟨hne, rfl, rfl, m, L, E2, hG2⟩
    · obtain ⟨vs', vt', pb2, hP⟩ := HTold.out _ _ _ hG2
      obtain ⟨x0, x1, x2, x3, x4⟩ := pb2.cells
      have f4 := pb2.frozen 4
      have HX : Hid (Pa S g W (w2.setCell ⟨g, 4, none⟩ nilS) vt' ev (.live L m)) := hP
      obtain ⟨pv, cv, hvt, _⟩ := hP.re.shape
      subst hvt
      clear hP pb2 hG2
      go_wp2_with fail
      refine bodyPost_ret (v := .tuple #[.slice pv ev.length cv, .int .i64 0]) (by simp [results, Tryz.f12, go_sem]) rfl ?_
      exact ⟨_, rfl, HX.out⟩
    · obtain ⟨⟨vs', vt', pb2⟩, pb3, hP⟩ := HErr.out _ _ _ _ hG2
      obtain ⟨x0, x1, x2, x3, x4⟩ := pb2.cells
      obtain ⟨y0, y1, y2, y3, y4⟩ := pb3.cells
      have f0 := pb2.frozen 0
      have f1 := pb2.frozen 1
      have f2 := pb2.frozen 2
      have f3 := pb2.frozen 3
      have f4 := pb2.frozen 4
      have g4 := pb3.frozen 4
      have HX := show Hid _ from hP
      have q5 : (code != 0) = true := by simpa using hne
      clear hP pb2 pb3 hG2 hne
      go_wp2_with fail
      refine bodyPost_ret (v := .tuple #[nilS, .int .i64 code]) (by simp [results, Tryz.f12, go_sem]) rfl ?_
      exact ⟨_, rfl, HX.out⟩
  · have q0 : (n == 0) = false := by simpa using h0
    have e1 : beg K n = K := by simp [beg, h0]
    have e2 : begN n = n := by simp [begN, h0]
    have e3 : begE n = [] := by simp [begE, h0]
    rw [e1, e2, e3] at HRd
    clear e1 e2 e3 HPr h0
    obtain ⟨m0, m1, m2, m3, m4, m5⟩ := hT.cells
    go_enter Tryz.func12, Tryz.ntmps12
    go_wp2_with fail
    rw [HV.out]
    refine HR.out.mono ?_
    rintro r w1 ⟨rfl, rfl⟩
    go_wp2_with fail
    refine (HRd.out _ HG0.out.1).mono ?_
    rintro r w2 ⟨rfl, h2⟩
    rcases h2 with ⟨rfl, L, m, rfl, hG2⟩ | ⟨hne, rfl, rfl, m, L, E2, hG2⟩
    · obtain ⟨vs', vt', pb2, hP⟩ := HTold.out _ _ _ hG2
      obtain ⟨x0, x1, x2, x3, x4⟩ := pb2.cells
      have f4 := pb2.frozen 4
      have HX : Hid (Pa S g W (w2.setCell ⟨g, 4, none⟩ nilS) vt' ev (.live L m)) := hP
      obtain ⟨pv, cv, hvt, _⟩ := hP.re.shape
      subst hvt
      clear hP pb2 hG2
      go_wp2_with fail
      refine bodyPost_ret (v := .tuple #[.slice pv ev.length cv, .int .i64 0]) (by simp [results, Tryz.f12, go_sem]) rfl ?_
      exact ⟨_, rfl, HX.out⟩
    · obtain ⟨⟨vs', vt', pb2⟩, pb3, hP⟩ := HErr.out _ _ _ _ hG2
      obtain ⟨x0, x1, x2, x3, x4⟩ := pb2.cells
      obtain ⟨y0, y1, y2, y3, y4⟩ := pb3.cells
      have f0 := pb2.frozen 0
      have f1 := pb2.frozen 1
      have f2 := pb2.frozen 2
      have f3 := pb2.frozen 3
      have f4 := pb2.frozen 4
      have g4 := pb3.frozen 4
      have HX := show Hid _ from hP
      have q5 : (code != 0) = true := by simpa using hne
      clear hP pb2 pb3 hG2 hne
      go_wp2_with fail
      refine bodyPost_ret (v := .tuple #[nilS, .int .i64 code]) (by simp [results, Tryz.f12, go_sem]) rfl ?_
      exact ⟨_, rfl, HX.out⟩

end Go.Proofs.YtkglkhijngpgiaaGreat
