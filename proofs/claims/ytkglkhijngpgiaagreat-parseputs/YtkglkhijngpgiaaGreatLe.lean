import Derived.Test.YtkglkhijngpgiaaGreatG4
set_option linter.unusedVariables false
set_option linter.unusedSimpArgs false
namespace Go.Proofs.YtkglkhijngpgiaaGreat
open Go.RowKit

/-! A concrete run; awake. -/
def ruF (t : Tv) : Nat → List It → Int → List Ev → Option (Nat × Ro)
  | 0, _, _, _ => none
  | f + 1, [], n, E => some (0, .no)
  | f + 1, i :: K, n, E => match It.step t i with
    | .ref => some (0, .no)
    | .tk => some (0, .yes K n E)
    | .go d o r => match ruF t f (r ++ K) (n + d) (E ++ o) with
      | some (k, R) => some (k + 1, R)
      | none => none
theorem ruF_is {t : Tv} : ∀ (f : Nat) (K : List It) (n : Int) (E : List Ev) (k : Nat) (R : Ro), ruF t f K n E = some (k, R) → Ru t k K n E R
  | 0, _, _, _, _, _, h => by cases h
  | f + 1, [], n, E, k, R, h => by cases h; exact .nil
  | f + 1, i :: K, n, E, k, R, h => by
    simp only [ruF] at h
    cases hs : It.step t i with
    | ref => rw [hs] at h; cases h; exact .ref hs
    | tk => rw [hs] at h; cases h; exact .tk hs
    | go d o r =>
      rw [hs] at h
      simp only at h
      cases hr : ruF t f (r ++ K) (n + d) (E ++ o) with
      | none => rw [hr] at h; cases h
      | some x =>
        obtain ⟨k', R'⟩ := x
        rw [hr] at h
        cases h
        exact .go hs (ruF_is f _ _ _ _ _ hr)
/-- Put at a token that is no comment, for a concrete one. -/
def putF (t : Tv) : St → Option (List Ev × Int × St)
  | .live K n => if (t.k == 7 || t.k == 8) then none else match ruF t 20 (beg K n) (begN n) (begE n) with
    | some (k, .yes L m E) => if m ≤ 1000 then some (E ++ [⟨2, 0, t⟩], 0, .live L m) else none
    | some (k, .no) => some ([], 120, .stuck 120 n)
    | none => none
  | _ => none
theorem ruF_le {t : Tv} : ∀ (f : Nat) (K : List It) (n : Int) (E : List Ev) (k : Nat) (R : Ro), ruF t f K n E = some (k, R) → k + 1 ≤ f
  | 0, _, _, _, _, _, h => by cases h
  | f + 1, [], n, E, k, R, h => by cases h; omega
  | f + 1, i :: K, n, E, k, R, h => by
    simp only [ruF] at h
    cases hs : It.step t i with
    | ref => rw [hs] at h; cases h; omega
    | tk => rw [hs] at h; cases h; omega
    | go d o r =>
      rw [hs] at h
      simp only at h
      cases hr : ruF t f (r ++ K) (n + d) (E ++ o) with
      | none => rw [hr] at h; cases h
      | some x =>
        obtain ⟨k', R'⟩ := x
        rw [hr] at h
        cases h
        have := ruF_le f _ _ _ _ _ hr
        omega
theorem putF_is {t : Tv} {st : St} {x : List Ev × Int × St} (h : putF t st = some x) : Putr t st x.1 x.2.1 x.2.2 := by
  cases st with
  | live K n =>
    simp only [putF] at h
    split at h
    · cases h
    · rename_i hc
      have hc' : (t.k == 7 || t.k == 8) = false := by simpa using hc
      cases hr : ruF t 20 (beg K n) (begN n) (begE n) with
      | none => rw [hr] at h; cases h
      | some y =>
        obtain ⟨k, R⟩ := y
        have h1 := ruF_is _ _ _ _ _ _ hr
        have h2 := ruF_le _ _ _ _ _ _ hr
        rw [hr] at h
        cases R with
        | no => cases h; exact .no hc' h1 (by omega)
        | yes L m E =>
          simp only at h
          split at h
          · cases h; exact .yes hc' h1 (by omega) (by assumption)
          · cases h
  | stuck e n => cases h
  | shut => cases h
/-- The tokens of awake. -/
def tKey (s : ByteArray) : Tv := ⟨2, s, 0, 0, 0, 0⟩
def tSign (s : ByteArray) : Tv := ⟨6, s, 0, 0, 0, 0⟩
def tName (s : ByteArray) : Tv := ⟨1, s, 0, 0, 0, 0⟩
def aw : List Tv := [tKey ⟨#[112, 114, 111, 103, 114, 97, 109]⟩, tName ⟨#[112]⟩, tSign ⟨#[59]⟩, tKey ⟨#[98, 101, 103, 105, 110]⟩, tKey ⟨#[115, 107, 105, 112]⟩, tKey ⟨#[101, 110, 100]⟩, tSign ⟨#[46]⟩]
def awS : List Tv → St → Option (List Nat × St)
  | [], st => some ([], st)
  | t :: l, st => match putF t st with
    | some (ev, c, st') => if c = 0 then (match awS l st' with | some (ns, s) => some (ev.length :: ns, s) | none => none) else none
    | none => none
theorem aw_run : awS aw (.live [] 0) = some ([2, 1, 1, 2, 3, 3, 2], .live [.lv 1] 1) := by kernel_rfl
theorem aw_semi : putF (tSign ⟨#[59]⟩) (.live [] 0) = some ([], 120, .stuck 120 0) := by kernel_rfl

theorem lkey_any (s : ByteArray) (W : World) : Calls Tryz.prog 10 #[.string s] W fun r w' => r = .returned (.agg #[.int .u8 2, .string s, .int .i64 0, .int .i64 0, .int .i64 0, .int .i64 0]) ∧ Below W.heap.size W w' := by
  go_enter Tryz.func10, Tryz.ntmps10
  go_wp2_with fail
  refine bodyPost_ret (v := .agg #[.int .u8 2, .string s, .int .i64 0, .int .i64 0, .int .i64 0, .int .i64 0]) (by simp [results, Tryz.f10, go_sem]) rfl ?_
  exact ⟨rfl, below_new _ _⟩
theorem lsign_any (s : ByteArray) (W : World) : Calls Tryz.prog 9 #[.string s] W fun r w' => r = .returned (.agg #[.int .u8 6, .string s, .int .i64 0, .int .i64 0, .int .i64 0, .int .i64 0]) ∧ Below W.heap.size W w' := by
  go_enter Tryz.func9, Tryz.ntmps9
  go_wp2_with fail
  refine bodyPost_ret (v := .agg #[.int .u8 6, .string s, .int .i64 0, .int .i64 0, .int .i64 0, .int .i64 0]) (by simp [results, Tryz.f9, go_sem]) rfl ?_
  exact ⟨rfl, below_new _ _⟩
theorem lname_any (s : ByteArray) (W : World) : Calls Tryz.prog 11 #[.string s] W fun r w' => r = .returned (.agg #[.int .u8 1, .string s, .int .i64 0, .int .i64 0, .int .i64 0, .int .i64 0]) ∧ Below W.heap.size W w' := by
  go_enter Tryz.func11, Tryz.ntmps11
  go_wp2_with fail
  refine bodyPost_ret (v := .agg #[.int .u8 1, .string s, .int .i64 0, .int .i64 0, .int .i64 0, .int .i64 0]) (by simp [results, Tryz.f11, go_sem]) rfl ?_
  exact ⟨rfl, below_new _ _⟩
theorem put_nil (t : Tv) (W : World) : Calls Tryz.prog 12 #[.pointer none, t.v] W fun r w' => r = .returned (.tuple #[nilS, .int .i64 3]) ∧ Below W.heap.size W w' := by
  have HR : Hid (∀ V, Calls Tryz.prog 20 #[.pointer none] V fun r w' => r = .returned (.int .i64 3) ∧ w' = V) := fun V => refusal_nil V
  dsimp only [Tv.v]
  go_enter Tryz.func12, Tryz.ntmps12
  go_wp2_with (go_at_call 20; refine (HR.out _).mono ?_; rintro r w1 ⟨rfl, rfl⟩)
  refine bodyPost_ret (v := .tuple #[nilS, .int .i64 3]) (by simp [results, Tryz.f12, go_sem]) rfl ?_
  exact ⟨rfl, below_new _ _⟩
theorem close_nil (W : World) : Calls Tryz.prog 14 #[.pointer none] W fun r w' => r = .returned (.tuple #[nilS, .int .i64 3]) ∧ w' = W := by
  have HR : Hid (∀ V, Calls Tryz.prog 20 #[.pointer none] V fun r w' => r = .returned (.int .i64 3) ∧ w' = V) := fun V => refusal_nil V
  have HD : Hid (∀ V, CallsD Tryz.prog 23 #[.pointer none] .returning V fun r u' w' => u' = .returning ∧ (r = .returned (.tuple #[]) ∧ w' = V)) := fun V => shut_dnil .returning V
  go_enter_defers Tryz.func14, Tryz.ntmps14
  go_wp2_with (go_at_call 20; refine (HR.out _).mono ?_; rintro r w1 ⟨rfl, hw⟩; subst hw)
  refine leaves_cons (f := 23) (args := #[.pointer none]) (by simp) (by simp [go_sem]) ?_
  refine (HD.out _).mono ?_
  rintro r u' w2 ⟨rfl, rfl, rfl⟩
  exact ⟨_, (by simp [results, Tryz.f14, go_sem]), rfl, rfl⟩

/-- How far awake has come. -/
inductive Aw : List Tv → List Nat → St → Prop
  | nil : Aw [] [] (.live [.lv 1] 1)
  | cons {t : Tv} {l : List Tv} {m : Nat} {ns : List Nat} {st st' : St} {ev : List Ev} : Putr t st ev 0 st' → ev.length = m → Aw l ns st' → Aw (t :: l) (m :: ns) st
theorem aw_is : ∀ (l : List Tv) (ns : List Nat) (st : St), awS l st = some (ns, .live [.lv 1] 1) → Aw l ns st
  | [], ns, st, h => by simp only [awS] at h; cases h; exact .nil
  | t :: l, ns, st, h => by
    simp only [awS] at h
    cases hp : putF t st with
    | none => rw [hp] at h; cases h
    | some x =>
      obtain ⟨ev, c, st'⟩ := x
      rw [hp] at h
      simp only at h
      split at h
      · rename_i hc
        subst hc
        cases hr : awS l st' with
        | none => rw [hr] at h; cases h
        | some y =>
          obtain ⟨ns', s'⟩ := y
          rw [hr] at h
          cases h
          exact .cons (putF_is hp) rfl (aw_is l ns' st' hr)
      · cases h
theorem Aw.len {l : List Tv} {ns : List Nat} {st : St} (h : Aw l ns st) : l.length = ns.length := by
  induction h with
  | nil => rfl
  | cons _ _ _ ih => simp [ih]
theorem aw_all : Aw aw [2, 1, 1, 2, 3, 3, 2] (.live [] 0) := aw_is _ _ _ aw_run

theorem lt_new (W : World) (l : List Tv) (cs : Array Value) (h : cs = (tcs l).toArray) : Lt (W.alloc (.cells cs 35)) (some ⟨W.heap.size, 0, none⟩) l := by
  subst h
  intro j d hj
  have hc : ∀ (k : Nat) (u : Value), (tcs l)[k]? = some u → (W.alloc (.cells (tcs l).toArray 35)).cell? ⟨W.heap.size, k, none⟩ = some u := fun k u hu => blk_cell (new_at W _) (by simpa using hu)
  refine ⟨_, 0, rfl, ?_, ?_, ?_, ?_, ?_, ?_⟩
  · rw [Nat.zero_add]; exact hc _ _ (flat_at Tv.cs 6 Tv.cs_len l j 0 d _ hj rfl)
  · rw [Nat.zero_add]; exact hc _ _ (flat_at Tv.cs 6 Tv.cs_len l j 1 d _ hj rfl)
  · rw [Nat.zero_add]; exact hc _ _ (flat_at Tv.cs 6 Tv.cs_len l j 2 d _ hj rfl)
  · rw [Nat.zero_add]; exact hc _ _ (flat_at Tv.cs 6 Tv.cs_len l j 3 d _ hj rfl)
  · rw [Nat.zero_add]; exact hc _ _ (flat_at Tv.cs 6 Tv.cs_len l j 4 d _ hj rfl)
  · rw [Nat.zero_add]; exact hc _ _ (flat_at Tv.cs 6 Tv.cs_len l j 5 d _ hj rfl)
theorem AI.call2 {w : World} {g : Nat} {st : St} {S : Nat → Prop} {W W' : World} (h : AI w g nilS [] st S W) {x : Value} {ev : List Ev} {st' : St} (hp : Pa S g W W' x ev st') (hg : Good st') : ∃ S', AI w g nilS [] st' S' W' ∧ (∀ k, S' k → S k ∨ W.heap.size ≤ k) ∧ Kp S W W' := by
  obtain ⟨S', p1, p2, p3, p4⟩ := hp.ex
  refine ⟨S', ⟨Kp.low h.bel hp.kp (fun k hk => (h.sB k hk).1) h.bel.size, p1, hg, ?_, re_nil _, fun k e => by cases e⟩, fun k hk => (p3 k hk).imp id (fun h => h.1), hp.kp⟩
  intro k hk
  rcases p3 k hk with a | a
  · exact ⟨(h.sB k a).1, Nat.lt_of_lt_of_le (h.sB k a).2 hp.kp.size⟩
  · exact ⟨Nat.le_trans h.bel.size a.1, a.2⟩
/-- Between two rounds of awake. -/
def AwI (w : World) (g b : Nat) (j m : Nat) (W : World) : Prop :=
  ∃ S st ns, AI w g nilS [] st S W ∧ ¬ S b ∧ b < W.heap.size ∧ Lt W (some ⟨b, 0, none⟩) aw ∧ Aw (aw.drop j) ns st ∧ m + ns.sum = 14

set_option maxRecDepth 100000 in
set_option maxHeartbeats 2000000 in
theorem awake_any (w : World) : Calls Tryz.prog 4 #[] w fun r w' => r = .returned (.bool true) ∧ Below w.heap.size w w' := by
  go_enter Tryz.func4, Tryz.ntmps4
  go_wp2_with fail
  refine (new_st _).mono ?_
  rintro r w1 ⟨rfl, hq, hb, hs1⟩
  obtain ⟨g, hg⟩ : ∃ g, w.heap.size = g := ⟨_, rfl⟩
  have HI : Hid (∃ S, AI w w.heap.size nilS [] (.live [] 0) S w1) := ⟨_, hb, hq, good_new, fun k e => by rw [e]; omega, re_nil _, fun k e => by cases e⟩
  rw [hg] at HI ⊢
  have HG : Hid (w.heap.size = g) := hg
  clear hq hb hs1 hg
  have hpn : ∀ W, (binOp .eql 24 (pt g) (.pointer none)).run Tryz.prog W = .ok (.bool false) W := fun W => by kernel_rfl
  go_wp2_with (first | (go_at_call 10; refine (lkey_any _ _).mono ?_; rintro r w2 ⟨rfl, hb⟩; replace HI : Hid (∃ S, AI w g nilS [] (.live [] 0) S w2) := (by obtain ⟨S, hI⟩ := HI.out; exact ⟨S, hI.below hb⟩); clear hb) | (go_at_call 9; refine (lsign_any _ _).mono ?_; rintro r w2 ⟨rfl, hb⟩; replace HI : Hid (∃ S, AI w g nilS [] (.live [] 0) S w2) := (by obtain ⟨S, hI⟩ := HI.out; exact ⟨S, hI.below hb⟩); clear hb) | (go_at_call 11; refine (lname_any _ _).mono ?_; rintro r w2 ⟨rfl, hb⟩; replace HI : Hid (∃ S, AI w g nilS [] (.live [] 0) S w2) := (by obtain ⟨S, hI⟩ := HI.out; exact ⟨S, hI.below hb⟩); clear hb))
  obtain ⟨b, hbb⟩ : ∃ b, w2.heap.size = b := ⟨_, rfl⟩
  obtain ⟨W2, hW2⟩ : ∃ W2, w2.alloc (.cells #[.int .u8 2, .string ⟨#[112, 114, 111, 103, 114, 97, 109]⟩, .int .i64 0, .int .i64 0, .int .i64 0, .int .i64 0, .int .u8 1, .string ⟨#[112]⟩, .int .i64 0, .int .i64 0, .int .i64 0, .int .i64 0, .int .u8 6, .string ⟨#[59]⟩, .int .i64 0, .int .i64 0, .int .i64 0, .int .i64 0, .int .u8 2, .string ⟨#[98, 101, 103, 105, 110]⟩, .int .i64 0, .int .i64 0, .int .i64 0, .int .i64 0, .int .u8 2, .string ⟨#[115, 107, 105, 112]⟩, .int .i64 0, .int .i64 0, .int .i64 0, .int .i64 0, .int .u8 2, .string ⟨#[101, 110, 100]⟩, .int .i64 0, .int .i64 0, .int .i64 0, .int .i64 0, .int .u8 6, .string ⟨#[46]⟩, .int .i64 0, .int .i64 0, .int .i64 0, .int .i64 0] 35) = W2 := ⟨_, rfl⟩
  have HJ0 : Hid (AwI w g b 0 0 W2) := by
    obtain ⟨S, hI⟩ := HI.out
    have hLt := lt_new w2 aw #[.int .u8 2, .string ⟨#[112, 114, 111, 103, 114, 97, 109]⟩, .int .i64 0, .int .i64 0, .int .i64 0, .int .i64 0, .int .u8 1, .string ⟨#[112]⟩, .int .i64 0, .int .i64 0, .int .i64 0, .int .i64 0, .int .u8 6, .string ⟨#[59]⟩, .int .i64 0, .int .i64 0, .int .i64 0, .int .i64 0, .int .u8 2, .string ⟨#[98, 101, 103, 105, 110]⟩, .int .i64 0, .int .i64 0, .int .i64 0, .int .i64 0, .int .u8 2, .string ⟨#[115, 107, 105, 112]⟩, .int .i64 0, .int .i64 0, .int .i64 0, .int .i64 0, .int .u8 2, .string ⟨#[101, 110, 100]⟩, .int .i64 0, .int .i64 0, .int .i64 0, .int .i64 0, .int .u8 6, .string ⟨#[46]⟩, .int .i64 0, .int .i64 0, .int .i64 0, .int .i64 0] rfl
    rw [hW2, hbb] at hLt
    have hb2 : Below w2.heap.size w2 W2 := by rw [← hW2]; exact below_new _ _
    refine ⟨S, .live [] 0, [2, 1, 1, 2, 3, 3, 2], hI.below hb2, fun hs => ?_, ?_, hLt, aw_all, rfl⟩
    · have := (hI.sB b hs).2; omega
    · rw [← hW2, World.size_alloc]; omega
  rw [hW2, hbb]
  clear hW2 hbb HI
  go_loopw [2, 4, 5, 6] (fun n i _ _ wr => ∃ j m : Nat, j ≤ 7 ∧ n = .int .i64 m ∧ i = .int .i64 j ∧ Hid (AwI w g b j m wr)) (fun _ i _ _ _ => 7 - (intOf i).toNat)
  case atStart => exact ⟨0, 0, by omega, rfl, rfl, HJ0⟩
  case round =>
    obtain ⟨j, m, hj, rfl, rfl, HJ⟩ := hrel
    obtain ⟨S, st, ns, hI, hS, hbl, hLt, hAw, hm⟩ := HJ.out
    by_cases hlt : j < 7
    · have q1 : (j : Int) < 7 := by omega
      have q0 : (0 : Int) ≤ j := by omega
      have hal : aw.length = 7 := rfl
      obtain ⟨t, ht⟩ : ∃ t, aw[j]? = some t := ⟨_, List.getElem?_eq_getElem (by omega)⟩
      have hdr : aw.drop j = t :: aw.drop (j + 1) := by
        obtain ⟨a1, a2⟩ := List.getElem?_eq_some_iff.1 ht
        rw [List.drop_eq_getElem_cons a1, a2]
      obtain ⟨b', off, hbo, x0, x1, x2, x3, x4, x5⟩ := hLt.cell6 ht
      cases hbo
      rw [hdr] at hAw
      obtain ⟨m1, ns1, st1, ev, rfl, hp, hev, hA1⟩ : ∃ m1 ns1 st1 ev, ns = m1 :: ns1 ∧ Putr t st ev 0 st1 ∧ ev.length = m1 ∧ Aw (aw.drop (j + 1)) ns1 st1 := by
        cases hAw with
        | cons a b c => exact ⟨_, _, _, _, rfl, a, b, c⟩
      have HP : Hid (Calls Tryz.prog 12 #[pt g, .agg #[.int .u8 t.k, .string t.t, .int .i64 t.a, .int .i64 t.l, .int .i64 t.c, .int .i64 t.f]] wr fun r w' => ∃ v, r = .returned (.tuple #[v, .int .i64 0]) ∧ Pa S g wr w' v ev st1) := put_any hI.pq (fun k hk => (hI.sB k hk).2) hI.gd.ok hp
      have hmm : m + m1 + ns1.sum = 14 := by simp at hm; omega
      have HN : Hid (∀ w' x, Pa S g wr w' x ev st1 → AwI w g b (j + 1) (m + m1) w') := fun w' x hx => by
        obtain ⟨S', h1, h2, h3⟩ := hI.call2 hx (put_keep hI.gd hp).1
        refine ⟨S', st1, ns1, h1, fun hs => ?_, Nat.lt_of_lt_of_le hbl h3.size, hLt.kp h3 (fun a ha => by cases ha; exact hS), hA1, hmm⟩
        rcases h2 b hs with a | a
        · exact hS a
        · omega
      have hwr : IntKind.i64.wrap ((m : Int) + (m1 : Int)) = ((m + m1 : Nat) : Int) := by rw [IntKind.wrap_i64]; omega
      have HM : Hid (ev.length = m1) := hev
      clear HJ HJ0 hdr ht hLt hAw hA1 hp hI hm hmm hev hS hal
      simp only [Nat.zero_add] at x0 x1 x2 x3 x4 x5
      go_wp2_with fail
      refine HP.out.mono ?_
      rintro r w3 ⟨x, rfl, hx⟩
      have H3 : Hid (AwI w g b (j + 1) (m + m1) w3) := HN.out _ _ hx
      obtain ⟨px, cx, hxs, _⟩ := hx.re.shape
      rw [HM.out] at hxs
      subst hxs
      clear hx
      go_wp2_with fail
      exact ⟨⟨j + 1, m + m1, by omega, by go_num, by go_num, H3⟩, by simp [intOf]; omega⟩
    · obtain rfl : j = 7 := by omega
      have hst : st = .live [.lv 1] 1 ∧ ns = [] := by
        have : Aw [] ns st := hAw
        cases this
        exact ⟨rfl, rfl⟩
      obtain ⟨rfl, rfl⟩ := hst
      obtain rfl : m = 14 := by simpa using hm
      have HI : Hid (∃ S, AI w g nilS [] (.live [.lv 1] 1) S wr) := ⟨S, hI⟩
      have HDp : Hid (Calls Tryz.prog 13 #[pt g] wr fun r w' => r = .returned (.int .i64 1) ∧ w' = wr) := depth_st hI.pq
      have HCl : Hid (Calls Tryz.prog 14 #[pt g] wr fun r w' => ∃ v, r = .returned (.tuple #[v, .int .i64 0]) ∧ Re w' v [⟨3, 1, tv0⟩] ∧ ∃ S, AI w g nilS [] .shut S w') := by
        refine (close_any hI.pq (fun k hk => (hI.sB k hk).2) hI.gd.ok (.all rfl)).mono ?_
        rintro r w' ⟨v, rfl, hP⟩
        obtain ⟨S', h1, _⟩ := hI.call2 hP trivial
        exact ⟨v, rfl, hP.re, S', h1⟩
      clear HJ HJ0 hI hAw hLt hm hS hbl
      go_wp2_with fail
      refine HDp.out.mono ?_
      rintro r w3 ⟨rfl, rfl⟩
      go_wp2_with fail
      refine HCl.out.mono ?_
      rintro r w4 ⟨v, rfl, hre, hI4⟩
      obtain ⟨px, cx, hxs, _⟩ := hre.shape
      subst hxs
      obtain ⟨S4, hI4⟩ := hI4
      have HC2 : Hid (Calls Tryz.prog 14 #[pt g] w4 fun r w' => r = .returned (.tuple #[nilS, .int .i64 4]) ∧ Below w.heap.size w w') := by
        refine (close_off (S := S4) (c := true) (e := 0) hI4.pq.1 hI4.pq.2 (by decide)).mono ?_
        rintro r w' ⟨rfl, hP⟩
        obtain ⟨S', h1, _⟩ := hI4.call2 hP trivial
        exact ⟨rfl, h1.bel⟩
      clear hre hI4
      go_wp2_with fail
      refine HC2.out.mono ?_
      rintro r w5 ⟨rfl, hb5⟩
      have HB : Hid (Below w.heap.size w w5) := hb5
      clear hb5
      go_wp2_with fail
      refine (new_st _).mono ?_
      rintro r w6 ⟨rfl, hq6, hb6, hs6⟩
      obtain ⟨q, hq⟩ : ∃ q, w5.heap.size = q := ⟨_, rfl⟩
      have HQ : Hid (∃ S, AI w q nilS [] (.live [] 0) S w6) := ⟨fun k => k = w5.heap.size, HB.out.trans (hb6.mono HB.out.size), by rw [← hq]; exact hq6, good_new, fun k e => by have := HB.out.size; rw [e]; omega, re_nil _, fun k e => by cases e⟩
      rw [hq]
      clear hq6 hb6 hs6 hq HB
      go_wp2_with (go_at_call 9; refine (lsign_any _ _).mono ?_; rintro r w7 ⟨rfl, hb7⟩)
      obtain ⟨S7, hI7⟩ := HQ.out
      have hI8 := hI7.below hb7
      have HP8 : Hid (Calls Tryz.prog 12 #[pt q, .agg #[.int .u8 6, .string ⟨#[59]⟩, .int .i64 0, .int .i64 0, .int .i64 0, .int .i64 0]] w7 fun r w' => ∃ v, r = .returned (.tuple #[v, .int .i64 120]) ∧ Below w.heap.size w w' ∧ ∃ p c, v = .slice p 0 c) := by
        refine (put_any hI8.pq (fun k hk => (hI8.sB k hk).2) hI8.gd.ok (putF_is aw_semi)).mono ?_
        rintro r w' ⟨v, rfl, hP⟩
        obtain ⟨S', h1, _⟩ := hI8.call2 hP (.inl rfl)
        obtain ⟨p, c, hv, _⟩ := hP.re.shape
        exact ⟨v, rfl, h1.bel, p, c, hv⟩
      clear hI7 hI8 hb7 HQ
      refine HP8.out.mono ?_
      rintro r w9 ⟨v, rfl, hb9, p9, c9, rfl⟩
      have HB : Hid (Below w.heap.size w w9) := hb9
      clear hb9
      go_wp2_with (first
        | (go_at_call 9; refine (lsign_any _ _).mono ?_; rintro r w10 ⟨rfl, hb10⟩; replace HB : Hid (Below w.heap.size w w10) := HB.out.trans (hb10.mono HB.out.size); clear hb10)
        | (go_at_call 12; refine (put_nil (tSign ⟨#[59]⟩) _).mono ?_; rintro r w11 ⟨rfl, hb11⟩; replace HB : Hid (Below w.heap.size w w11) := HB.out.trans (hb11.mono HB.out.size); clear hb11)
        | (go_at_call 14; refine (close_nil _).mono ?_; rintro r w12 ⟨rfl, rfl⟩)
        | (go_at_call 13; refine (depth_nil _).mono ?_; rintro r w13 ⟨rfl, rfl⟩))
      go_ret
      exact ⟨rfl, HB.out⟩

end Go.Proofs.YtkglkhijngpgiaaGreat
