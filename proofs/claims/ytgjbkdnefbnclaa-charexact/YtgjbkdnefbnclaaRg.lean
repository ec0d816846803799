import Derived.Test.YtgjbkdnefbnclaaRf
set_option linter.unusedVariables false
set_option linter.unusedSimpArgs false
namespace Go.Proofs.Ytgjbkdnefbnclaa
open Go.RowKit

theorem u8s_map (l : List Nat) : (l.map (fun b : Nat => (b : Int))).map (Value.int .u8) = u8s l := by simp [u8s]

theorem eb_fffd : eb 65533 = [239, 191, 189] := by decide

theorem char_any (n : Int) (w : World) :
    Calls Try.prog 37 #[.int .i64 n] w fun e w' => e = .returned (.slice (some ⟨w.heap.size, 0, none⟩) (eb (rnN n)).length (eb (rnN n)).length) ∧ w' = w.alloc (.cells (u8s (eb (rnN n))).toArray 5) := by
  have h := rnN_eq n
  by_cases hp : n < 0 ∨ 1114111 < n ∨ (55296 ≤ n ∧ n ≤ 57343)
  · have e : rnN n = 65533 := by
      have : rn n = 65533 := by unfold rn; rw [if_pos hp]
      unfold rnN; rw [this]; rfl
    rw [e, eb_fffd]
    exact char_no n w (by unfold ipt; rw [decide_eq_false (by omega)])
  · have e : rn n = n := by unfold rn; rw [if_neg hp]
    have h1 := char_yes n w (by omega) (by omega) (by unfold ipt; rw [decide_eq_true (by omega)])
    have e2 : n = ((rnN n : Nat) : Int) := by rw [h.1, e]
    have e3 : ebI n = (eb (rnN n)).map (fun b : Nat => (b : Int)) := by
      rw [← ebI_eq, ← e2]
    rw [e3, u8s_map, List.length_map] at h1
    exact h1

theorem eb_len (c : Nat) : 1 ≤ (eb c).length ∧ (eb c).length ≤ 4 := by
  unfold eb
  repeat' split
  all_goals simp

theorem enc_eb (c : Nat) (h : pt c) : Utf8.encode (c : Int) = ⟨((eb c).map UInt8.ofNat).toArray⟩ := by
  rw [enc_eq c h]
  unfold eb
  by_cases h1 : c < 128
  · rw [if_pos h1, if_pos h1]; rfl
  · rw [if_neg h1, if_neg h1]
    by_cases h2 : c < 2048
    · rw [if_pos h2, if_pos h2]; rfl
    · rw [if_neg h2, if_neg h2]
      by_cases h3 : c < 65536
      · rw [if_pos h3, if_pos h3]; rfl
      · rw [if_neg h3, if_neg h3]; rfl

theorem mk_app (a b : List UInt8) : (⟨a.toArray⟩ : ByteArray) ++ ⟨b.toArray⟩ = ⟨(a ++ b).toArray⟩ := by
  apply ByteArray.ext
  simp

theorem rb_eb (l : List Nat) (h : ∀ c ∈ l, pt c) : rb l = ⟨((l.flatMap eb).map UInt8.ofNat).toArray⟩ := by
  induction l with
  | nil => rfl
  | cons c l ih =>
    rw [rb_cons, ih (fun x hx => h x (by simp [hx])), enc_eb c (h c (by simp)), List.flatMap_cons, List.map_append, mk_app]

theorem push_all (ns : List Nat) : ∀ s : ByteArray, (ns.map (fun b : Nat => (b : Int))).foldl (fun r n => r.push (UInt8.ofNat n.toNat)) s = ⟨(s.data.toList ++ ns.map UInt8.ofNat).toArray⟩ := by
  induction ns with
  | nil => intro s; simp
  | cons b ns ih =>
    intro s
    rw [List.map_cons, List.foldl_cons, ih]
    apply ByteArray.ext
    simp [ByteArray.push]

/-- What has been gathered of the first numbers. -/
def gat (zs : List Int) (k : Nat) : List Nat := ((zs.take k).map rnN).flatMap eb

theorem gat_succ (zs : List Int) (k : Nat) (h : k < zs.length) : gat zs (k + 1) = gat zs k ++ eb (rnN (zs.getD k 0)) := by
  unfold gat
  rw [take_getD zs k h, List.map_append, List.flatMap_append, List.map_cons, List.map_nil, List.flatMap_cons, List.flatMap_nil, List.append_nil]

theorem flat_len (l : List Nat) : (l.flatMap eb).length ≤ 4 * l.length := by
  induction l with
  | nil => simp
  | cons c l ih =>
    have := eb_len c
    rw [List.flatMap_cons, List.length_append, List.length_cons]; omega

theorem gat_len (zs : List Int) (k : Nat) (h : k ≤ zs.length) : (gat zs k).length ≤ 4 * k := by
  have := flat_len ((zs.take k).map rnN)
  rw [List.length_map, List.length_take] at this
  unfold gat
  omega

theorem u8s_app (a b : List Nat) : u8s (a ++ b) = u8s a ++ u8s b := by simp [u8s]
theorem u8s_len (a : List Nat) : (u8s a).length = a.length := by simp [u8s]

theorem row_u8 (W : World) (l : List Nat) (n : Nat) (hn : n = W.heap.size) : ∀ j u, (u8s l)[j]? = some u → (W.alloc (.cells (u8s l).toArray 5)).cell? ((⟨n, 0, none⟩ : Addr).add j) = some u := by
  subst hn
  intro j u h
  rw [Addr.add_lit, Nat.zero_add, World.cell?_alloc_new]
  simpa using h

theorem u8s_one (l : List Nat) : ∀ u ∈ u8s l, u.oneCell' = true := by
  intro u hu
  obtain ⟨b, _, rfl⟩ := List.mem_map.1 hu
  rfl

theorem conv_u8 (wr : World) (B : Nat) (v : Value) (l : List Nat) (hv : wr.ownsRow B 5 1 v l.length (u8s l)) : (convert 50 9 v).run Try.prog wr = .ok (.string ⟨(l.map UInt8.ofNat).toArray⟩) wr := by
  rcases hv.2 with ⟨rfl, h0⟩ | ⟨g, cp, cur, rfl, h2⟩
  · have e : l = [] := List.eq_nil_of_length_eq_zero h0
    rw [e, run_convert_bytes_string (P := Try.prog) wr 50 9 5 _ _ _ Try.underlying50 Try.underlying5 Try.underlying9]
    rfl
  · rw [run_convert_bytes_string (P := Try.prog) wr 50 9 5 _ _ _ Try.underlying50 Try.underlying5 Try.underlying9]
    have hcell : ∀ j, j < l.length → wr.cell? ((⟨g, 0, none⟩ : Addr).add j) = some (.int .u8 ((l.getD j 0 : Nat) : Int)) := by
      intro j hj
      exact hv.cells rfl j _ (by simp [u8s, List.getD, hj])
    have hload := run_loadCells (P := Try.prog) wr ⟨g, 0, none⟩ l.length (fun j => .int .u8 ((l.getD j 0 : Nat) : Int)) hcell
    rw [run_bytesToString (P := Try.prog) wr ⟨g, 0, none⟩ l.length cp (l.map (fun b : Nat => (b : Int))) (by
      rw [hload]
      congr 2
      apply List.ext_getElem
      · simp
      · intro i h1 h2; simp at h1; simp [List.getD, h1]), push_all]
    simp

set_option maxRecDepth 100000 in
set_option maxHeartbeats 1000000 in
theorem rtext_any (ao : Option Addr) (n cap : Nat) (zs : List Int) (w : World) (hn : n ≤ 2147483647) (hr : Row w ao n zs) :
    Calls Try.prog 26 #[.slice ao n cap] w fun e w' => e = .returned (.string (runesBytes (zs.map rn))) ∧ Below w.heap.size w w' := by
  obtain ⟨i0, hi, hz0, hz1, hz2⟩ := info_parts Try.info5
  have hl := hr.1
  have HF : Hid (runesBytes (zs.map rn) = ⟨((gat zs n).map UInt8.ofNat).toArray⟩) := by
    show _ = _
    rw [map_rn, runes_rb, rb_eb _ (fun c hc => by obtain ⟨i, _, rfl⟩ := List.mem_map.1 hc; exact (rnN_eq i).2)]
    unfold gat
    rw [List.take_of_length_le (by omega)]
  go_enter Try.func26, Try.ntmps26
  go_wp2_with fail
  go_loopw [3, 4] (fun v i wr => ∃ k : Nat, k ≤ n ∧ i = .int .i64 k ∧ wr.ownsRow w.heap.size 5 1 v (gat zs k).length (u8s (gat zs k)) ∧ Below w.heap.size w wr) (fun _ i _ => n - (intOf i).toNat)
  case atStart => exact ⟨0, Nat.zero_le _, rfl, World.ownsRow_nil _ _ _ _, Below.refl _ _⟩
  case round =>
    obtain ⟨k, hk, rfl, hown, hbel⟩ := hrel
    have hbz := hbel.size
    by_cases hlt : k < n
    · obtain ⟨b, off, rfl, hc⟩ := (hr.below hbel).2 k hlt
      have HG : Hid (gat zs (k + 1) = gat zs k ++ eb (rnN (zs.getD k 0))) := gat_succ zs k (by omega)
      have hgl := gat_len zs k (by omega)
      have HC : Hid _ := char_any (zs.getD k 0)
      generalize zs.getD k 0 = z at *
      have hel := eb_len (rnN z)
      generalize eb (rnN z) = E at *
      go_wp2_with (first | (go_at_call 37; refine (HC.out _).mono ?_; rintro e w' ⟨rfl, rfl⟩) | (at_builtin; refine wpList_append_own _ rfl _ _ 50 rfl w.heap.size 5 i0 (.int .u8 0) 1 1 Try.underlying50 hi hz0 hz1 hz2 rfl (by decide) _ _ _ rfl (hown.alloc _) ⟨_, 0, none⟩ E.length E.length (u8s E) rfl ?c0 ?c1 ?c2 ?c3 ?c4 ?c5 ?_))
      case c0 => rw [u8s_len]; omega
      case c1 => exact row_u8 _ _ _ rfl
      case c2 => exact u8s_one _
      case c3 => unfold maxLen; omega
      case c4 => omega
      case c5 => simp; omega
      · intro v' w3 hown3 hgrow3 _
        have hbel3 : Below w.heap.size w w3 := (hbel.alloc hbz _).grown hgrow3 (by simp; omega) (fun j hj => (hown.lt j hj).1)
        rw [← u8s_app, ← List.length_append, ← HG.out] at hown3
        clear hgrow3 hown hbel HG HC hc
        go_wp2_with fail
        exact ⟨⟨k + 1, hlt, by go_num, hown3, hbel3⟩, by simp [intOf]; omega⟩
    · have hke : k = n := by omega
      subst hke
      have hcv2 := conv_u8 wr _ _ _ hown
      clear hown
      go_wp2_with fail
      go_ret
      exact ⟨by rw [HF.out]; rfl, hbel⟩
end Go.Proofs.Ytgjbkdnefbnclaa
