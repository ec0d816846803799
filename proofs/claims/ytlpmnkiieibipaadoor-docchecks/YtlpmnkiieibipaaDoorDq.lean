import Derived.Test.YtlpmnkiieibipaaDoorDm
import Derived.Test.YtlpmnkiieibipaaDoorDo
import Derived.Test.YtlpmnkiieibipaaDoorDp
set_option linter.unusedVariables false
set_option linter.unusedSimpArgs false
namespace Go.Proofs.YtlpmnkiieibipaaDoor
open Go.RowKit

theorem ls_drop (s : ByteArray) (k : Nat) (h : k ≤ s.size) : ls (s.extract k s.size) = (ls s).drop k := by
  rw [ls_extract s k s.size (Nat.le_refl _), ← ls_len s, List.take_length]
theorem size_drop (s : ByteArray) (k : Nat) (h : k ≤ s.size) : (s.extract k s.size).size = s.size - k := by
  rw [← ls_len, ls_drop s k h, List.length_drop, ls_len]
theorem tl_ne {s : ByteArray} (h : 0 < s.size) : ¬ s.toList = [] := by
  rw [Lib.toList_data]
  intro hl
  exact absurd (by have := ls_len s; rw [ls, hl] at this; simpa using this.symm) (show ¬ s.size = 0 by omega)

def strSz : Value → Nat
  | .string r => r.size
  | _ => 0

set_option maxHeartbeats 2000000 in
set_option maxRecDepth 100000 in
theorem une_any (s : ByteArray) (hs : s.size ≤ 1000000000) (w : World) (hG : Gl w) :
    Calls Tryd.prog 34 #[.string s] w fun e w' => e = .returned (.tuple #[.string ⟨((une (ls s)).getD []).toArray⟩, .bool (une (ls s)).isSome]) ∧ Below w.heap.size w w' := by
  obtain ⟨i0, hi, hz0, hz1, hz2⟩ := info_parts Tryd.info5
  obtain ⟨u, hu⟩ : ∃ u, une (ls s) = u := ⟨_, rfl⟩
  have HU : Hid (une (ls s) = u) := hu
  have HG : Hid (GlB w.heap.size w) := hG.glB
  rw [hu]
  clear hu hG
  go_enter Tryd.func34, Tryd.ntmps34
  go_wp2_with (at_make; refine wpList_make_own _ rfl _ _ 40 rfl w.heap.size 5 i0 (.int .u8 0) 1 Tryd.underlying40 hi hz0 hz1 _ _ _ s.size rfl rfl rfl (by rw [hz2]; omega) (by unfold maxLen; omega) (by omega) ?_)
  intro w2 hown hgrow
  have HB2 : Hid (Br w.heap.size w2 (.slice (some ⟨w.heap.size, 0, none⟩) 0 s.size) [] ∧ Below w.heap.size w w2) := ⟨hown, (Below.refl _ _).grown hgrow (Nat.le_refl _) (fun _ h => by cases h)⟩
  clear hown hgrow
  go_wp2_with fail
  go_loopw [0, 4] (fun x b wr => ∃ (r : ByteArray) (l : List UInt8), x = .string r ∧ r.size ≤ s.size ∧ l.length + r.size ≤ s.size ∧ Hid (u = (une (ls r)).map (l ++ ·) ∧ Br w.heap.size wr b l ∧ Below w.heap.size w wr)) (fun x _ _ => strSz x)
  case atStart => exact ⟨s, [], rfl, Nat.le_refl _, by simp, by rw [← HU.out]; simp, HB2.out⟩
  case round =>
    obtain ⟨r, l, rfl, h1, h2, HI⟩ := hrel
    obtain ⟨e1, hr, hw⟩ := HI.out
    by_cases h0 : r.size = 0
    · obtain rfl : r = ⟨#[]⟩ := ls_inj (List.eq_nil_of_length_eq_zero (by rw [ls_len]; exact h0))
      have HE : Hid (u = some l) := by
        show _ = _
        rw [e1, show ls ⟨#[]⟩ = [] from rfl, une_nil]; simp
      obtain ⟨p, cp, rfl, hc1, hc2⟩ := hr.shape
      have hcv := conv_bytes wr _ _ _ hr
      have HW : Hid (Below w.heap.size w wr) := hw
      clear HI e1 hr hw
      go_wp2_with fail
      go_ret2
      rw [HE.out]
      exact ⟨rfl, HW.out⟩
    · have hp : 0 < r.size := by omega
      have hne := tl_ne hp
      have hne2 : r.toList.isEmpty = false := by cases h : r.toList with | nil => exact absurd h hne | cons a b => rfl
      have hnl : ls r ≠ [] := fun h => h0 (by rw [← ls_len, h]; rfl)
      obtain ⟨c, f, hcf⟩ : ∃ c f, fb (ls r) = (c, f) := ⟨_, _, rfl⟩
      have HF : Hid (∀ W, Calls Tryd.prog 43 #[.string r] W fun e w' => e = .returned (.tuple #[.int .u8 (c.toNat : Int), .int .u8 (f : Int)]) ∧ Below W.heap.size W w') := fun W => by
        have := fb_any r hp (by omega) W
        rw [hcf] at this
        exact this
      have HM : Hid (∀ W, Below w.heap.size w W → Calls Tryd.prog 40 #[.int .u8 (c.toNat : Int)] W fun e w' => e = .returned (.int .u8 (fm c : Nat)) ∧ w' = W) := fun W hW => form_any c W (HG.out W hW)
      by_cases hf : f = fm c
      · have hg : (fb (ls r)).2 = fm (fb (ls r)).1 := by rw [hcf]; exact hf
        have hle := fb_len (ls r) hnl hg
        rw [hcf, ls_len] at hle
        have hle' : f ≤ r.size := hle
        have hpos := fm_pos c
        have hun := une_good hnl hg
        rw [hcf] at hun
        simp only at hun
        have HE : Hid (u = (une (ls (r.extract f r.size))).map ((l ++ [c]) ++ ·)) := by
          show _ = _
          rw [e1, hun, ls_drop r f hle']
          cases une ((ls r).drop f) <;> simp
        have hsz := size_drop r f hle'
        obtain ⟨p, cp, rfl, hc1, hc2⟩ := hr.shape
        have HR : Hid (Br w.heap.size wr (.slice p l.length cp) l ∧ Below w.heap.size w wr) := ⟨hr, hw⟩
        clear HI e1 hr hw hun hle hg hcf hnl
        rw [← hf] at HM hpos
        have qf : (f : Int) ≤ r.size := by omega
        have q0 : (0 : Int) ≤ f := by omega
        have HS : Hid ((r.extract f r.size).size = r.size - f) := hsz
        clear hsz hf
        go_wp2_with (first | (go_at_call 43; refine (HF.out _).mono ?_; rintro e w3 ⟨rfl, hb3⟩; have HR3 : Hid (Br w.heap.size w3 (.slice p l.length cp) l ∧ Below w.heap.size w w3) := ⟨HR.out.1.below hb3, HR.out.2.trans (hb3.mono HR.out.2.size)⟩; clear hb3) | (go_at_call 40; refine (HM.out _ HR3.out.2).mono ?_; rintro e w4 ⟨rfl, hq⟩; have hq' := hq.symm; subst hq') | (at_builtin; refine app_bytes rfl _ _ rfl w.heap.size (.slice p l.length cp) l [c] rfl (HR3.out.1.below ((Below.refl _ _).alloc (Nat.le_refl _) _)) w3.heap.size _ _ rfl rfl (heap_new _ _) (by simp only [List.length_cons, List.length_nil]; omega) (by rw [World.size_alloc]; exact Nat.le_succ_of_le HR3.out.2.size) ?_))
        intro v5 w5 hr5 hb5
        obtain ⟨p5, cp5, rfl, _, _⟩ := hr5.shape
        have HR5 : Hid (Br w.heap.size w5 (.slice p5 (l ++ [c]).length cp5) (l ++ [c]) ∧ Below w.heap.size w w5) := ⟨hr5, (HR3.out.2.alloc HR3.out.2.size _).trans hb5.bel⟩
        have HN : Hid ((l ++ [c]).length = l.length + 1) := by show _ = _; simp
        clear hr5 hb5 HR3
        have HN' : Hid ((l ++ [c]).length = l.length + 1) := HN
        obtain ⟨nn, hnn⟩ : ∃ nn, (l ++ [c]).length = nn := ⟨_, rfl⟩
        rw [hnn] at HR5 HN ⊢
        clear hnn
        go_wp2_with fail
        refine ⟨⟨r.extract f r.size, l ++ [c], rfl, by rw [HS.out]; omega, by rw [HN'.out, HS.out]; omega, HE.out, HR5.out⟩, ?_⟩
        show (r.extract f r.size).size < r.size
        rw [HS.out]; omega
      · have hg : (fb (ls r)).2 ≠ fm (fb (ls r)).1 := by rw [hcf]; exact hf
        have HE : Hid (u = none) := by
          show _ = _
          rw [e1, une_bad hnl hg]; rfl
        obtain ⟨p, cp, rfl, hc1, hc2⟩ := hr.shape
        have HR : Hid (Below w.heap.size w wr) := hw
        have hfi : ((f : Int) != (fm c : Int)) = true := by
          have : ¬ (f : Int) = (fm c : Int) := by omega
          simp [bne, this]
        clear HI e1 hr hw hg hcf hnl
        go_wp2_with (first | (go_at_call 43; refine (HF.out _).mono ?_; rintro e w3 ⟨rfl, hb3⟩; have HR3 : Hid (Below w.heap.size w w3) := HR.out.trans (hb3.mono HR.out.size); clear hb3) | (go_at_call 40; refine (HM.out _ HR3.out).mono ?_; rintro e w4 ⟨rfl, hq⟩; have hq' := hq.symm; subst hq'))
        go_ret2
        rw [HE.out]
        exact ⟨rfl, HR3.out⟩
end Go.Proofs.YtlpmnkiieibipaaDoor
