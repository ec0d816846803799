import Derived.Test.YtfkegaencoodbaaDoorUd
set_option linter.unusedVariables false
set_option linter.unusedSimpArgs false
namespace Go.Proofs.YtfkegaencoodbaaDoor
open Go.RowKit

/-! The laws of report, over what report.Show answers. -/
abbrev ftp (p : Option Addr) : Value := .iface 30 (.pointer p)
abbrev wrd (t : ByteArray) (e : Value) : Value := .iface 34 (.agg #[.string t, e])
abbrev esv (g : Nat) : Value := .iface 55 (.pointer (some ⟨g, 0, none⟩))
abbrev esb (t : ByteArray) : Obj := .cells #[.string t] 57
def AnS (U : World) (R : ByteArray) (e : Ending) (w' : World) : Prop := e = .returned (.string R) ∧ Below U.heap.size U w'
def wdB (name t : ByteArray) : ByteArray := name ++ ⟨#[58, 32]⟩ ++ t ++ ⟨#[10]⟩
/-- What report.Show must answer. -/
structure RsP (W : World) : Prop where
  flt : ∀ (name s : ByteArray) (c x y z : Int) (g : Nat) (U : World), name.size + s.size ≤ 4194304 → i64 c → i64 y → i64 z → Below W.heap.size W U → U.heap[g]? = some (ftb c x y z) → Calls Tryd.prog 8 #[.string name, .string s, ftp (some ⟨g, 0, none⟩)] U (AnS U (rshB name s c y z))
  wft : ∀ (name s t : ByteArray) (c x y z : Int) (g : Nat) (U : World), name.size + s.size ≤ 4194304 → i64 c → i64 y → i64 z → Below W.heap.size W U → U.heap[g]? = some (ftb c x y z) → Calls Tryd.prog 8 #[.string name, .string s, wrd t (ftp (some ⟨g, 0, none⟩))] U (AnS U (rshB name s c y z))
  new : ∀ (name s t : ByteArray) (g : Nat) (U : World), name.size + s.size + t.size ≤ 4194304 → Below W.heap.size W U → U.heap[g]? = some (esb t) → Calls Tryd.prog 8 #[.string name, .string s, esv g] U (AnS U (wdB name t))
  wnw : ∀ (name s t u : ByteArray) (g : Nat) (U : World), name.size + s.size + t.size ≤ 4194304 → Below W.heap.size W U → U.heap[g]? = some (esb u) → Calls Tryd.prog 8 #[.string name, .string s, wrd t (esv g)] U (AnS U (wdB name t))
  nlf : ∀ (name s : ByteArray) (U : World), name.size + s.size ≤ 4194304 → Below W.heap.size W U → Calls Tryd.prog 8 #[.string name, .string s, ftp none] U (AnS U (wdB name ⟨#[]⟩))
  nil : ∀ (name s : ByteArray) (U : World), name.size + s.size ≤ 4194304 → Below W.heap.size W U → Calls Tryd.prog 8 #[.string name, .string s, .nilIface] U (AnS U ⟨#[]⟩)
theorem RsP.below {W V : World} (h : RsP W) (hb : Below W.heap.size W V) : RsP V where
  flt := fun name s c x y z g U h1 h2 h3 h4 h5 => h.flt name s c x y z g U h1 h2 h3 h4 (hb.trans (h5.mono hb.size))
  wft := fun name s t c x y z g U h1 h2 h3 h4 h5 => h.wft name s t c x y z g U h1 h2 h3 h4 (hb.trans (h5.mono hb.size))
  new := fun name s t g U h1 h5 => h.new name s t g U h1 (hb.trans (h5.mono hb.size))
  wnw := fun name s t u g U h1 h5 => h.wnw name s t u g U h1 (hb.trans (h5.mono hb.size))
  nlf := fun name s U h1 h5 => h.nlf name s U h1 (hb.trans (h5.mono hb.size))
  nil := fun name s U h1 h5 => h.nil name s U h1 (hb.trans (h5.mono hb.size))
theorem enew_any (t : ByteArray) (W : World) : Calls Tryd.prog 9 #[.string t] W fun e w' => e = .returned (esv W.heap.size) ∧ w' = W.alloc (esb t) := by
  go_enter Tryd.func9, Tryd.ntmps9
  go_wp2_with fail
  go_ret
  exact ⟨rfl, rfl⟩
abbrev asr : ByteArray := ⟨#[97, 9, 98, 255, 99]⟩
abbrev aot : ByteArray := ⟨#[102, 58, 32, 49, 58, 53, 58, 32, 101, 114, 114, 111, 114, 32, 55, 10, 32, 32, 97, 32, 98, 239, 191, 189, 99, 10, 32, 32, 32, 32, 32, 32, 94, 10]⟩
theorem itB_one {i : Nat} (h : i < 10) : itB i = ⟨#[UInt8.ofNat (48 + i)]⟩ := by
  unfold itB
  rw [Lib.itoa]
  rw [if_neg (by omega), Int.toNat_natCast, Lib.decDigits_one h]
theorem raw_1 : rshB ⟨#[102]⟩ asr 7 1 5 = aot := by
  have e : hdB ⟨#[102]⟩ 7 1 5 = ⟨#[102, 58, 32, 49, 58, 53, 58, 32, 101, 114, 114, 111, 114, 32, 55, 10]⟩ := by
    unfold hdB
    rw [show itB 7 = itB ((7 : Nat) : Int) from rfl, show itB 1 = itB ((1 : Nat) : Int) from rfl, show itB 5 = itB ((5 : Nat) : Int) from rfl, itB_one (by decide), itB_one (by decide), itB_one (by decide)]
    kernel_rfl
  have h : mkd asr 1 5 := of_decide_eq_true (by kernel_rfl)
  have h2 : rshB ⟨#[102]⟩ asr 7 1 5 = hdB ⟨#[102]⟩ 7 1 5 ++ ⟨#[32, 32]⟩ ++ shB (lineS asr 1) (P (lineS asr 1)).length ++ ⟨#[10, 32, 32]⟩ ++ blk8 (cfB (lineS asr 1) (5 - 1)).toNat ++ ⟨#[94, 10]⟩ := if_pos h
  rw [h2, e]
  have h3 : (⟨#[102, 58, 32, 49, 58, 53, 58, 32, 101, 114, 114, 111, 114, 32, 55, 10]⟩ : ByteArray) ++ ⟨#[32, 32]⟩ ++ shB (lineS asr 1) (P (lineS asr 1)).length ++ ⟨#[10, 32, 32]⟩ ++ blk8 (cfB (lineS asr 1) (5 - 1)).toNat ++ ⟨#[94, 10]⟩ = aot := by kernel_rfl
  exact h3
set_option maxHeartbeats 1000000 in
theorem rawake_any {W : World} (hR : RsP W) : Calls Tryd.prog 6 #[] W fun e w' => e = .returned (.bool true) ∧ Below W.heap.size W w' := by
  have hal : Below W.heap.size W (W.alloc (ftb 7 4 1 5)) := (Below.refl _ _).alloc (Nat.le_refl _) _
  have HF : Hid (Calls Tryd.prog 8 #[.string ⟨#[102]⟩, .string asr, ftp (some ⟨W.heap.size, 0, none⟩)] (W.alloc (ftb 7 4 1 5)) (AnS (W.alloc (ftb 7 4 1 5)) aot)) := by
    have := hR.flt ⟨#[102]⟩ asr 7 4 1 5 W.heap.size _ (by decide) (by unfold i64; omega) (by unfold i64; omega) (by unfold i64; omega) hal (new_at _ _)
    rw [raw_1] at this
    exact this
  have HB : Hid (Below W.heap.size W (W.alloc (ftb 7 4 1 5))) := hal
  have HN : Hid (∀ U, Below W.heap.size W U → Calls Tryd.prog 8 #[.string ⟨#[102]⟩, .string ⟨#[97]⟩, .nilIface] U (AnS U ⟨#[]⟩)) := fun U h => hR.nil _ _ U (by decide) h
  clear hR hal
  go_enter Tryd.func6, Tryd.ntmps6
  go_wp2_with fail
  refine HF.out.mono ?_
  rintro e w1 ⟨rfl, hb1⟩
  have H1 : Hid (Below W.heap.size W w1) := HB.out.trans (hb1.mono HB.out.size)
  clear hb1 HB HF
  go_wp2_with fail
  refine (HN.out _ H1.out).mono ?_
  rintro e w2 ⟨rfl, hb2⟩
  have H2 : Hid (Below W.heap.size W w2) := H1.out.trans (hb2.mono H1.out.size)
  clear hb2 H1 HN
  go_wp2_with fail
  go_ret
  exact ⟨rfl, H2.out⟩

end Go.Proofs.YtfkegaencoodbaaDoor
