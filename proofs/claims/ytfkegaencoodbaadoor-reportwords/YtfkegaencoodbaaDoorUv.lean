import Derived.Test.YtfkegaencoodbaaDoorUt
set_option linter.unusedVariables false
set_option linter.unusedSimpArgs false
namespace Go.Proofs.YtfkegaencoodbaaDoor
open Go.RowKit

/-! report.Show: all six ways. -/
theorem eq_nilW (t : ByteArray) (v : Value) (w : World) : (binOp .eql 32 (wrd t v) .nilIface).run Tryd.prog w = .ok (.bool false) w := by kernel_rfl
theorem eq_nilS (v : Value) (w : World) : (binOp .eql 32 (.iface 55 v) .nilIface).run Tryd.prog w = .ok (.bool false) w := by kernel_rfl
theorem eg_F (v : Value) (w : World) : (eqGuard .eql 32 (.tmp 8) (.const .nilIface) (.iface 30 v) .nilIface).run Tryd.prog w = .ok () w := by kernel_rfl
theorem eg_W (t : ByteArray) (v : Value) (w : World) : (eqGuard .eql 32 (.tmp 8) (.const .nilIface) (wrd t v) .nilIface).run Tryd.prog w = .ok () w := by kernel_rfl
theorem eg_S (v : Value) (w : World) : (eqGuard .eql 32 (.tmp 8) (.const .nilIface) (.iface 55 v) .nilIface).run Tryd.prog w = .ok () w := by kernel_rfl
theorem ferB_sz {c y z : Int} (hc : i64 c) (hy : i64 y) (hz : i64 z) : (ferB c y z).size ≤ 100 := by
  have s1 := itB_sz hc
  have s2 := itB_sz hy
  have s3 := itB_sz hz
  unfold ferB enB
  simp only [ByteArray.size_append]
  have z2 : (⟨#[58]⟩ : ByteArray).size = 1 := rfl
  have z1 : (⟨#[58, 32]⟩ : ByteArray).size = 2 := rfl
  have z3 : (⟨#[101, 114, 114, 111, 114, 32]⟩ : ByteArray).size = 6 := rfl
  omega
theorem mkB_sz (s : ByteArray) (y z : Int) (hs : s.size ≤ 50000000) : (mkB s y z).size ≤ 20000000000 := by
  unfold mkB
  split
  · have h1 := shB_sz (lineS s y) (P (lineS s y)).length
    have h2 := P_len (lineS s y)
    have h3 := lineS_le s y
    have h4 := cfB_bd (lineS s y) (z - 1) (by omega)
    unfold tlB
    simp only [ByteArray.size_append, blk8_sz]
    have z1 : (⟨#[32, 32]⟩ : ByteArray).size = 2 := rfl
    have z2 : (⟨#[10, 32, 32]⟩ : ByteArray).size = 3 := rfl
    have z3 : (⟨#[94, 10]⟩ : ByteArray).size = 2 := rfl
    omega
  · exact Nat.zero_le _
set_option maxHeartbeats 2000000 in
set_option maxRecDepth 100000 in
theorem shw_core {name s : ByteArray} {er : Value} {c x y z : Int} {g : Nat} {W : World} (hn : name.size + s.size ≤ 4194304) (hI : ItP W) (hT : Tab W) (hc : i64 c) (hy : i64 y) (hz : i64 z)
    (hg : W.heap[g]? = some (ftb c x y z)) (ha : AsF W er (some ⟨g, 0, none⟩)) (he : ∀ w, (binOp .eql 32 er .nilIface).run Tryd.prog w = .ok (.bool false) w)
    (he2 : ∀ w, (eqGuard .eql 32 (.tmp 8) (.const .nilIface) er .nilIface).run Tryd.prog w = .ok () w) :
    Calls Tryd.prog 8 #[.string name, .string s, er] W (AnS W (rshB name s c y z)) := by
  have HF : Hid (Calls Tryd.prog 17 #[er] W fun e w' => e = .returned (.pointer (some ⟨g, 0, none⟩)) ∧ Below W.heap.size W w') := fin_hit ha
  obtain ⟨F, hF⟩ : ∃ F, ferB c y z = F := ⟨_, rfl⟩
  obtain ⟨M, hM⟩ : ∃ M, mkB s y z = M := ⟨_, rfl⟩
  have hFz : F.size ≤ 100 := by rw [← hF]; exact ferB_sz hc hy hz
  have hMz : M.size ≤ 20000000000 := by rw [← hM]; exact mkB_sz s y z (by omega)
  have HX : Hid (∀ U, Below W.heap.size W U → Calls Tryd.prog 19 #[.pointer (some ⟨g, 0, none⟩)] U fun e w' => e = .returned (.string F) ∧ Below U.heap.size U w') := fun U h => by rw [← hF]; exact fer_any (hI.below h) hc hy hz (blk_below hg h)
  have HM : Hid (∀ U, Below W.heap.size W U → Calls Tryd.prog 20 #[.string s, plv x y z] U fun e w' => e = .returned (.string M) ∧ Below U.heap.size U w') := fun U h => by rw [← hM]; exact marked_any (by omega) (hT.below h) hz
  have HE : Hid (rshB name s c y z = name ++ ⟨#[58, 32]⟩ ++ F ++ ⟨#[10]⟩ ++ M) := (by rw [rshB_mk, hdB_fer, hF, hM] : rshB name s c y z = _)
  have HG : Hid (W.heap[g]? = some (ftb c x y z)) := hg
  clear hI hT hc hy hz hg ha hF hM
  go_enter Tryd.func8, Tryd.ntmps8
  go_wp2_with fail
  refine HF.out.mono ?_
  rintro e w1 ⟨rfl, hb1⟩
  have H1 : Hid (Below W.heap.size W w1 ∧ w1.heap[g]? = some (ftb c x y z)) := ⟨hb1, blk_below HG.out hb1⟩
  clear hb1 HF HG
  have c1 : ∀ u : HW (SG w1), u.W.cell? ⟨g, 1, none⟩ = some (.int .i64 x) := fun u => cel_up (blk_cell H1.out.2 rfl) u.h
  have c2 : ∀ u : HW (SG w1), u.W.cell? ⟨g, 2, none⟩ = some (.int .i64 y) := fun u => cel_up (blk_cell H1.out.2 rfl) u.h
  have c3 : ∀ u : HW (SG w1), u.W.cell? ⟨g, 3, none⟩ = some (.int .i64 z) := fun u => cel_up (blk_cell H1.out.2 rfl) u.h
  have u1 : (name ++ ⟨#[58, 32]⟩).size = name.size + 2 := ByteArray.size_append
  have u2 : (name ++ ⟨#[58, 32]⟩ ++ F).size = name.size + 2 + F.size := by rw [ByteArray.size_append, u1]
  have u3 : (name ++ ⟨#[58, 32]⟩ ++ F ++ ⟨#[10]⟩).size = name.size + 2 + F.size + 1 := by rw [ByteArray.size_append, u2]; rfl
  have HX1 : Hid (∀ u : HW (SG w1), Calls Tryd.prog 19 #[.pointer (some ⟨g, 0, none⟩)] u.W fun e w' => e = .returned (.string F) ∧ Below u.W.heap.size u.W w') := fun u => HX.out _ (H1.out.1.trans (Below.mono u.h H1.out.1.size))
  have HM1 : Hid (∀ u : HW (SG w1), Calls Tryd.prog 20 #[.string s, plv x y z] u.W fun e w' => e = .returned (.string M) ∧ Below u.W.heap.size u.W w') := fun u => HM.out _ (H1.out.1.trans (Below.mono u.h H1.out.1.size))
  clear HX HM
  go_wp2_with fail
  have hne : Nonempty (HW (SG w1)) := ⟨⟨w1, Below.refl _ _⟩⟩
  have hex : ∀ u : HW (SG w1), ∃ v : HW (SG w1), u.W = v.W := fun u => ⟨u, rfl⟩
  refine wp_region_quiet_in (S := SG w1) (by kernel_rfl) (by kernel_rfl) (Below.refl _ _).drew ?_
  repeat (go_big_quiet_step (first | (go_at_call 19; exact Calls.quiet_in _ (HX1.out _) (fun _ _ => SG.keep)) | (go_at_call 20; exact Calls.quiet_in _ (HM1.out _) (fun _ _ => SG.keep))))
  refine wpQuiet_nil ?_
  rintro w5 ⟨⟨W5, hS5⟩, rfl⟩
  have H5 : Hid (Below W.heap.size W w5) := H1.out.1.trans (Below.mono hS5 H1.out.1.size)
  clear hS5 hne hex H1 HX1 HM1 c1 c2 c3
  go_wp2_with fail
  go_ret
  exact ⟨by rw [HE.out]; rfl, H5.out⟩
set_option maxHeartbeats 1000000 in
theorem shw_word {name s t : ByteArray} {er : Value} {W : World} (hn : name.size + s.size + t.size ≤ 4194304) (hf : Calls Tryd.prog 17 #[er] W fun e w' => e = .returned (.pointer none) ∧ Below W.heap.size W w')
    (hw : ∀ U, Below W.heap.size W U → Calls Tryd.prog 18 #[er] U fun e w' => e = .returned (.string t) ∧ Below U.heap.size U w') (he : ∀ w, (binOp .eql 32 er .nilIface).run Tryd.prog w = .ok (.bool false) w)
    (he2 : ∀ w, (eqGuard .eql 32 (.tmp 8) (.const .nilIface) er .nilIface).run Tryd.prog w = .ok () w) :
    Calls Tryd.prog 8 #[.string name, .string s, er] W (AnS W (wdB name t)) := by
  have HF : Hid (Calls Tryd.prog 17 #[er] W fun e w' => e = .returned (.pointer none) ∧ Below W.heap.size W w') := hf
  have HO : Hid (∀ U, Below W.heap.size W U → Calls Tryd.prog 18 #[er] U fun e w' => e = .returned (.string t) ∧ Below U.heap.size U w') := hw
  have u1 : (name ++ ⟨#[58, 32]⟩).size = name.size + 2 := ByteArray.size_append
  have u2 : (name ++ ⟨#[58, 32]⟩ ++ t).size = name.size + 2 + t.size := by rw [ByteArray.size_append, u1]
  clear hf hw
  go_enter Tryd.func8, Tryd.ntmps8
  go_wp2_with fail
  refine HF.out.mono ?_
  rintro e w1 ⟨rfl, hb1⟩
  have H1 : Hid (Below W.heap.size W w1) := hb1
  clear hb1 HF
  go_wp2_with fail
  refine (HO.out _ H1.out).mono ?_
  rintro e w2 ⟨rfl, hb2⟩
  have H2 : Hid (Below W.heap.size W w2) := H1.out.trans (hb2.mono H1.out.size)
  clear hb2 HO H1
  go_wp2_with fail
  go_ret
  exact ⟨rfl, H2.out⟩
theorem shw_nil {name s : ByteArray} {W : World} : Calls Tryd.prog 8 #[.string name, .string s, .nilIface] W (AnS W ⟨#[]⟩) := by
  go_enter Tryd.func8, Tryd.ntmps8
  go_wp2_with fail
  go_ret
  exact ⟨rfl, Below.refl _ _⟩
/-- The code's Show answers as the laws want. -/
theorem rsp_of {W : World} (hE : ETy W) (hI : ItP W) (hT : Tab W) : RsP W where
  flt := fun name s c x y z g U h1 h2 h3 h4 h5 h6 => shw_core h1 (hI.below h5) (hT.below h5) h2 h3 h4 h6 (asf_flt (hE.below h5) g) (eq_nilF _) (eg_F _)
  wft := fun name s t c x y z g U h1 h2 h3 h4 h5 h6 => shw_core h1 (hI.below h5) (hT.below h5) h2 h3 h4 h6 (asf_wrd (hE.below h5) t g) (eq_nilW _ _) (eg_W _ _)
  new := fun name s t g U h1 h5 h6 => shw_word h1 (fin_miss (asn_str (hE.below h5) g)) (fun V hb => wof_str (blk_below h6 hb)) (eq_nilS _) (eg_S _)
  wnw := fun name s t u g U h1 h5 h6 => shw_word h1 (fin_miss (asn_wrd (hE.below h5) t g)) (fun V hb => wof_wrd) (eq_nilW _ _) (eg_W _ _)
  nlf := fun name s U h1 h5 => shw_word (t := ⟨#[]⟩) (by show _ + 0 ≤ _; omega) (fin_hit (asf_nil (hE.below h5))) (fun V hb => wof_nil) (eq_nilF _) (eg_F _)
  nil := fun name s U h1 h5 => shw_nil

end Go.Proofs.YtfkegaencoodbaaDoor
