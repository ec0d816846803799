import Derived.Test.YtfkegaencoodbaaDoorSa
import Derived.Test.YtfkegaencoodbaaDoorPg
import Derived.Lib.ConvBytes
import Derived.BigQuiet
import Derived.Deep.AppendLies
set_option linter.unusedVariables false
set_option linter.unusedSimpArgs false
namespace Go.Proofs.YtfkegaencoodbaaDoor
open Go.RowKit
open Go.Lib (strCells strCells_length)

/-! Rows of bytes of the call's own. -/
theorem new_at (w : World) (o : Obj) : (w.alloc o).heap[w.heap.size]? = some o := World.alloc_heap_new w o
def Rb8 (B : Nat) (w : World) (v : Value) (x : ByteArray) : Prop := w.ownsRow B 5 1 v x.size (bc x.data.toList)
theorem r8_nil (B : Nat) (w : World) : Rb8 B w (.slice none 0 0) ⟨#[]⟩ := World.ownsRow_nil w B 5 1
theorem Rb8.below {B : Nat} {w w' : World} {v : Value} {x : ByteArray} (h : Rb8 B w v x) (hb : Below w.heap.size w w') : Rb8 B w' v x := by
  refine ⟨h.1, ?_⟩
  rcases h.2 with h1 | ⟨g, cap, cur, rfl, h2, h3, h4⟩
  · exact .inl h1
  · exact .inr ⟨g, cap, cur, rfl, h2, blk_below h3 hb, h4⟩
theorem Rb8.own {B : Nat} {w : World} {v : Value} {x : ByteArray} (h : Rb8 B w v x) : ∀ k, v.ownBlock = some k → B ≤ k := by
  intro k hk
  rcases h.2 with ⟨rfl, h0⟩ | ⟨b, cap, cur, rfl, hb, _⟩
  · cases hk
  · simp only [Value.ownBlock, Option.some.injEq] at hk
    omega
theorem Rb8.ne {B : Nat} {w : World} {v : Value} {x : ByteArray} (h : Rb8 B w v x) {g : Nat} {cs : Array Value} {T : TypeId} {f : Nat × Nat} (hg : w.heap[g]? = some (.cells cs T f)) (hT : T ≠ 5) : ∀ k, v.ownBlock = some k → k ≠ g := by
  intro k hk e
  rcases h.2 with ⟨rfl, h0⟩ | ⟨b, cap, cur, rfl, hb, h3, _⟩
  · cases hk
  · simp only [Value.ownBlock, Option.some.injEq] at hk
    subst hk
    subst e
    rw [hg] at h3
    cases h3
    exact hT rfl
theorem Tryd.info5 : (Tryd.prog.info? 5).map (fun i => (i.zero, i.size, i.bytes)) = some (some (.int .u8 0), 1, 1) := by kernel_rfl
theorem bc_cat (x y : ByteArray) : bc (x ++ y).data.toList = bc x.data.toList ++ bc y.data.toList := by
  rw [← bc_app, ByteArray.data_append]; simp
/-- A text behind a row of bytes. -/
theorem app_str {W : World} {ops : Array Oper} {rest : List Oper} {o : Oper} {a : Act} {Q : Exit → Act → World → Prop} (hgd : o.guard = none) (s x : Operand)
    (ho : o.op = .call { callee := .builtin .append, args := #[s, x], argTypes := #[50, 9] }) (B : Nat) (v : Value) (l y : ByteArray) (hs : a.eval s = v) (hr : Rb8 B W v l)
    (hx : a.eval x = .string y) (hl : l.size + y.size ≤ 100000000000) (hB : B ≤ W.heap.size)
    (h : ∀ v' w', Rb8 B w' v' (l ++ y) → Below B W w' → W.grownBy w' v.ownBlock → wpList Tryd.prog ops Q rest (a.put o.dst v') w') : wpList Tryd.prog ops Q (o :: rest) a W := by
  obtain ⟨i0, hi, hz0, hz1, hz2⟩ := info_parts Tryd.info5
  refine wpList_append_string_at (P := Tryd.prog) hgd s x 50 9 ho B 5 i0 Tryd.underlying50 Tryd.underlying9 hi hz0 hz1 hz2 v _ _ hs hr y hx (by unfold maxLen; omega) (by omega) hB ?_
  intro v' w' h1 h2 _
  refine h v' w' ?_ ((Below.refl B W).grown h2 hB hr.own) h2
  unfold Rb8
  rw [bc_cat, show (l ++ y).size = l.size + y.size from ByteArray.size_append]
  exact h1
/-- Some bytes behind a row of bytes. -/
theorem app_bs {W : World} {ops : Array Oper} {rest : List Oper} {o : Oper} {a : Act} {Q : Exit → Act → World → Prop} (hgd : o.guard = none) (s x : Operand)
    (ho : o.op = .call { callee := .builtin .append, args := #[s, x], argTypes := #[50, 50] }) (B : Nat) (v : Value) (l y : ByteArray) (hs : a.eval s = v) (hr : Rb8 B W v l)
    (g c : Nat) (hx : a.eval x = .slice (some ⟨g, 0, none⟩) y.size c) (hg : W.heap[g]? = some (.cells (bc y.data.toList).toArray 5 (0, 0))) (hl : l.size + y.size ≤ 10000000000) (hB : B ≤ W.heap.size)
    (h : ∀ v' w', Rb8 B w' v' (l ++ y) → Below B W w' → W.grownBy w' v.ownBlock → wpList Tryd.prog ops Q rest (a.put o.dst v') w') : wpList Tryd.prog ops Q (o :: rest) a W := by
  obtain ⟨i0, hi, hz0, hz1, hz2⟩ := info_parts Tryd.info5
  refine wpList_append_own_at (P := Tryd.prog) (w := W) hgd s x 50 ho B 5 i0 _ 1 1 Tryd.underlying50 hi hz0 hz1 hz2 rfl (by decide) v _ _ hs hr ⟨g, 0, none⟩ y.size c (bc y.data.toList) hx (by rw [bc_len, Array.length_toList]; exact (Nat.mul_one _).symm) ?_ (by intro u hu; simp only [bc, List.mem_map] at hu; obtain ⟨b, _, rfl⟩ := hu; rfl) (by unfold maxLen; omega) (by omega) hB ?_
  · intro j u hu
    refine World.news_of_block hg j u ?_
    simpa using hu
  · intro v' w' h1 h2 _ h4
    refine h v' w' ?_ ((Below.refl B W).grown h2 hB hr.own) h2
    unfold Rb8
    rw [bc_cat, show (l ++ y).size = l.size + y.size from ByteArray.size_append]
    exact h1
theorem push_bytes (l : List UInt8) : ∀ s : ByteArray, (l.map (fun b : UInt8 => (b.toNat : Int))).foldl (fun r n => r.push (UInt8.ofNat n.toNat)) s = ⟨(s.data.toList ++ l).toArray⟩ := by
  induction l with
  | nil => intro s; simp
  | cons b l ih =>
    intro s
    rw [List.map_cons, List.foldl_cons, ih]
    simp
theorem conv_b8 (w : World) (B : Nat) (v : Value) (x : ByteArray) (hv : Rb8 B w v x) : (convert 50 9 v).run Tryd.prog w = .ok (.string x) w := by
  rcases hv.2 with ⟨rfl, h0⟩ | ⟨g, cp, cur, rfl, h2⟩
  · rw [run_convert_bytes_string (P := Tryd.prog) w 50 9 5 _ _ _ Tryd.underlying50 Tryd.underlying5 Tryd.underlying9]
    obtain ⟨⟨a⟩⟩ := x
    have : a = [] := List.eq_nil_of_length_eq_zero h0
    subst this
    rfl
  · rw [run_convert_bytes_string (P := Tryd.prog) w 50 9 5 _ _ _ Tryd.underlying50 Tryd.underlying5 Tryd.underlying9]
    have hload := run_loadCells_list (P := Tryd.prog) w ⟨g, 0, none⟩ (bc x.data.toList) (hv.cells rfl)
    rw [bc_len] at hload
    rw [run_bytesToString (P := Tryd.prog) w ⟨g, 0, none⟩ x.size cp (x.data.toList.map (fun b : UInt8 => (b.toNat : Int))) (by rw [show x.size = x.data.toList.length from (Array.length_toList ..).symm, hload]; simp [bc, List.map_map, Function.comp_def]), push_bytes]
    rfl

/-! A line as it is shown. -/
def chB (s : ByteArray) (a : Nat) : ByteArray := if gd s a = false then ⟨#[239, 191, 189]⟩ else if dp s a < 32 ∨ dp s a = 127 then ⟨#[32]⟩ else s.extract a (a + dw s a)
def shB (s : ByteArray) : Nat → ByteArray
  | 0 => ⟨#[]⟩
  | k + 1 => shB s k ++ chB s (st s k)
theorem chB_sz (s : ByteArray) (a : Nat) : (chB s a).size ≤ 4 := by
  unfold chB
  split
  · decide
  · split
    · decide
    · rw [ByteArray.size_extract]
      rcases Nat.lt_or_ge a s.size with h | h
      · have := (dw_facts s a h).2.1
        omega
      · omega
theorem shB_sz (s : ByteArray) : ∀ k, (shB s k).size ≤ 4 * k
  | 0 => Nat.le_refl _
  | k + 1 => by
    have h1 := shB_sz s k
    have h2 := chB_sz s (st s k)
    show (shB s k ++ chB s (st s k)).size ≤ _
    rw [ByteArray.size_append]
    omega

end Go.Proofs.YtfkegaencoodbaaDoor
