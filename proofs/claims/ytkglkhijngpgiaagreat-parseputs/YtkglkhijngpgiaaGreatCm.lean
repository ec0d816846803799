import Derived.Test.YtkglkhijngpgiaaGreatCl
set_option linter.unusedVariables false
set_option linter.unusedSimpArgs false
namespace Go.Proofs.YtkglkhijngpgiaaGreat
open Go.RowKit

/-! The rows of the grammar, as package parse has them (typed by gen_cm.py). -/
/-- What a row makes of a token: it is refused; a row comes next; a node begins, its row comes next. -/
inductive Rw | ref | ex (r : List It) | op (n : Int) (r : List It)
def wordedR (s : ByteArray) : Rw :=
  if s.toList == [115, 107, 105, 112] then .op 13 [.fl (.wd 2 [s])]
  else if s.toList == [105, 102] then .op 15 [.fl (.wd 2 [s]), .fl (.mt .expr), .fl (.wd 2 [⟨#[116, 104, 101, 110]⟩]), .fl (.mt .body), .again (.row [.wd 2 [⟨#[101, 108, 105, 102]⟩], .mt .expr, .wd 2 [⟨#[116, 104, 101, 110]⟩], .mt .body]), .once (.row [.wd 2 [⟨#[101, 108, 115, 101]⟩], .mt .body]), .fl (.wd 2 [⟨#[101, 110, 100]⟩])]
  else if s.toList == [119, 104, 105, 108, 101] then .op 16 [.fl (.wd 2 [s]), .fl (.mt .expr), .fl (.wd 2 [⟨#[100, 111]⟩]), .fl (.mt .body), .fl (.wd 2 [⟨#[101, 110, 100]⟩])]
  else if s.toList == [102, 111, 114] then .op 17 [.fl (.wd 2 [s]), .fl (.nm), .fl (.wd 6 [⟨#[58, 61]⟩]), .fl (.mt .expr), .fl (.wd 2 [⟨#[116, 111]⟩]), .fl (.mt .expr), .fl (.wd 2 [⟨#[100, 111]⟩]), .fl (.mt .body), .fl (.wd 2 [⟨#[101, 110, 100]⟩])]
  else if s.toList == [114, 101, 112, 101, 97, 116] then .op 18 [.fl (.wd 2 [s]), .fl (.mt .body), .fl (.wd 2 [⟨#[117, 110, 116, 105, 108]⟩]), .fl (.mt .expr)]
  else if s.toList == [114, 101, 116, 117, 114, 110] then .op 19 [.fl (.wd 2 [s]), .once (.ex .expr)]
  else if s.toList == [98, 101, 103, 105, 110] then .op 20 [.fl (.wd 2 [s]), .fl (.mt .body), .fl (.wd 2 [⟨#[101, 110, 100]⟩])]
  else .ref
def M.row (t : Tv) : M → Rw
  | .block => .op 2 [.again (.fn .declaration), .fl (.wd 2 [⟨#[98, 101, 103, 105, 110]⟩]), .fl (.mt .body), .fl (.wd 2 [⟨#[101, 110, 100]⟩])]
  | .variables => .op 3 [.fl (.wd 2 [⟨#[118, 97, 114]⟩]), .fl (.mt .typed), .fl (.wd 6 [⟨#[59]⟩])]
  | .constants => .op 4 [.fl (.wd 2 [⟨#[99, 111, 110, 115, 116]⟩]), .fl (.nm), .fl (.wd 6 [⟨#[61]⟩]), .fl (.mt .expr), .fl (.wd 6 [⟨#[59]⟩])]
  | .params => .op 6 [.fl (.wd 6 [⟨#[40]⟩]), .fl (.mt .param), .again (.row [.wd 6 [⟨#[59]⟩], .mt .param]), .fl (.wd 6 [⟨#[41]⟩])]
  | .param => .op 7 [.fl (.mt .typed)]
  | .typed => .ex [.fl (.nm), .again (.row [.wd 6 [⟨#[44]⟩], .nm]), .fl (.wd 6 [⟨#[58]⟩]), .fl (.mt .kind)]
  | .member => .op 11 [.fl (.mt .typed)]
  | .body => .op 12 [.fl (.mt .statement), .again (.row [.wd 6 [⟨#[59]⟩], .mt .statement])]
  | .expr => .op 21 [.fl (.mt .rel), .again (.row [.wd 2 [⟨#[97, 110, 100]⟩, ⟨#[111, 114]⟩], .mt .rel])]
  | .rel => .op 22 [.fl (.mt .sum), .once (.row [.wd 6 [⟨#[61]⟩, ⟨#[35]⟩, ⟨#[60]⟩, ⟨#[60, 61]⟩, ⟨#[62]⟩, ⟨#[62, 61]⟩], .mt .sum])]
  | .sum => .op 23 [.fl (.mt .term), .again (.row [.wd 6 [⟨#[43]⟩, ⟨#[45]⟩], .mt .term])]
  | .term => .op 24 [.fl (.mt .factor), .again (.row [.wd 6 [⟨#[42]⟩, ⟨#[47]⟩, ⟨#[37]⟩], .mt .factor])]
  | .object => .op 28 [.fl (.nm), .again (.fn .detail)]
  | .index => .op 29 [.fl (.wd 6 [⟨#[91]⟩]), .fl (.mt .list), .fl (.wd 6 [⟨#[93]⟩])]
  | .selection => .op 30 [.fl (.wd 6 [⟨#[46]⟩]), .fl (.nm)]
  | .args => .op 31 [.fl (.wd 6 [⟨#[40]⟩]), .once (.ex .list), .fl (.wd 6 [⟨#[41]⟩])]
  | .list => .ex [.fl (.mt .expr), .again (.row [.wd 6 [⟨#[44]⟩], .mt .expr])]
  | .procedure => .op 5 [.fl (.wd 2 [⟨#[112, 114, 111, 99]⟩]), .fl (.nm), .once (.fn .bracket), .once (.row [.wd 6 [⟨#[58]⟩], .mt .kind]), .fl (.wd 6 [⟨#[59]⟩]), .fl (.mt .block), .fl (.wd 6 [⟨#[59]⟩])]
  | .kind => if t.k == 1 then .op 8 [.fl .nm] else if t.is [97, 114, 114, 97, 121] then .op 9 [.fl (.wd 2 [⟨#[97, 114, 114, 97, 121]⟩]), .fl (.wd 6 [⟨#[91]⟩]), .fl (.mt .expr), .fl (.wd 6 [⟨#[46, 46]⟩]), .fl (.mt .expr), .fl (.wd 6 [⟨#[93]⟩]), .fl (.wd 2 [⟨#[111, 102]⟩]), .fl (.mt .kind)] else if t.is [114, 101, 99, 111, 114, 100] then .op 10 [.fl (.wd 2 [⟨#[114, 101, 99, 111, 114, 100]⟩]), .fl (.mt .member), .again (.row [.wd 6 [⟨#[59]⟩], .mt .member]), .fl (.wd 2 [⟨#[101, 110, 100]⟩])] else .ref
  | .statement => if t.k == 1 then .op 14 [.fl (.mt .object), .once (.row [.wd 6 [⟨#[58, 61]⟩], .mt .expr])] else wordedR t.t
  | .factor => if facN t == 25 then .op 25 [.fl (.wd 6 [⟨#[45]⟩]), .fl (.mt .factor)] else if facN t == 26 then .op 26 [.fl (.wd 2 [⟨#[110, 111, 116]⟩]), .fl (.mt .factor)] else if facN t == 27 then .op 27 [.fl (.wd 6 [⟨#[40]⟩]), .fl (.mt .expr), .fl (.wd 6 [⟨#[41]⟩])] else if facN t == 32 then .op 32 [.fl (.cs)] else if facN t == 28 then .ex [.fl (.mt .object)] else .ref
/-- What a row's call leaves. -/
def Aft (g : Nat) (D : Nat → Prop) (vs vt : Value) (W : World) (n : Int) (K : List It) (E : List Ev) (e : Ending) (w' : World) : Rw → Prop
  | .ref => e = .returned (.int .i64 0) ∧ Below W.heap.size W w'
  | .ex r => e = .returned (.int .i64 1) ∧ Gone g D vs vt W w' n (r ++ K) E
  | .op nd r => e = .returned (.int .i64 1) ∧ Gone g D vs vt W w' (n + 1) (r ++ .lv nd :: K) (E ++ [⟨1, nd, tv0⟩])
/-- The parser within a call, of a size. -/
def Psz (g : Nat) (D : Nat → Prop) (W : World) (n : Int) (K : List It) (E : List Ev) (vs vt : Value) : Prop :=
  Ps g D W n K E vs vt ∧ 0 ≤ n ∧ n ≤ 100000000 ∧ K.length ≤ 10000000 ∧ E.length ≤ 1000000000

end Go.Proofs.YtkglkhijngpgiaaGreat
