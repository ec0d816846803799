import Derived.Test.YtpdlohfdjiaegaaGreatDoorM44
set_option linter.unusedVariables false
set_option linter.unusedSimpArgs false
namespace Go.Proofs.YtpdlohfdjiaegaaGreatDoor
open Go.RowKit
def PAft (g:Nat) (D:Nat→Prop) (vs vt:Value) (W:World) (n:Int) (K:List It) (E:List Ev) (e:Ending) (w':World):Gw→Prop
 |.ref=>e=.returned (.int .i64 0)∧Below W.heap.size W w'
 |.ex r=>e=.returned (.int .i64 1)∧Gone g D vs vt W w' n (r++K) E
 |.op nd r=>e=.returned (.int .i64 1)∧Gone g D vs vt W w' (n+1) (r++.lv nd :: K) (E++[⟨1,nd,tv0⟩])
def Psz (g:Nat) (D:Nat→Prop) (W:World) (n:Int) (K:List It) (E:List Ev) (vs vt:Value):Prop:=
 Ps g D W n K E vs vt∧0≤n∧n≤100000000∧K.length≤10000000∧E.length≤1000000000
end Go.Proofs.YtpdlohfdjiaegaaGreatDoor
