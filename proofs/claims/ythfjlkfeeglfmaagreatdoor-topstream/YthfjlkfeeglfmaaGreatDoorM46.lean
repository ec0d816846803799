import Derived.Test.YthfjlkfeeglfmaaGreatDoorM01
import Derived.Test.YthfjlkfeeglfmaaGreatDoorChecked
import Derived.ChangeOld
import Derived.SevenTiedAt
import Derived.Lib.SmallJoins
set_option linter.all false
namespace Go.Proofs.YthfjlkfeeglfmaaGreatDoor
open Go.ChangeShapes Go.WideShapes Go.ChangeAt Go.RowKit
def Py:(Rows.topStreamRow.inPlace==Tryz.checked.prog.inPlace 3)=true:=by kernel_rfl
def Pw:(Rows.topStreamRow.unfollowed==Tryz.checked.prog.unfollowed 3)=true:=by kernel_rfl
def Pv:(Rows.topStreamRow.recurses==Tryz.checked.prog.recurses 3)=true:=by kernel_rfl
def Pu:(Rows.topStreamRow.named==Tryz.checked.prog.varsNamed 3)=true:=by kernel_rfl
def GK:joinedFacts Tryz.checked.prog 3 Tryz.f3 Rows.topStreamSpec Rows.topStreamRow=true:=by
 unfold joinedFacts;rw[Py,Pw,Pv,Pu]
 kernel_rfl
