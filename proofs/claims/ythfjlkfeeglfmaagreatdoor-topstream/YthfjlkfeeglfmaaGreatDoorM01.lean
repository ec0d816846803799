import Derived.Test.YthfjlkfeeglfmaaGreatDoorRows
import Derived.WalkKit
import Derived.WalkSpells
import Derived.WalkLawsBesides
import Derived.WalkSmall
import Derived.Laws.CopyOwn
import Derived.Deep.RegionLaw
import Derived.Maps.AppendAt
import Derived.Lib.AppendStr
import Derived.Deep.AppendLies
import Derived.ProofKit
import Derived.OpenShut
import Derived.Lay
import Derived.Deep.Strs
import Derived.Stop.Joined
import Derived.MakeChecks
set_option linter.all false
namespace Go.Proofs.YthfjlkfeeglfmaaGreatDoor
open Go.RowKit
abbrev Uk(e:Ending)(v:Value):Prop:=e=.returned v
abbrev Tu(n:Int):Value:=.int .i64 n
abbrev Tw(g o:Nat):Addr:=⟨g,o,none⟩
def ea{α:Sort _}(e:α):∃x,e=x:=⟨e,rfl⟩
variable {w w' W b:World}{B i g front e m:Nat}{xs:List Value}{T:TypeId}{o:Obj}
abbrev ge:=@Nat.le_refl
abbrev gt:=@Go.RowKit.Below.refl
abbrev Eq:=@if_neg
abbrev IO:=@List.length_append
abbrev Or:=@if_pos
abbrev Pi:=@List.getElem?_eq_getElem
abbrev PI:=@Nat.le_trans
abbrev RT:=@Go.World.size_alloc
abbrev RU:=@Nat.zero_le
abbrev RV:=@Go.World.block_lt_of_cell?
abbrev RW:=@List.append_assoc
abbrev RX:=@Go.World.cell?_of_block
abbrev RY:=@List.getElem?_eq_some_iff
abbrev RZ:=@List.mem_cons_self
abbrev R0:=@Go.bodyPost_ret
abbrev R1:=@List.mem_cons_of_mem
abbrev R3:=@Nat.zero_add
abbrev R4:=@Nat.lt_of_lt_of_le
abbrev R5:=@Bool.false_eq_true
abbrev R6:=@List.eq_nil_of_length_eq_zero
abbrev R7:=@List.cons_append
abbrev R8:=@decide_eq_true
abbrev R9:=@decide_eq_false
abbrev Sf:=@Bool.and_eq_true
abbrev Sg:=@List.append_nil
abbrev Sh:=@congrArg
abbrev Sj:=@List.length_drop
abbrev Sk:=@List.length_take
abbrev Sl:=@List.getElem?_drop
abbrev Sm:=@List.mem_cons
abbrev Sn:=@Go.IntKind.wrap_i64
abbrev So:=@decide_eq_true_eq
abbrev Ss:=@List.mem_append
abbrev St:=@Option.some.injEq
abbrev Su:=@beq_eq_false_iff_ne
abbrev Sv:=@List.getElem?_take
abbrev Sw:=@List.prefix_refl
abbrev Sz:=@List.drop_eq_getElem_cons
abbrev SC:=@Bool.or_eq_true
abbrev SE:=@of_decide_eq_true
abbrev SF:=@List.mem_of_getElem?
abbrev SI:=@List.nil_append
abbrev SJ:=@Option.some.inj
abbrev SN:=@List.map_append
abbrev SO:=@List.foldl_cons
abbrev SP:=@List.length_replicate
abbrev SQ:=@Classical.byContradiction
abbrev SR:=@List.length_singleton
abbrev SU:=@Go.World.ownsRow_nil
abbrev SW:=@if_false
abbrev SX:=@Option.map_eq_some_iff
abbrev SY:=@List.drop_append_of_le_length
abbrev SZ:=@decide_eq_decide
abbrev S4:=@List.drop_eq_nil_of_le
abbrev S5:=@List.take_of_length_le
abbrev S8:=@Go.Addr.add_lit
abbrev Ta:=@Go.World.news_of_block
abbrev Tb:=@Array.length_toList
abbrev Tc:=@List.take_append_of_le_length
abbrev Td:=@List.length_map
abbrev Te:=@List.take_length
abbrev Tf:=@Go.info_parts
abbrev Tg:=@Int.toNat_natCast
abbrev Th:=@Go.wpList_append_own_at
abbrev Ti:=@Go.World.cell?_alloc_lt
abbrev Tl:=@Nat.le_of_lt
abbrev Tm:=@List.take_append_drop
abbrev Tn:=@List.getElem?_toArray
abbrev To:=@List.mem_append_right
abbrev Tp:=@List.countP_cons
abbrev Tq:=@List.getElem?_cons_succ
abbrev Tr:=@decide_eq_false_iff_not
abbrev Ts:=@List.reverse_cons
abbrev Tt:=@Array.getElem?_eq_some_iff
abbrev Tx:=@Array.getElem?_eq_getElem
abbrev Ty:=@Bool.eq_iff_iff
abbrev Tz:=@Nat.min_eq_left
abbrev TB:=@Bool.true_and
abbrev TC:=@List.length_reverse
abbrev TD:=@Array.size_modify
abbrev TE:=@List.getElem?_map
abbrev TF:=@List.map_cons
abbrev TH:=@Int.le_refl
abbrev TI:=@List.dropLast_concat
abbrev TJ:=@Array.toList_inj
abbrev TM:=@List.drop_succ_cons
abbrev TO:=@List.length_set
abbrev TQ:=@Go.Proofs.Tryz.zeroValue5
abbrev TR:=@Go.Exit.noGoto_ret
abbrev TS:=@Nat.mod_lt
abbrev TU:=@if_true
abbrev TV:=@List.mem_append_left
abbrev TW:=@Nat.add_assoc
abbrev TX:=@List.append_cancel_left
abbrev TY:=@List.mem_map
abbrev T1:=@List.nodup_append
abbrev T2:=@List.take_add_one
abbrev T3:=@Go.Proofs.Tryz.zeroValue3
abbrev T4:=@Go.Proofs.Tryz.zeroValue9
abbrev T5:=@Ne.symm
abbrev T6:=@List.setIfInBounds_toArray
abbrev T7:=@List.drop_length
abbrev T8:=@beq_iff_eq
abbrev Ua:=@Nat.add_zero
abbrev Ub:=@Bool.beq_eq_decide_eq
abbrev Uc:=@List.mem_singleton
abbrev Ud:=@Go.Exit.noGoto_normal
abbrev Ue:=@Array.getElem_modify_self
abbrev Uf:=@List.getElem?_append_left
abbrev Ug:=@Go.MakeChecks.laidMetH_plain
abbrev Uh:=@Go.heap_alloc_new
abbrev Ui:=@List.tail_cons
abbrev Uj:=@Decidable.byContradiction
abbrev Ul:=@Go.Proofs.Tryz.zeroValue4
abbrev Um:=@List.nodup_cons
abbrev Un:=@List.takeWhile_append_dropWhile
abbrev Uo:=@Nat.lt_or_ge
abbrev Up:=@Go.callsIn_wide
abbrev Uq:=@Go.Proofs.Tryz.sizeOf5
abbrev Us:=@Go.World.frozen?_alloc_old
abbrev Ut:=@Go.World.ownsRow.cells
abbrev Uu:=@List.not_mem_nil
abbrev Uw:=@Go.step_append_lies
abbrev Ux:=@Go.wp_scope_jumps
abbrev Uy:=@of_decide_eq_false
abbrev Uz:=@Option.map_some
abbrev UA:=@Array.getD_eq_getD_getElem?
abbrev UB:=@List.eq_nil_or_concat
abbrev UC:=@Go.Proofs.Tryz.zeroValue0
abbrev UD:=@Go.Proofs.Tryz.sizeOf3
abbrev UE:=@Go.Proofs.Tryz.isAgg5
abbrev UF:=@Go.Proofs.Tryz.sizeOf9
abbrev UG:=@Nat.mul_one
abbrev UJ:=@List.getElem?_append_right
abbrev UK:=@List.getD_eq_getElem?_getD
abbrev UL:=@Array.replicate_succ
abbrev UM:=@Array.replicate_zero
abbrev UN:=@Bool.or_eq_false_iff
abbrev UO:=@Go.DataW.trod_int
abbrev UP:=@List.drop_drop
abbrev UQ:=@List.drop_append
abbrev UR:=@List.mem_flatMap
abbrev US:=@List.flatMap_append
abbrev UT:=@Go.setRow_heap
abbrev UU:=@Go.ByteArray.toList_eq
abbrev UV:=@List.append_toArray
abbrev UW:=@Go.Proofs.Tryz.isAgg3
abbrev UX:=@Go.Proofs.Tryz.isAgg9
abbrev UY:=@Go.leaves_cons
abbrev UZ:=@List.drop_replicate
abbrev U2:=@Go.RowKit.Below.size
abbrev U3:=@Go.Proofs.Tryz.sizeOf4
abbrev U5:=@Go.RowKit.Below.heap_setCell
abbrev U6:=@Go.World.var?_cell
abbrev U8:=@Go.RowKit.Below.setCell
abbrev U9:=@Nat.add_sub_cancel_left
abbrev Va:=@ByteArray.data_extract
abbrev Vb:=@Go.run_convert_int_string
abbrev Vc:=@Go.World.ownsRow.frozenAt
abbrev Vd:=@List.size_toArray
abbrev Ve:=@List.push_toArray
abbrev Vf:=@Go.Proofs.Tryz.isAgg4
abbrev Vg:=@Go.Proofs.Tryz.zeroValue189
abbrev Vh:=@Go.Proofs.Tryz.zeroValue117
abbrev Vj:=@List.take_take
abbrev Vk:=@List.drop_left
abbrev Vl:=@List.nodup_nil
abbrev Vm:=@Go.Sem.run_bind
abbrev Vn:=@Array.getElem?_toList
abbrev Vo:=@Go.results_none
abbrev Vp:=@List.concat_eq_append
abbrev Vq:=@Go.Proofs.Tryz.sizeOf0
abbrev Vt:=@Go.DataW.trod_array
abbrev Vu:=@Option.getD_some
abbrev Vv:=@List.append_inj'
abbrev Vw:=@List.length_tail
abbrev Vx:=@Nat.le_add_right
abbrev Vy:=@List.getElem?_set_ne
abbrev Vz:=@List.mem_of_mem_tail
abbrev VA:=@List.mem_of_mem_take
abbrev VB:=@Go.toList_madeCells_one
abbrev VC:=@List.length_dropLast
abbrev VF:=@Go.RowKit.Below.drew
abbrev VG:=@List.take_succ_cons
abbrev VH:=@List.take_left'
abbrev VI:=@Go.DataW.lit.injEq
abbrev VJ:=@UInt8.toNat_inj
abbrev VK:=@Go.Proofs.Tryz.isAgg0
abbrev VL:=@Go.RowKit.Below.alloc
abbrev VM:=@Go.results_tmp
abbrev VO:=@List.length_pos_iff
abbrev VP:=@Go.run_loadVar_row
abbrev VR:=@Nat.succ_mul
abbrev VS:=@List.map_nil
abbrev VU:=@Go.run_next_any
abbrev VV:=@getElem!_pos
abbrev V2:=@List.map_set
abbrev V5:=@List.prefix_append
abbrev V6:=@Nat.eq_zero_or_pos
abbrev Wa:=@List.countP_append
abbrev Wb:=@Go.Proofs.Tryz.sizeOf189
abbrev Wc:=@Go.Proofs.Tryz.sizeOf117
abbrev Wd:=@Bool.false_and
abbrev We:=@Go.run_storeCells_at
abbrev Wf:=@List.foldl_append
abbrev Wh:=@Go.Proofs.Tryz.zeroValue193
abbrev Wi:=@Go.Proofs.Tryz.zeroValue125
abbrev Wj:=@Go.Proofs.Tryz.zeroValue127
abbrev Wl:=@Go.DataW.agg.inj
abbrev Wn:=@Go.Proofs.Tryz.isAgg189
abbrev Wo:=@Go.Proofs.Tryz.isAgg117
abbrev Wq:=@Go.length_splice
abbrev Wz:=@Nat.mod_eq_of_lt
abbrev WA:=@List.any_eq_true
abbrev WB:=@Go.Proofs.Tryz.zeroValue21
abbrev WC:=@Go.Exit.noGoto_exit
abbrev WD:=@Go.run_next_end
abbrev WF:=@Int.natCast_add
abbrev WG:=@List.sum_append
abbrev WU:=@Prod.mk.inj
abbrev W4:=@or_false
abbrev W6:=@Prod.ext
def mkfn:∀(u:Fn) (first cap:Array Value) (w:World),(Instr.makeFunc u first cap).run Tryz.prog w=.ok (.func u first cap) w:=λ_ _ _ _=>rfl
abbrev Sa:=Calls Tryz.prog
abbrev Se (W V:World):Prop:=Below W.heap.size W V
def aW{p:Prop}(h:p):Hid p:=h
structure Fr (i:Nat) (own own':Nat->Nat) (w w':World):Prop where
 os:w'.os=w.os
 tape:w'.tape=w.tape
 output:w'.output=w.output
 size:w.heap.size<=w'.heap.size
 block:∀k,k<w.heap.size->own k≠i->w'.heap[k]?=w.heap[k]?
 old:∀k,k<w.heap.size->own' k=own k
def Nf (own:Nat->Nat) (w:World):Prop:=∀k,w.heap.size<=k->own k=0
def Fr.refl (i:Nat) (own:Nat->Nat) (w:World):Fr i own own w w:=⟨rfl,rfl,rfl,ge _,λ_ _ _=>rfl,λ_ _=>rfl⟩
def Fr.trans {H I J:Nat->Nat}{a c:World}(h:Fr i H I a b) (k:Fr i I J b c):Fr i H J a c:=
 ⟨k.os.trans h.os,k.tape.trans h.tape,k.output.trans h.output,PI h.size k.size,
 λj u G=>(k.block j (R4 u h.size) (by rw[h.old j u];exact G)).trans (h.block j u G),
 λj u=>(k.old j (R4 u h.size)).trans (h.old j u)⟩
def Fr.of_below {i:Nat}{own:Nat->Nat}{w w':World}(h:Below w.heap.size w w'):Fr i own own w w':=
 ⟨h.os,h.tape,h.output,h.size,λk u _=>h.block k u,λ_ _=>rfl⟩
def Fr.below {own own':Nat->Nat}(h:Fr i own own' w w') (H:B<=w.heap.size) (G:∀k,k<B->own k=0) (I:i≠0):Below B w w':=
 ⟨h.os,h.tape,h.output,h.size,λk u=>h.block k (by omega) (by rw[G k u];omega)⟩
def Fr.cell {i:Nat}{own own':Nat->Nat}{w w':World}(h:Fr i own own' w w') {a:Addr}{v:Value}(hc:w.cell? a=some v) (u:own a.block≠i):w'.cell? a=some v:=
 (RX (h.block a.block (RV w a hc) u)).trans hc
def Nf.below {own:Nat->Nat}(h:Nf own w) (u:w.heap.size<=w'.heap.size):Nf own w':=λk G=>h k (by omega)
def aa {W:World}{g k:Nat}{cs:Array Value}{T:TypeId}{v:Value}(h:W.heap[g]?=some (.cells cs T (0,0))) (u:cs[k]?=some v):W.cell? (Tw g k)=some v:=by simp[World.cell?,h,u]
def aj {W:World}{g k:Nat}{cs:Array Value}{T:TypeId}(h:W.heap[g]?=some (.cells cs T (0,0))):W.frozen? (Tw g k)=false:=by simp[World.frozen?,h]
def ag {cs:Array Value}(h:W.heap[g]?=some (.cells cs T (0,0))) (k:Nat) (v:Value):(W.setCell ⟨g,k,none⟩ v).heap[g]?=some (.cells (cs.setIfInBounds k v) T (0,0)):=by
 obtain⟨u,G⟩:=Tt.1 h;show(W.heap.modify g _)[g]?=_;rw[Tx (by rw[TD];exact u),Ue,G];rfl
def az {W:World}{g b k:Nat}{o:Obj}(h:W.heap[g]?=some o) (u:g≠b) (v:Value):(W.setCell ⟨b,k,none⟩ v).heap[g]?=some o:=
 (U5 W (Tw b k) v g u).trans h
def ai (h:W.heap[g]?=some o):g<W.heap.size:=(Tt.1 h).1
def af {W W':World}{g:Nat}{o:Obj}(h:W.heap[g]?=some o) (u:Below W.heap.size W W'):W'.heap[g]?=some o:=(u.block g (ai h)).trans h
def Fr.set {i:Nat}{own own':Nat->Nat}{w W:World}(h:Fr i own own' w W) {g:Nat}(I:own' g=i) (k:Nat) (v:Value) (H:∀j,j<w.heap.size->own j≠i->j≠g):Fr i own own' w (W.setCell ⟨g,k,none⟩ v):=
 ⟨h.os,h.tape,h.output,by show _<=(W.heap.modify g _).size;rw[TD];exact h.size,
 λj G u=>(U5 W (Tw g k) v j (H j G u)).trans (h.block j G u),h.old⟩
def Fr.set' {own:Nat->Nat}(h:Fr i own own w W) {g:Nat}(u:own g=i) (k:Nat) (v:Value):Fr i own own w (W.setCell ⟨g,k,none⟩ v):=
 h.set u k v (λj _ G e=>G (by rw[e];exact u))
section
variable {β:Type} (enc:β->List Value) (sz:Nat)
def ap (zs:List β):List Value:=zs.flatMap enc
def ei (x:β) (u:List β):ap enc (x :: u)=enc x++ap enc u:=rfl
def aT (xs u:List β):ap enc (xs++u)=ap enc xs++ap enc u:=by unfold ap;exact US
variable (hsz:∀x,(enc x).length=sz)
include hsz
def bD (u:List β):(ap enc u).length=u.length*sz:=by
 induction u with
 |nil=>simp[ap]
 |cons x r ih=>rw[ei,IO,ih,hsz,List.length_cons,VR];omega
def cu:∀(k:Nat) (u:List β),(ap enc u).drop (k*sz)=ap enc (u.drop k)
 |0,u=>by simp
 |k+1,[]=>by simp[ap]
 |k+1,x :: r=>by
  rw[ei,UQ,hsz,TM,<-cu k r,S4 (by rw[hsz,VR];omega),SI]
  congr 1;rw[VR];omega
def fx:∀(k:Nat) (u:List β),(ap enc u).take (k*sz)=ap enc (u.take k)
 |0,u=>by simp[ap]
 |k+1,[]=>by simp[ap]
 |k+1,x :: r=>by
  rw[ei,List.take_append,hsz,VG,ei,<-fx k r,S5 (by rw[hsz,VR];omega)]
  congr 2;rw[VR];omega
def aP (u:List β) (k j:Nat) (x:β) (v:Value) (J:u[k]?=some x) (G:(enc x)[j]?=some v):(ap enc u)[k*sz+j]?=some v:=by
 have H:(ap enc u)[k*sz+j]?=((ap enc u).drop (k*sz))[j]?:=by rw[Sl]
 rw[H,cu enc sz hsz];obtain⟨hl,I⟩:=RY.1 J;rw[Sz hl,I,ei];rw[Uf (RY.1 G).1];exact G
omit hsz in
def gP {α:Type}(Z A B:List α) (k:Nat) (u:A.length=k) (h:A.length+B.length<=Z.length):splice (splice Z 0 A) k B=A++(B++Z.drop (k+B.length)):=by
 subst u;unfold splice;rw[List.take_zero,SI,R3];rw[VH,UQ]
 ·simp_all
 ·rfl
end
def dW {β:Type}(zs:List β) (front:Nat) (l:List β):Prop:=l.length<=zs.length/\∀i,i<l.length->l[i]?=zs[(front+i) % zs.length]?
def dW.widen {β:Type}{u l Z:List β}{front:Nat}(h:dW u front l) (J:front<=u.length) (H:l.length=u.length):dW (u.drop front++u.take front++Z) 0 l:=by
 have G:(u.drop front++u.take front).length=u.length:=by simp;omega
 refine⟨by rw[IO,G];omega,λi I=>?_⟩;rw[h.2 i I,R3,Wz (a:=i) (by rw[IO,G];omega),Uf (l₁:=u.drop front++u.take front) (by omega)]
 by_cases hc:front+i<u.length
 ·rw[Wz hc,Uf (by simp;omega),Sl]
 ·rw[UJ (by simp;omega),Sv,Or (by simp;omega)]
  congr 1
  rw[Nat.mod_eq_sub_mod (by omega),Wz (by omega)];simp;omega
def yy {f n j:Nat}(O:i<n) (Q:j<n) (h:i≠j):(f+i) % n≠(f+j) % n:=by
 intro e;have S:0<n:=by omega
 have I:=Nat.div_add_mod (f+i) n;have M:=Nat.div_add_mod (f+j) n;rw[e]at I;have J:n*((f+i) / n)+j=n*((f+j) / n)+i:=by omega
 rcases Nat.lt_trichotomy ((f+i) / n) ((f+j) / n)with H|u|G
 ·have:=Nat.mul_le_mul_left n H;rw[Nat.mul_succ]at this;omega
 ·rw[u]at J;omega
 ·have:=Nat.mul_le_mul_left n G;rw[Nat.mul_succ]at this;omega
def dW.push {β:Type}{u l:List β}(x:β) (h:dW u front l) (H:l.length<u.length):dW (u.set ((front+l.length) % u.length) x) front (l++[x]):=by
 have I:(front+l.length) % u.length<u.length:=TS _ (by omega);refine⟨by simp;omega,λi G=>?_⟩;simp at G;rw[TO]
 by_cases hc:i<l.length
 ·rw[Uf hc,Vy (yy (by omega) (by omega) (by omega)),h.2 i hc]
 ·grind
def dW.popBack {β:Type}{u l:List β}(z:β) (h:dW u front l) (H:0<l.length):dW (u.set ((front+(l.length-1)) % u.length) z) front l.dropLast:=by
 have hl:=h.1;refine⟨by simp;omega,λj G=>?_⟩;simp at G;rw[TO,Vy (yy (by omega) (by omega) (by omega)),<-h.2 j (by omega),List.getElem?_dropLast,Or (by omega)]
def dW.popFront {β:Type}{u l:List β}(z:β) (h:dW u front l) (H:0<l.length):dW (u.set ((front+0) % u.length) z) ((front+1) % u.length) l.tail:=by
 have hl:=h.1;refine⟨by simp;omega,λj G=>?_⟩;simp at G;rw[TO,Nat.mod_add_mod,List.getElem?_tail,TW,Nat.add_comm 1 j,Vy (yy (by omega) (by omega) (by omega))];exact h.2 (j+1) (by omega)
def cJ {P:Program}(w:World) (dT sT ty G:TypeId) (sz g o u I:Nat) (a:Addr) (H O:Nat) (cur:Array Value) (t:TypeId) (cs:List Value)
  (hu:P.underlying dT=some (.slice G)) (Y:(P.info? G).map (·.size)=some sz)
  (hg:w.heap[g]?=some (.cells cur t (0,0))) (hn:cs.length=Nat.min H u*sz)
  (M:∀j v,cs[j]?=some v->w.cell? (a.add j)=some v) (J:o+cs.length<=cur.size) (Z:∀v∈cs,v.oneCell'=true) :
  (Builtin.copy_ #[dT,sT] ty #[.slice (some (Tw g o)) u I,.slice (some a) H O]).run P w =
   .ok (goInt (Nat.min H u)) (w.setRow g (cur.toList.take o++cs++cur.toList.drop (o+cs.length)).toArray):=by
 have hl:=run_loadCells_list (P:=P) w a cs M;have S:=We P g o t cs 0 cur w hg (by simpa using J) Z;cases Q:P.info? G with
 |none=>simp[Q]at Y
 |some i=>
  have hi:i.size=sz:=by simpa[Q]using Y
  simp[Builtin.copy_,run_underlying hu,Builtin.lenOf,Builtin.firstCells,sizeOf,typeInfo,Q,hi,<-hn,hl,S]
def jB {P:Program}(w:World) (dT Y Z u:TypeId) (sz:Nat) (d a:Option Addr) (G I H J:Nat) (S:P.underlying dT=some (.slice u)) (Q:(P.info? u).map (·.size)=some sz) (O:Nat.min H G=0) :
  (Builtin.copy_ #[dT,Y] Z #[.slice d G I,.slice a H J]).run P w=.ok (goInt 0) w:=by
 cases M:P.info? u with
 |none=>simp[M]at Q
 |some i=>
  have hl:∀(x:Addr),(loadCells x 0).run P w=.ok #[] w:=λx=>by simpa using run_loadCells_list (P:=P) w x [] (by simp)
  cases d<;>cases a<;>simp[Builtin.copy_,run_underlying S,Builtin.lenOf,Builtin.firstCells,sizeOf,typeInfo,M,O,storeCells,hl]
def aJ {P:Program}{S:Array Oper}{o:Oper}{a:Act}{K:Act->World->Prop}{Q:Exit->Act->World->Prop}{E:Prop}(ac:o.guard=none) (d s:Operand) (dT sT:TypeId)
  (ho:o.op=.call { callee:=.builtin .copy,args:=#[d,s],argTypes:=#[dT,sT] }) (G:TypeId) (sz:Nat) (hu:P.underlying dT=some (.slice G)) (hsz:(P.info? G).map (·.size)=some sz)
  (dp sp:Option Addr) (u J I M:Nat) (hd:a.eval d=.slice dp u J) (hs:a.eval s=.slice sp I M)
  (g O:Nat) (cur:List Value) (t:TypeId) (hg:w.heap[g]?=some (.cells cur.toArray t (0,0))) (cs:List Value) (m:Nat) (hm:m=Nat.min I u) (hn:cs.length=m*sz)
  (Z:0<m->dp=some (Tw g O)/\∃ad,sp=some ad/\∀j v,cs[j]?=some v->w.cell? (ad.add j)=some v)
  (Y:O+cs.length<=cur.length) (h1:∀v∈cs,v.oneCell'=true) (B:Nat) (w0:World) (hb:RowKit.Below B w0 w) (ab:B<=g)
  (h:∀w',RowKit.Hid (w'.heap[g]?=some (.cells (splice cur O cs).toArray t (0,0)))->RowKit.Below B w0 w'->K (a.put o.dst (goInt m)) w') :
  if Region.wanted o (yielded S a.tmps)=true then Oper.wp P o a w K Q else E:=by
 have hw:Region.wanted o (yielded S a.tmps)=true:=by simp[Region.wanted,ac]
 rw[Or hw]
 by_cases h0:m=0
 ·subst h0;obtain rfl:cs=[]:=R6 (by simpa using hn);have H:=jB (P:=P) w dT sT o.type G sz dp sp u J I M hu hsz hm.symm;unfold Oper.wp;simp[execOp,ho,resolve,invoke,builtin,hd,hs,H,Result.andThen];exact h w (show _=_ by simpa[splice]using hg) hb
 ·obtain⟨rfl,ad,rfl,aa⟩:=Z (by omega);have H:=cJ (P:=P) w dT sT o.type G sz g O u J ad I M cur.toArray t cs hu hsz hg (by rw[hn,hm]) aa (by simpa using Y) h1;rw[<-hm]at H;unfold Oper.wp;simp[execOp,ho,resolve,invoke,builtin,hd,hs,H,Result.andThen];exact h _ (show _=_ by simpa[splice]using UT w g _ _ t _ hg) (below_setRow hb ab _)
open Go.Lib (strCells strCells_length)
def bc (l:List UInt8):List Value:=l.map λb=>Value.int .u8 b.toNat
def Oy (l:List UInt8):(bc l).length=l.length:=by simp[bc]
def Ip (a b:List UInt8):bc (a++b)=bc a++bc b:=by simp[bc]
def Ox (l:List UInt8):∀u∈bc l,u.oneCell'=true:=by
 intro u G;simp only[bc,TY]at G;obtain⟨x,_,rfl⟩:=G;rfl
def LO (l:List UInt8) (k:Nat):(bc l).drop k=bc (l.drop k):=by simp[bc]
def LM (l:List UInt8) (k:Nat):(bc l).take k=bc (l.take k):=by simp[bc]
def ik {P:Program}(w:World) (base:Nat) (t u Z e:TypeId) (i:TypeInfo) (ht:P.underlying t=some (.slice e)) (hu:P.underlying u=some .string) (hi:P.info? e=some i) (hz:i.zero=some (.int .u8 0))
  (G:i.size=1) (O:i.bytes=1) (v:Value) (n:Nat) (xs:List Value) (H:w.ownsRow base e 1 v n xs) (s:ByteArray)
  (ab:n+s.size<=maxLen) (J:n+s.size<=140737488355328) (Q:base<=w.heap.size) :
  ∃v' w',(Builtin.append_ #[t,u] Z #[v,.string s]).run P w=.ok v' w'/\w'.ownsRow base e 1 v' (n+s.size) (xs++strCells s)/\w.grownBy w' v.ownBlock/\(v'.ownBlock=v.ownBlock\/v'.ownBlock=some w.heap.size):=by
 obtain⟨v',w',M,h1,h2,h3⟩:=Lib.run_append_own_string (P:=P) w base t u Z e i ht hu hi hz G O v n xs H s ab J Q;refine⟨v',w',M,h1,h2,?_⟩;have ac:n+s.size<=9223372036854775807:=by simp only[maxLen]at ab;omega
 have ae:xs.length=n:=by simpa using H.1
 rcases H.2 with⟨rfl,rfl⟩|⟨g,cap,aa,rfl,ah,hg,aj,ai,ad,af⟩
 ·by_cases hm:s.size=0
  ·left;rw[h3.2 ⟨rfl,hm⟩]
  ·have I:=run_append_nil_string (P:=P) w t u Z e i (.int .u8 0) ht hu hi hz s (by omega) (by omega) (by rw[O];omega);rw[I]at M;injection M with e1 e2
   right;rw[<-e1];rfl
 ·by_cases Y:n+s.size<=cap
  ·have ag:aa.size=cap:=by simpa using ad
   have I:=Lib.run_append_room_string (P:=P) w t u Z e i ht hu hi G g n cap aa hg s Y (by omega);rw[I]at M;injection M with e1 e2
   left;rw[<-e1];rfl
  ·have S:∀j u,xs[j]?=some u->w.cell? (((Tw g 0):Addr).add j)=some u:=H.cells (g:=g) rfl;have I:=Lib.run_append_grow_string (P:=P) w t u Z e i (.int .u8 0) ht hu hi hz (Tw g 0) n cap xs (by rw[G];simpa using ae) S s (by omega) (by omega) (by rw[O];exact growslice_fits (by omega) (by omega));rw[I]at M;injection M with e1 e2
   right;rw[<-e1];rfl
def dy {P:Program}{w:World}{J:Array Oper}{rest:List Oper}{o:Oper}{a:Act}{Q:Exit->Act->World->Prop}(Y:o.guard=none) (Z x:Operand) (t u:TypeId)
  (ho:o.op=.call { callee:=.builtin .append,args:=#[Z,x],argTypes:=#[t,u] })
  (base:Nat) (e:TypeId) (i:TypeInfo) (ht:P.underlying t=some (.slice e)) (hu:P.underlying u=some .string) (hi:P.info? e=some i) (hz:i.zero=some (.int .u8 0))
  (I:i.size=1) (S:i.bytes=1)
  (v:Value) (n:Nat) (xs:List Value) (hs:a.eval Z=v) (M:w.ownsRow base e 1 v n xs) (s:ByteArray) (hx:a.eval x=.string s)
  (O:n+s.size<=maxLen) (G:n+s.size<=140737488355328) (H:base<=w.heap.size)
  (h:∀v' w',w'.ownsRow base e 1 v' (n+s.size) (xs++strCells s)->w.grownBy w' v.ownBlock->(v'.ownBlock=v.ownBlock\/v'.ownBlock=some w.heap.size)->wpList P J Q rest (a.put o.dst v') w'):wpList P J Q (o :: rest) a w:=by
 refine wpList_plain Y λK hK=>?_
 obtain⟨v',w',hr,h2,h3,h4⟩:=ik (P:=P) w base t u o.type e i ht hu hi hz I S v n xs M s O G H;unfold Oper.wp execOp;simp only[ho,resolve,invoke,builtin,Vm,Sem.run_pure,Result.andThen_ok,List.map_toArray,TF,VS,hs,hx,hr];exact hK _ _ (h v' w' h2 h3 h4)
structure Kp (S:Nat->Prop) (w w':World):Prop where
 os:w'.os=w.os
 tape:w'.tape=w.tape
 output:w'.output=w.output
 size:w.heap.size<=w'.heap.size
 block:∀k,k<w.heap.size->¬S k->w'.heap[k]?=w.heap[k]?
def Kp.refl (S:Nat->Prop) (w:World):Kp S w w:=⟨rfl,rfl,rfl,ge _,λ_ _ _=>rfl⟩
def Kp.trans {S:Nat->Prop}{a c:World}(h:Kp S a b) (k:Kp S b c):Kp S a c:=
 ⟨k.os.trans h.os,k.tape.trans h.tape,k.output.trans h.output,PI h.size k.size,λj G u=>(k.block j (R4 G h.size) u).trans (h.block j G u)⟩
def Kp.step {S T:Nat->Prop}{a b c:World}(h:Kp S a b) (k:Kp T b c) (H:∀j,j<a.heap.size->T j->S j):Kp S a c:=
 ⟨k.os.trans h.os,k.tape.trans h.tape,k.output.trans h.output,PI h.size k.size,λj u G=>(k.block j (R4 u h.size) (λht=>G (H j u ht))).trans (h.block j u G)⟩
def Kp.of_below {S:Nat->Prop}{w w':World}(h:Below w.heap.size w w'):Kp S w w':=⟨h.os,h.tape,h.output,h.size,λk u _=>h.block k u⟩
def Kp.of_grown {row:Option Nat}(h:w.grownBy w' row):Kp (λk=>some k=row) w w':=⟨h.os,h.tape,h.output,h.size,λk G u=>h.block k G u⟩
def Kp.set (w:World) (g k:Nat) (v:Value):Kp (λj=>j=g) w (w.setCell ⟨g,k,none⟩ v):=
 ⟨rfl,rfl,rfl,by show _<=(w.heap.modify g _).size;rw[TD];exact ge _,λj G u=>U5 w (Tw g k) v j u⟩
def Kp.alloc {S:Nat->Prop}{a b:World}(h:Kp S a b) (o:Obj):Kp S a (b.alloc o):=h.step (T:=S) (Kp.of_below ((gt _ _).alloc (ge _) _)) (λ_ _ h=>h)
def Kp.same {S:Nat->Prop}{w W W':World}(h:Kp S w W) (u:W'.heap=W.heap) (G:W'.os=W.os) (H:W'.tape=W.tape) (I:W'.output=W.output):Kp S w W':=
 ⟨G.trans h.os,H.trans h.tape,I.trans h.output,by rw[u];exact h.size,by rw[u];exact h.block⟩
def Kp.fr {S:Nat->Prop}{own own':Nat->Nat}(h:Kp S w w') (G:∀k,k<w.heap.size->S k->own k=i) (I:∀k,k<w.heap.size->own' k=own k):Fr i own own' w w':=
 ⟨h.os,h.tape,h.output,h.size,λk u H=>h.block k u (λJ=>H (G k u J)),I⟩
def Kp.blk {S:Nat->Prop}{w w':World}(h:Kp S w w') {g:Nat}{o:Obj}(u:w.heap[g]?=some o) (G:¬S g):w'.heap[g]?=some o:=(h.block g (ai u) G).trans u
def Kp.row {S:Nat->Prop}(h:Kp S w w') {e sz n:Nat}{v:Value}{xs:List Value}(G:w.ownsRow 0 e sz v n xs) (O:∀k,v.ownBlock=some k->¬S k):w'.ownsRow 0 e sz v n xs:=by
 refine⟨G.1,?_⟩
 rcases G.2 with H|⟨g,cap,u,rfl,I,J,M⟩
 ·exact .inl H
 ·exact .inr ⟨g,cap,u,rfl,I,h.blk J (O g rfl),M⟩
def aF {sz n:Nat}{v:Value}{cs:Array Value}{f:Nat × Nat}(I:w.ownsRow 0 e sz v n xs) (H:w.heap[g]?=some (.cells cs T f)) (G:T≠e):v.ownBlock≠some g:=by
 intro h
 rcases I.2 with⟨rfl,_⟩|⟨b,cap,J,rfl,_,u,_⟩
 ·cases h
 ·simp only[Value.ownBlock,St]at h;subst h;rw[H]at u;injection u with h4
  injection h4 with _ h5
  exact G h5
def aG {sz n:Nat}{v:Value}(H:w.ownsRow 0 e sz v n xs):∃p cap,v=.slice p n cap/\n<=cap/\cap<=maxLen:=by
 rcases H.2 with⟨rfl,rfl⟩|⟨b,cap,I,rfl,_,J,u,G,_⟩
 ·exact⟨none,0,rfl,ge _,RU _⟩
 ·exact⟨_,cap,rfl,u,G⟩
def aU {sz n:Nat}{v:Value}(G:w.ownsRow 0 e sz v n xs) (u:Below w.heap.size w w'):w'.ownsRow 0 e sz v n xs:=
 (Kp.of_below (S:=λ_=>False) u).row G (λ_ _ h=>h)
def cF:Nat->List (Nat × Nat)->List UInt8->List UInt8
 |f,[],t=>t.drop f
 |f,(a,n) :: r,t=>(t.drop f).take (a-f)++(List.replicate n 32++cF a r t)
def oc:Nat->List (Nat × Nat)->Nat->Prop
 |f,[],m=>f<=m
 |f,(a,_) :: r,m=>f<=a/\oc a r m
def cC:List (Nat × Nat)->Nat
 |[]=>0
 | (_,n) :: r=>n+cC r
def oc.le {f:Nat}{gs:List (Nat × Nat)}(h:oc f gs m):f<=m:=by
 induction gs generalizing f with
 |nil=>exact h
 |cons x r ih=>obtain⟨a,n⟩:=x;exact PI h.1 (ih h.2)
def oc.more {f:Nat}{gs:List (Nat × Nat)}{m':Nat}(h:oc f gs m) (u:m<=m'):oc f gs m':=by
 induction gs generalizing f with
 |nil=>exact PI h u
 |cons x r ih=>obtain⟨a,n⟩:=x;exact⟨h.1,ih h.2⟩
def oc.snoc {f:Nat}{gs:List (Nat × Nat)}{m:Nat}(n:Nat) (h:oc f gs m):oc f (gs++[(m,n)]) m:=by
 induction gs generalizing f with
 |nil=>exact⟨h,ge _⟩
 |cons x r ih=>obtain⟨a,n⟩:=x;exact⟨h.1,ih h.2⟩
def qx {f:Nat}{gs:List (Nat × Nat)}{t:List UInt8}(s:List UInt8) (h:oc f gs t.length):cF f gs (t++s)=cF f gs t++s:=by
 induction gs generalizing f with
 |nil=>simp only[cF];exact SY h
 |cons x r ih=>
  obtain⟨a,n⟩:=x;have u:=h.2.le;simp only[cF];rw[ih h.2,SY (PI h.1 u),Tc (by rw[Sj];have:=h.1;omega)];simp[RW]
def BO {f:Nat}{gs:List (Nat × Nat)}{t:List UInt8}(n:Nat) (h:oc f gs t.length):cF f (gs++[(t.length,n)]) t=cF f gs t++List.replicate n 32:=by
 induction gs generalizing f with
 |nil=>simp only[cF,SI];rw[S5 (by simp),T7];simp
 |cons x r ih=>
  obtain⟨a,k⟩:=x;simp only[cF,R7];rw[ih h.2];simp[RW]
def lr {f:Nat}{gs:List (Nat × Nat)}{t:List UInt8}(h:oc f gs t.length):(cF f gs t).length=t.length-f+cC gs:=by
 induction gs generalizing f with
 |nil=>simp[cF,cC]
 |cons x r ih=>
  obtain⟨a,k⟩:=x;have G:=h.2.le;have u:=h.1;simp only[cF,cC,IO,SP,Sk,Sj,ih h.2];omega
def Er (a:List (Nat × Nat)) (x n:Nat):cC (a++[(x,n)])=cC a+n:=by
 induction a with
 |nil=>simp[cC]
 |cons y r ih=>obtain⟨b,k⟩:=y;simp only[R7,cC,ih];omega
structure Tv where
 k:Int
 t:ByteArray
 a:Int
 l:Int
 c:Int
 f:Int
deriving DecidableEq
def Tv.v (d:Tv):Value:=.agg #[.int .u8 d.k,.string d.t,Tu d.a,Tu d.l,Tu d.c,Tu d.f]
def Tv.cs (d:Tv):List Value:=[.int .u8 d.k,.string d.t,Tu d.a,Tu d.l,Tu d.c,Tu d.f]
def Tv.cs_len (d:Tv):d.cs.length=6:=rfl
def Tv.cs_one (d:Tv):∀u∈d.cs,u.oneCell'=true:=by
 intro u G;simp only[Tv.cs,Sm,Uu,W4]at G
 rcases G with rfl|rfl|rfl|rfl|rfl|rfl<;>rfl
def IQ (l:List Tv):List Value:=ap Tv.cs l
def Js (l:List Tv):(IQ l).length=l.length*6:=bD Tv.cs 6 Tv.cs_len l
def Jr (l:List Tv):∀u∈IQ l,u.oneCell'=true:=by
 intro u G;obtain⟨d,_,h⟩:=UR.1 G;exact d.cs_one u h
def Jt (a b:List Tv):IQ (a++b)=IQ a++IQ b:=aT Tv.cs a b
def Lt (w:World) (ao:Option Addr) (l:List Tv):Prop:=∀j d,l[j]?=some d->∃b off,ao=some ⟨b,off,none⟩ /\
 w.cell? ⟨b,off+j*6,none⟩=some (.int .u8 d.k)/\w.cell? ⟨b,off+j*6+1,none⟩=some (.string d.t)/\w.cell? ⟨b,off+j*6+2,none⟩=some (Tu d.a)/\w.cell? ⟨b,off+j*6+3,none⟩=some (Tu d.l)/\w.cell? ⟨b,off+j*6+4,none⟩=some (Tu d.c)/\w.cell? ⟨b,off+j*6+5,none⟩=some (Tu d.f)
def Lt.kp {S:Nat->Prop}{w w':World}{ao:Option Addr}{l:List Tv}(h:Lt w ao l) (M:Kp S w w') (I:∀a,ao=some a->¬S a.block):Lt w' ao l:=by
 intro j a J;obtain⟨b,G,H,c0,c1,c2,c3,c4,c5⟩:=h j a J;have u:=RV _ _ c0;have e:w'.heap[b]?=w.heap[b]?:=M.block b u (I _ H);exact⟨b,G,H,(RX (a:=(Tw b _)) e).trans c0,(RX (a:=(Tw b _)) e).trans c1,(RX (a:=(Tw b _)) e).trans c2,(RX (a:=(Tw b _)) e).trans c3,(RX (a:=(Tw b _)) e).trans c4,(RX (a:=(Tw b _)) e).trans c5⟩
def Lt.below {ao:Option Addr}{l:List Tv}(h:Lt w ao l) (u:Below w.heap.size w w'):Lt w' ao l:=h.kp (Kp.of_below (S:=λ_=>False) u) (λ_ _ h=>h)
def Rt (B:Nat) (w:World) (v:Value) (l:List Tv):Prop:=w.ownsRow B 49 6 v l.length (IQ l)
def M9 (B:Nat) (w:World):Rt B w (.slice none 0 0) []:=SU w B 49 6
def Rt.shape {v:Value}{l:List Tv}(h:Rt B w v l):∃p cap,v=.slice p l.length cap/\l.length<=cap/\cap<=maxLen:=by
 rcases h.2 with⟨rfl,u⟩|⟨b,cap,I,rfl,_,J,G,H,_⟩
 ·exact⟨none,0,by rw[u],by omega,RU _⟩
 ·exact⟨_,cap,rfl,G,H⟩
def Rt.own {v:Value}{l:List Tv}(h:Rt B w v l):∀k,v.ownBlock=some k->B<=k:=by
 intro k u
 rcases h.2 with⟨rfl,H⟩|⟨b,cap,G,rfl,I,_⟩
 ·cases u
 ·simp only[Value.ownBlock,St]at u;omega
def Rt.below {v:Value}{l:List Tv}(h:Rt B w v l) (M:Below w.heap.size w w'):Rt B w' v l:=by
 refine⟨h.1,?_⟩
 rcases h.2 with G|⟨g,cap,u,rfl,H,I,J⟩
 ·exact .inl G
 ·exact .inr ⟨g,cap,u,rfl,H,af I M,J⟩
def Rt.kp {B:Nat}{S:Nat->Prop}{w w':World}{v:Value}{l:List Tv}(h:Rt B w v l) (O:Kp S w w') (M:∀k,v.ownBlock=some k->¬S k):Rt B w' v l:=by
 refine⟨h.1,?_⟩
 rcases h.2 with G|⟨g,cap,u,rfl,H,I,J⟩
 ·exact .inl G
 ·exact .inr ⟨g,cap,u,rfl,H,O.blk I (M g rfl),J⟩
def Rt.ne {v:Value}{l:List Tv}(h:Rt B w v l) {g:Nat}{cs:Array Value}{T:TypeId}{f:Nat × Nat}(I:w.heap[g]?=some (.cells cs T f)) (H:T≠49):∀k,v.ownBlock=some k->k≠g:=by
 intro k u e
 rcases h.2 with⟨rfl,M⟩|⟨b,cap,J,rfl,O,G,_⟩
 ·cases u
 ·simp only[Value.ownBlock,St]at u;subst u;subst e;rw[I]at G;cases G;exact H rfl
def Lt.row {v:Value}{l:List Tv}(h:Rt B w v l):∃ao cap,v=.slice ao l.length cap/\Lt w ao l/\(ao=none\/∃g,ao=some (Tw g 0)/\B<=g/\g<w.heap.size)/\l.length<=cap/\cap<=maxLen:=by
 rcases h.2 with⟨rfl,H⟩|⟨g,cap,S,rfl,M,O,I,J,Y,Z⟩
 ·have:l=[]:=R6 H;subst this;exact⟨none,0,rfl,λj d h=>by simp at h,.inl rfl,RU _,RU _⟩
 ·refine⟨some (Tw g 0),cap,rfl,?_,.inr ⟨g,rfl,M,ai O⟩,I,J⟩;intro j d G
  have hc:∀(k:Nat) (u:Value),(IQ l)[k]?=some u->w.cell? (Tw g k)=some u:=λk u Q=>by
   have:=h.cells (g:=g) rfl k u Q;rw[S8,R3]at this;exact this
  refine⟨g,0,rfl,?_,?_,?_,?_,?_,?_⟩
  ·rw[R3];exact hc _ _ (aP Tv.cs 6 Tv.cs_len l j 0 d _ G rfl)
  ·rw[R3];exact hc _ _ (aP Tv.cs 6 Tv.cs_len l j 1 d _ G rfl)
  ·rw[R3];exact hc _ _ (aP Tv.cs 6 Tv.cs_len l j 2 d _ G rfl)
  ·rw[R3];exact hc _ _ (aP Tv.cs 6 Tv.cs_len l j 3 d _ G rfl)
  ·rw[R3];exact hc _ _ (aP Tv.cs 6 Tv.cs_len l j 4 d _ G rfl)
  ·rw[R3];exact hc _ _ (aP Tv.cs 6 Tv.cs_len l j 5 d _ G rfl)
def Tryz.info49:(Tryz.prog.info? 49).map (λi=>(i.zero,i.size,i.bytes))=some (some (.agg #[.int .u8 0,.string ⟨#[]⟩,Tu 0,Tu 0,Tu 0,Tu 0]),6,56):=by kernel_rfl
def ak (w:World) (o:Obj):(w.alloc o).heap[w.heap.size]?=some o:=by show(w.heap.push o)[w.heap.size]?=_;simp
def aI (h:W.heap[g]?=some o) (o':Obj):(W.alloc o').heap[g]?=some o:=af h ((gt _ _).alloc (ge _) _)
def Kp.sub {S T:Nat->Prop}{w w':World}(h:Kp T w w') (H:∀k,T k->S k):Kp S w w':=⟨h.os,h.tape,h.output,h.size,λk G u=>h.block k G (λht=>u (H k ht))⟩
structure Ev where
 k:Int
 n:Int
 d:Tv
deriving DecidableEq
def Ev.v (e:Ev):Value:=.agg #[.int .u8 e.k,.int .u8 e.n,.int .u8 e.d.k,.string e.d.t,Tu e.d.a,Tu e.d.l,Tu e.d.c,Tu e.d.f]
def Ev.cs (e:Ev):List Value:=[.int .u8 e.k,.int .u8 e.n,.int .u8 e.d.k,.string e.d.t,Tu e.d.a,Tu e.d.l,Tu e.d.c,Tu e.d.f]
def Ev.cs_len (e:Ev):e.cs.length=8:=rfl
def Ev.cs_one (e:Ev):∀u∈e.cs,u.oneCell'=true:=by
 intro u G;simp only[Ev.cs,Sm,Uu,W4]at G
 rcases G with rfl|rfl|rfl|rfl|rfl|rfl|rfl|rfl<;>rfl
def xC (l:List Ev):List Value:=ap Ev.cs l
def tE (l:List Ev):(xC l).length=l.length*8:=bD Ev.cs 8 Ev.cs_len l
def tD (l:List Ev):∀u∈xC l,u.oneCell'=true:=by
 intro u G;obtain⟨d,_,h⟩:=UR.1 G;exact d.cs_one u h
def tF (a b:List Ev):xC (a++b)=xC a++xC b:=aT Ev.cs a b
def av:Tv:=⟨0,⟨#[]⟩,0,0,0,0⟩
def Nb (W:World) (v v':Value):Prop:=v'.ownBlock=v.ownBlock\/∃k,v'.ownBlock=some k/\W.heap.size<=k
def Re (W:World) (v:Value) (l:List Ev):Prop:=W.ownsRow 0 104 8 v l.length (xC l)
def yc (W:World):Re W (.slice none 0 0) []:=SU W 0 104 8
def Re.kp {S:Nat->Prop}{W W':World}{v:Value}{l:List Ev}(h:Re W v l) (G:Kp S W W') (u:∀k,v.ownBlock=some k->¬S k):Re W' v l:=G.row h u
def Re.below {W':World}{v:Value}{l:List Ev}(h:Re W v l) (u:Below W.heap.size W W'):Re W' v l:=aU h u
def Re.shape {v:Value}{l:List Ev}(h:Re W v l):∃p cap,v=.slice p l.length cap/\l.length<=cap/\cap<=maxLen:=aG h
def Re.ne {v:Value}{l:List Ev}(h:Re W v l) {g:Nat}{cs:Array Value}{T:TypeId}{f:Nat × Nat}(G:W.heap[g]?=some (.cells cs T f)) (u:T≠104):∀k,v.ownBlock=some k->k≠g:=λk H e=>aF h G u (by rw[H,e])
def Tryz.info104:(Tryz.prog.info? 104).map (λi=>(i.zero,i.size,i.bytes))=some (some (.agg #[.int .u8 0,.int .u8 0,.int .u8 0,.string ⟨#[]⟩,Tu 0,Tu 0,Tu 0,Tu 0]),8,64):=by kernel_rfl
def Iy {H:Array Oper}{rest:List Oper}{o:Oper}{a:Act}{Q:Exit->Act->World->Prop}(I:o.guard=none) (s x:Operand)
  (ho:o.op=.call { callee:=.builtin .append,args:=#[s,x],argTypes:=#[100,100] }) (v:Value) (l:List Ev) (d:Ev) (hs:a.eval s=v) (hr:Re W v l)
  (g c:Nat) (hx:a.eval x=.slice (some (Tw g 0)) 1 c) (hg:W.heap[g]?=some (.cells #[.int .u8 d.k,.int .u8 d.n,.int .u8 d.d.k,.string d.d.t,Tu d.d.a,Tu d.d.l,Tu d.d.c,Tu d.d.f] 104 (0,0))) (hl:l.length<=1000000000)
  (h:∀v' w',Re w' v' (l++[d])->W.grownBy w' v.ownBlock->Nb W v v'->wpList Tryz.prog H Q rest (a.put o.dst v') w'):wpList Tryz.prog H Q (o :: rest) a W:=by
 obtain⟨i0,hi,J,M,O⟩:=Tf Tryz.info104;refine Th (P:=Tryz.prog) (w:=W) I s x 100 ho 0 104 i0 _ 8 64 Tryz.underlying100 hi J M O rfl (by decide) v _ _ hs hr (Tw g 0) 1 c (xC [d]) hx (by rw[tE];rfl) ?_ (tD [d]) (by unfold maxLen;omega) (by omega) (RU _) ?_
 ·intro j u S;refine Ta hg j u ?_;have e:xC [d]=[.int .u8 d.k,.int .u8 d.n,.int .u8 d.d.k,.string d.d.t,Tu d.d.a,Tu d.d.l,Tu d.d.c,Tu d.d.f]:=by simp[xC,ap,Ev.cs]
  rw[e]at S
  simpa using S
 ·intro v' w' Y Z _ G;refine h v' w' ?_ Z ?_
  ·unfold Re;rw[IO,tF];exact Y
  ·rcases G with G|G
   ·exact .inl G
   ·exact .inr ⟨_,G,ge _⟩
end Go.Proofs.YthfjlkfeeglfmaaGreatDoor
namespace Go.Proofs.YthfjlkfeeglfmaaGreatDoor.Lx
open Go.ChangeShapes Go.WideShapes Go.ChangeAt Go.RowKit
variable {w w' W:World}
def iy {P:Program}:∀(G:List (String × DataW Unit)) (ps:List MemPlace),DataW.LaidVars P w G ps->∀n d,(n,d)∈G ->
  ∃g t cs u p,P.globalNamed n=some g/\(P.globals[g]?).map (·.type)=some t/\w.var? P n=some cs/\DataW.trod (λ_=>()) P w 0 (λ_=>true) false u t cs.toList=some (d,p)
 |[],_,_,n,d,h=>by cases h
 | (m,e) :: r,ps,⟨g,t,cs,u,p,q,h1,h2,h3,h4,h5,_⟩,n,d,h=>by
  rcases Sm.1 h with h|h
  ·cases h;exact⟨g,t,cs,u,p,h1,h2,h3,h4⟩
  ·exact iy r q h5 n d h
def gH:List (Int × Int × Int):=[(48,57,1),(65,90,2),(95,95,1),(97,122,2),(192,214,2),(216,246,2),(248,591,2),(768,879,1),(913,929,2),(931,974,2),(1024,1119,2),(1488,1514,2),(1568,1610,2),(2308,2361,2),(12353,12438,2),(12449,12538,2),(19968,40959,2),(44032,55203,2),(66560,66639,2),(131072,196607,2)]
def Bl (i:Nat):Int:=(gH.getD i (0,0,0)).1
def DG (i:Nat):Int:=(gH.getD i (0,0,0)).2.1
def OP (i:Nat):Int:=(gH.getD i (0,0,0)).2.2
def xA (w:World):Prop:=∀i,i<20->w.cell? ⟨3,i*3,none⟩=some (Tu (Bl i))/\w.cell? ⟨3,i*3+1,none⟩=some (Tu (DG i))/\w.cell? ⟨3,i*3+2,none⟩=some (Tu (OP i))
def xA.below (h:xA w) (u:Below w.heap.size w w'):xA w':=by
 intro i M;obtain⟨H,I,J⟩:=h i M;have G:=RV w _ H;exact⟨(u.cell (p:=⟨3,i*3,none⟩) G).trans H,(u.cell (p:=⟨3,i*3+1,none⟩) G).trans I,(u.cell (p:=⟨3,i*3+2,none⟩) G).trans J⟩
def yR:(Rows.laid_colophon_class_spans:DataW Unit)=.agg (gH.map λx=>.agg [.lit (.int .i64 x.1),.lit (.int .i64 x.2.1),.lit (.int .i64 x.2.2)]):=by kernel_rfl
def tR {L:List (String × DataW Unit)}(J:(L.all λx=>x.2.handleName?.isNone)=true) (hm:("colophon/class.spans",Rows.laid_colophon_class_spans)∈L) (h:laidMetH Tryz.prog L W):xA W:=by
 rw[Ug _ _ _ J]at h;obtain⟨ps,M,_,_⟩:=h;obtain⟨g,t,cs,fuel,p,hg,ht,hv,hd⟩:=iy L ps M _ _ hm;obtain rfl:=SJ ((show Tryz.prog.globalNamed "colophon/class.spans"=some 3 by kernel_rfl).symm.trans hg);obtain rfl:=SJ ((show(Tryz.prog.globals[3]?).map (·.type)=some 302 by kernel_rfl).symm.trans ht);rw[yR]at hd;obtain⟨xs,m,_,ex,_,hl,hel⟩:=Vt Tryz.underlying302 hd;have c3:Tryz.prog.cellsOf 3=1:=by kernel_rfl
 have I:Tryz.prog.cellsOf 276=1:=by kernel_rfl
 have cS:Tryz.prog.cellsOf 301=3:=by kernel_rfl
 intro i hi;have Z:=hel i hi;rw[cS,Pi (by omega)]at Z;obtain⟨y0,y1,y2,n,ey,_,O,Q,S⟩:=Deep.trod_struct3 Tryz.underlying301 Z;simp only[c3,I]at O Q S;obtain⟨z0,a0,b0,_⟩:=UO Tryz.underlying3 O;obtain⟨z1,a1,b1,_⟩:=UO Tryz.underlying3 Q;obtain⟨z2,a2,b2,_⟩:=UO Tryz.underlying276 S;have aa:gH.length=20:=rfl;have e3:(xs.map (·.1))=gH.map λx=>(.agg [.lit (.int .i64 x.1),.lit (.int .i64 x.2.1),.lit (.int .i64 x.2.2)]:DataW Unit):=(Wl (WU ex).1).symm
 have G:(xs.map (·.1))[i]?=(gH.map λx=>(.agg [.lit (.int .i64 x.1),.lit (.int .i64 x.2.1),.lit (.int .i64 x.2.2)]:DataW Unit))[i]?:=by rw[e3]
 rw[TE,TE,Pi (by omega:i<xs.length),Pi (by omega:i<gH.length),ey,b0,b1,b2]at G;simp only[Uz,St,DataW.agg.injEq,List.cons.injEq,VI,Lit.int.injEq,true_and,and_true]at G;obtain⟨f0,f1,f2⟩:=G;have H:gH.getD i (0,0,0)=gH[i]:=by rw[List.getD,Pi (show i<gH.length by omega)];rfl
 have u:∀(o:Nat) (z:Int),o<3->(((cs.toList.drop (i*3)).take 3).drop o).take 1=[Tu z]->W.cell? ⟨3,i*3+o,none⟩=some (Tu z):=by
  intro o z ho hz;rw[U6 hg hv (i*3+o)];have Y:((((cs.toList.drop (i*3)).take 3).drop o).take 1)[0]?=some (Tu z):=by rw[hz];rfl
  rw[Sv,Or (by omega),Sl,Sv,Or (by omega),Sl]at Y
  simpa using Y
 refine⟨?_,?_,?_⟩
 ·have:=u 0 z0 (by omega) (by simpa using a0);rw[Ua]at this;rw[this,Bl,H,f0];rfl
 ·have:=u 1 z1 (by omega) (by simpa using a1);rw[this,DG,H,f1];rfl
 ·have:=u 2 z2 (by omega) (by simpa using a2);rw[this,OP,H,f2];rfl
def cY:List ByteArray:=[⟨#[97,110,100]⟩,⟨#[97,114,114,97,121]⟩,⟨#[98,101,103,105,110]⟩,⟨#[99,111,110,115,116]⟩,⟨#[100,111]⟩,⟨#[101,108,105,102]⟩,⟨#[101,108,115,101]⟩,⟨#[101,110,100]⟩,⟨#[102,111,114]⟩,⟨#[105,102]⟩,⟨#[110,111,116]⟩,⟨#[111,102]⟩,⟨#[111,114]⟩,⟨#[112,114,111,99]⟩,⟨#[112,114,111,103,114,97,109]⟩,⟨#[114,101,99,111,114,100]⟩,⟨#[114,101,112,101,97,116]⟩,⟨#[114,101,116,117,114,110]⟩,⟨#[115,107,105,112]⟩,⟨#[116,104,101,110]⟩,⟨#[116,111]⟩,⟨#[117,110,116,105,108]⟩,⟨#[118,97,114]⟩,⟨#[119,104,105,108,101]⟩]
def DP (w:World):Prop:=∀i,i<24->w.cell? ⟨5,i,none⟩=some (.string (cY.getD i ByteArray.empty))
def DP.below (h:DP w) (G:Below w.heap.size w w'):DP w':=by
 intro i H;have u:=h i H;exact(G.cell (p:=(Tw 5 i)) (RV w _ u)).trans u
def xG:(Rows.laid_colophon_class_words:DataW Unit)=.agg (cY.map λx=>.lit (.string x.data.toList)):=by kernel_rfl
def rJ {L:List (String × DataW Unit)}(G:(L.all λx=>x.2.handleName?.isNone)=true) (hm:("colophon/class.words",Rows.laid_colophon_class_words)∈L) (h:laidMetH Tryz.prog L W):DP W:=by
 rw[Ug _ _ _ G]at h;obtain⟨ps,H,_,_⟩:=h;obtain⟨g,t,cs,fuel,p,hg,ht,hv,hd⟩:=iy L ps H _ _ hm;obtain rfl:=SJ ((show Tryz.prog.globalNamed "colophon/class.words"=some 5 by kernel_rfl).symm.trans hg);obtain rfl:=SJ ((show(Tryz.prog.globals[5]?).map (·.type)=some 321 by kernel_rfl).symm.trans ht);rw[xG]at hd;obtain⟨xs,m,_,ex,_,hl,hel⟩:=Vt Tryz.underlying321 hd;have Y:Tryz.prog.cellsOf 9=1:=by kernel_rfl
 intro i hi;have J:=hel i hi;rw[Y,Pi (by omega)]at J;obtain⟨s,Q,S,_⟩:=DataW.trod_string Tryz.underlying9 J;have O:cY.length=24:=rfl;have Z:(xs.map (·.1))=cY.map λx=>(.lit (.string x.data.toList):DataW Unit):=(Wl (WU ex).1).symm
 have u:(xs.map (·.1))[i]?=(cY.map λx=>(.lit (.string x.data.toList):DataW Unit))[i]?:=by rw[Z]
 rw[TE,TE,Pi (by omega:i<xs.length),Pi (by omega:i<cY.length),S]at u;simp only[Uz,St,VI,Lit.string.injEq]at u;have hT:cY.getD i ByteArray.empty=cY[i]:=by rw[List.getD,Pi (show i<cY.length by omega)];rfl
 have M:s=cY[i]:=by
  have:=TJ.1 u;cases M:s;cases hx:cY[i];simp_all
 rw[U6 hg hv i,hT,<-M];have I:(((cs.toList.drop (i*1)).take 1))[0]?=some (.string s):=by rw[Q];rfl
 rw[Sv,Or (by omega),Sl]at I
 simpa using I
def cg:List ByteArray:=[⟨#[58,61]⟩,⟨#[46,46]⟩,⟨#[60,61]⟩,⟨#[62,61]⟩,⟨#[59]⟩,⟨#[46]⟩,⟨#[44]⟩,⟨#[58]⟩,⟨#[61]⟩,⟨#[35]⟩,⟨#[60]⟩,⟨#[62]⟩,⟨#[40]⟩,⟨#[41]⟩,⟨#[91]⟩,⟨#[93]⟩,⟨#[43]⟩,⟨#[45]⟩,⟨#[42]⟩,⟨#[47]⟩,⟨#[37]⟩]
def DQ (w:World):Prop:=∀i,i<21->w.cell? ⟨4,i,none⟩=some (.string (cg.getD i ByteArray.empty))
def DQ.below (h:DQ w) (G:Below w.heap.size w w'):DQ w':=by
 intro i H;have u:=h i H;exact(G.cell (p:=(Tw 4 i)) (RV w _ u)).trans u
def xR:(Rows.laid_colophon_class_signs:DataW Unit)=.agg (cg.map λx=>.lit (.string x.data.toList)):=by kernel_rfl
def rQ {L:List (String × DataW Unit)}(G:(L.all λx=>x.2.handleName?.isNone)=true) (hm:("colophon/class.signs",Rows.laid_colophon_class_signs)∈L) (h:laidMetH Tryz.prog L W):DQ W:=by
 rw[Ug _ _ _ G]at h;obtain⟨ps,H,_,_⟩:=h;obtain⟨g,t,cs,fuel,p,hg,ht,hv,hd⟩:=iy L ps H _ _ hm;obtain rfl:=SJ ((show Tryz.prog.globalNamed "colophon/class.signs"=some 4 by kernel_rfl).symm.trans hg);obtain rfl:=SJ ((show(Tryz.prog.globals[4]?).map (·.type)=some 305 by kernel_rfl).symm.trans ht);rw[xR]at hd;obtain⟨xs,m,_,ex,_,hl,hel⟩:=Vt Tryz.underlying305 hd;have Y:Tryz.prog.cellsOf 9=1:=by kernel_rfl
 intro i hi;have J:=hel i hi;rw[Y,Pi (by omega)]at J;obtain⟨s,Q,S,_⟩:=DataW.trod_string Tryz.underlying9 J;have O:cg.length=21:=rfl;have Z:(xs.map (·.1))=cg.map λx=>(.lit (.string x.data.toList):DataW Unit):=(Wl (WU ex).1).symm
 have u:(xs.map (·.1))[i]?=(cg.map λx=>(.lit (.string x.data.toList):DataW Unit))[i]?:=by rw[Z]
 rw[TE,TE,Pi (by omega:i<xs.length),Pi (by omega:i<cg.length),S]at u;simp only[Uz,St,VI,Lit.string.injEq]at u;have hT:cg.getD i ByteArray.empty=cg[i]:=by rw[List.getD,Pi (show i<cg.length by omega)];rfl
 have M:s=cg[i]:=by
  have:=TJ.1 u;cases M:s;cases hx:cg[i];simp_all
 rw[U6 hg hv i,hT,<-M];have I:(((cs.toList.drop (i*1)).take 1))[0]?=some (.string s):=by rw[Q];rfl
 rw[Sv,Or (by omega),Sl]at I
 simpa using I
def pT (w:World):Prop:=xA w/\DP w/\DQ w
def pT.below (h:pT w) (u:Below w.heap.size w w'):pT w':=⟨h.1.below u,h.2.1.below u,h.2.2.below u⟩
def wm {L:List (String × DataW Unit)}(u:(L.all λx=>x.2.handleName?.isNone)=true) (G:("colophon/class.spans",Rows.laid_colophon_class_spans)∈L)
  (H:("colophon/class.words",Rows.laid_colophon_class_words)∈L) (I:("colophon/class.signs",Rows.laid_colophon_class_signs)∈L) (h:laidMetH Tryz.prog L W):pT W:=
 ⟨tR u G h,rJ u H h,rQ u I h⟩
