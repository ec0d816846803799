import Derived.Test.YtjiepkenkcgkhaaGreatDoorRows
import Derived.WalkKit
import Derived.WalkSpells
import Derived.WalkLawsBesides
import Derived.WalkSmall
import Derived.Laws.CopyOwn
import Derived.Deep.RegionLaw
import Derived.Maps.AppendAt
import Derived.Lib.AppendStr
import Derived.Deep.AppendLies
import Derived.ProofKit
import Derived.OpenShut
import Derived.Lay
import Derived.Deep.Strs
import Derived.Stop.Joined
import Derived.MakeChecks
set_option linter.unusedVariables false
set_option linter.unusedSimpArgs false
namespace Go.Proofs.YtjiepkenkcgkhaaGreatDoor
open Go.RowKit
variable {W w w':World}{i g:Nat}{o:Obj}
abbrev gt:=@Nat.le_refl
abbrev hH:=@Go.RowKit.Below.refl
abbrev Eq:=@if_neg
abbrev IO:=@if_pos
abbrev Or:=@List.length_append
abbrev Pi:=@List.getElem?_eq_getElem
abbrev QK:=@Nat.zero_le
abbrev QL:=@Go.World.size_alloc
abbrev QM:=@List.append_assoc
abbrev QN:=@List.mem_cons_self
abbrev QO:=@List.mem_cons_of_mem
abbrev QP:=@Go.World.block_lt_of_cell?
abbrev QQ:=@Nat.le_trans
abbrev QR:=@Bool.and_eq_true
abbrev QS:=@Go.World.cell?_of_block
abbrev QT:=@List.getElem?_eq_some_iff
abbrev QU:=@Nat.zero_add
abbrev QV:=@Go.bodyPost_ret
abbrev QW:=@decide_eq_true
abbrev QX:=@decide_eq_false
abbrev QY:=@Bool.or_eq_true
abbrev QZ:=@List.eq_nil_of_length_eq_zero
abbrev Q0:=@congrArg
abbrev Q1:=@Nat.lt_of_lt_of_le
abbrev Q6:=@List.mem_append
abbrev Q7:=@beq_eq_false_iff_ne
abbrev Q8:=@Bool.false_eq_true
abbrev Q9:=@Option.map_eq_some_iff
abbrev Rf:=@List.length_drop
abbrev Rg:=@List.mem_cons
abbrev Rh:=@List.cons_append
abbrev Ri:=@List.length_take
abbrev Rj:=@decide_eq_true_eq
abbrev Rk:=@List.any_append
abbrev Rm:=@of_decide_eq_true
abbrev Rp:=@Option.some.injEq
abbrev Rr:=@List.nil_append
abbrev Rv:=@Classical.byContradiction
abbrev Rx:=@List.append_nil
abbrev Ry:=@Option.some.inj
abbrev Rz:=@Go.Proofs.Tryz.underlying9
abbrev RA:=@Go.IntKind.wrap_i64
abbrev RC:=@List.getElem?_drop
abbrev RD:=@Go.Proofs.Tryz.underlying35
abbrev RE:=@Go.Proofs.Tryz.underlying3
abbrev RF:=@List.drop_eq_getElem_cons
abbrev RG:=@Array.length_toList
abbrev RH:=@List.take_append_of_le_length
abbrev RI:=@List.getElem?_take
abbrev RJ:=@List.take_append_drop
abbrev RK:=@List.take_of_length_le
abbrev RM:=@beq_iff_eq
abbrev RO:=@Nat.le_of_lt
abbrev RQ:=@List.take_length
abbrev RR:=@Go.World.ownsRow_nil
abbrev RT:=@Go.wpList_append_own_at
abbrev RU:=@List.mem_of_getElem?
abbrev RV:=@Go.World.cell?_alloc_lt
abbrev RW:=@Go.World.news_of_block
abbrev RX:=@List.mem_append_right
abbrev RY:=@List.countP_cons
abbrev RZ:=@List.getElem?_cons_succ
abbrev R3:=@decide_eq_false_iff_not
abbrev R4:=@Bool.true_and
abbrev R5:=@List.append_cancel_left
abbrev R6:=@Array.getElem?_eq_some_iff
abbrev R7:=@Nat.add_zero
abbrev R8:=@if_false
abbrev R9:=@List.drop_eq_nil_of_le
abbrev Sa:=@Go.info_parts
abbrev Sc:=@Array.getElem?_eq_getElem
abbrev Se:=@Bool.eq_iff_iff
abbrev Sf:=@List.prefix_rfl
abbrev Sg:=@List.map_cons
abbrev Sh:=@Nat.add_assoc
abbrev Sj:=@List.any_eq_true
abbrev Sk:=@List.getElem?_map
abbrev Sl:=@Go.Proofs.Tryz.underlying105
abbrev Sn:=@Int.le_refl
abbrev So:=@Go.Proofs.Tryz.underlying5
abbrev Ss:=@Array.size_modify
abbrev St:=@List.drop_succ_cons
abbrev Su:=@List.map_append
abbrev Sv:=@Go.Proofs.Tryz.zeroValue5
abbrev Sw:=@List.mem_singleton
abbrev Sz:=@decide_eq_decide
abbrev SC:=@Go.Proofs.Tryz.underlying4
abbrev SE:=@Go.Addr.add_lit
abbrev SF:=@Go.Proofs.Tryz.ntmps73
abbrev SH:=@List.reverse_cons
abbrev SI:=@Bool.not_eq_true'
abbrev SJ:=@Option.map_some
abbrev SL:=@Array.getD_eq_getD_getElem?
abbrev SM:=@Go.Proofs.Tryz.zeroValue3
abbrev SN:=@Go.Proofs.Tryz.zeroValue9
abbrev SO:=@List.length_reverse
abbrev SP:=@List.getD_eq_getElem?_getD
abbrev SQ:=@Array.toList_inj
abbrev SR:=@List.length_replicate
abbrev ST:=@List.length_singleton
abbrev SU:=@Array.getElem_modify_self
abbrev SW:=@Go.MakeChecks.laidMetH_plain
abbrev SX:=@Bool.and_false
abbrev SY:=@Go.Proofs.Tryz.func73
abbrev SZ:=@Bool.or_eq_false_iff
abbrev S4:=@Go.Proofs.Tryz.zeroValue4
abbrev S5:=@List.take_add_one
abbrev S8:=@List.takeWhile_append_dropWhile
abbrev S9:=@Go.callsIn_wide
abbrev Ta:=@Go.Proofs.Tryz.sizeOf5
abbrev Tb:=@Go.Proofs.Tryz.ntmps18
abbrev Tc:=@Go.ByteArray.toList_eq
abbrev Td:=@if_true
abbrev Te:=@Go.World.frozen?_alloc_old
abbrev Tf:=@Go.World.ownsRow.cells
abbrev Tg:=@List.not_mem_nil
abbrev Th:=@Go.Proofs.Tryz.underlying0
abbrev Ti:=@List.all_eq_true
abbrev Tl:=@Go.wp_scope_jumps
abbrev Tm:=@List.mem_map
abbrev Tn:=@Array.getElem?_toList
abbrev To:=@Go.Proofs.Tryz.zeroValue0
abbrev Tp:=@Go.Proofs.Tryz.sizeOf3
abbrev Tq:=@Go.Proofs.Tryz.isAgg5
abbrev Tr:=@Go.Proofs.Tryz.sizeOf9
abbrev Ts:=@Go.Exit.noGoto_ret
abbrev Tt:=@Go.Proofs.Tryz.func18
abbrev Tu:=@Int.toNat_natCast
abbrev Tw:=@List.size_toArray
abbrev Ty:=@List.getElem?_append_right
abbrev Tz:=@Array.replicate_succ
abbrev TB:=@Array.replicate_zero
abbrev TC:=@Go.DataW.trod_int
abbrev TD:=@List.mem_of_find?_eq_some
abbrev TE:=@Bool.false_and
abbrev TF:=@List.drop_length
abbrev TG:=@List.mem_flatMap
abbrev TH:=@List.append_inj'
abbrev TI:=@Go.step_append_lies
abbrev TJ:=@List.append_toArray
abbrev TK:=@Go.Proofs.Tryz.isAgg3
abbrev TM:=@Go.Proofs.Tryz.isAgg9
abbrev TO:=@Go.leaves_cons
abbrev TQ:=@Go.RowKit.Below.size
abbrev TR:=@Go.Proofs.Tryz.sizeOf4
abbrev TS:=@Nat.sub_self
abbrev TT:=@Bool.true_or
abbrev TU:=@Go.RowKit.Below.heap_setCell
abbrev TV:=@Go.World.var?_cell
abbrev TW:=@Go.Proofs.Tryz.underlying167
abbrev TX:=@Nat.add_le_add_iff_left
abbrev TY:=@Nat.add_sub_cancel
abbrev TZ:=@Go.RowKit.Below.setCell
abbrev T1:=@Nat.add_sub_cancel_left
abbrev T2:=@of_decide_eq_false
abbrev T3:=@Array.getElem!_eq_getD
abbrev T4:=@Go.run_convert_int_string
abbrev T5:=@Go.World.ownsRow.frozenAt
abbrev T6:=@List.any_eq_false
abbrev T7:=@List.push_toArray
abbrev T8:=@Go.Proofs.Tryz.isAgg4
abbrev T9:=@Go.Proofs.Tryz.zeroValue167
abbrev Ua:=@Go.Proofs.Tryz.zeroValue105
abbrev Ub:=@Go.setRow_heap
abbrev Uc:=@List.take_take
abbrev Ud:=@Go.Sem.run_bind
abbrev Ue:=@getElem!_pos
abbrev Uf:=@Nat.lt_or_ge
abbrev Ug:=@Go.Proofs.Tryz.sizeOf0
abbrev Uh:=@Go.Proofs.Tryz.ntmps80
abbrev Ui:=@Go.Proofs.Tryz.ntmps31
abbrev Uj:=@List.drop_append
abbrev Uk:=@List.drop_append_of_le_length
abbrev Ul:=@Go.DataW.trod_array
abbrev Um:=@Option.getD_some
abbrev Un:=@List.mem_of_mem_take
abbrev Uo:=@List.mem_append_left
abbrev Up:=@Go.Proofs.Tryz.ntmps145
abbrev Uq:=@Go.Proofs.Tryz.ntmps134
abbrev Ur:=@List.any_cons
abbrev Us:=@Go.RowKit.Below.drew
abbrev Ut:=@List.flatMap_append
abbrev Uu:=@List.take_succ_cons
abbrev Uv:=@Go.DataW.lit.injEq
abbrev Uw:=@UInt8.toNat_inj
abbrev Ux:=@List.length_map
abbrev Uy:=@Go.Proofs.Tryz.isAgg0
abbrev Uz:=@Go.RowKit.Below.alloc
abbrev UA:=@Go.results_tmp
abbrev UB:=@Go.Proofs.Tryz.func80
abbrev UC:=@List.dropWhile_cons
abbrev UD:=@Go.run_loadVar_row
abbrev UE:=@Go.Proofs.Tryz.func31
abbrev UF:=@Nat.succ_mul
abbrev UG:=@List.map_nil
abbrev UH:=@Go.run_next_any
abbrev UI:=@Nat.sub_zero
abbrev UJ:=@Prod.ext
abbrev UK:=@Go.Proofs.Tryz.underlying170
abbrev UL:=@Go.Proofs.Tryz.func145
abbrev UM:=@Go.Proofs.Tryz.underlying113
abbrev UN:=@Go.Proofs.Tryz.underlying115
abbrev UO:=@Go.Proofs.Tryz.func134
abbrev UP:=@Go.Proofs.Tryz.underlying220
abbrev UQ:=@List.countP_append
abbrev UR:=@Go.Proofs.Tryz.sizeOf167
abbrev US:=@Go.Proofs.Tryz.sizeOf105
abbrev UT:=@Go.run_storeCells_at
abbrev UU:=@Go.Proofs.Tryz.underlying90
abbrev UV:=@Go.Proofs.Tryz.underlying21
abbrev UW:=@Go.Proofs.Tryz.zeroValue170
abbrev UX:=@List.find?_append
abbrev UY:=@Go.Proofs.Tryz.zeroValue113
abbrev UZ:=@Go.Proofs.Tryz.zeroValue115
abbrev U1:=@Go.DataW.agg.inj
abbrev U2:=@ByteArray.ext
abbrev U3:=@Go.Proofs.Tryz.isAgg167
abbrev U4:=@Go.Proofs.Tryz.isAgg105
abbrev U5:=@Bool.and_true
abbrev U6:=@Bool.false_or
abbrev U7:=@Go.Proofs.Tryz.ntmps133
abbrev U8:=@Go.Proofs.Tryz.ntmps126
abbrev U9:=@Go.Proofs.Tryz.ntmps120
abbrev Va:=@Go.Proofs.Tryz.zeroValue21
abbrev Vb:=@List.cons_ne_nil
abbrev Vc:=@Go.run_next_end
abbrev Vd:=@Go.Proofs.Tryz.ntmps21
abbrev Ve:=@Int.natCast_add
abbrev Vf:=@List.map_map
abbrev Vg:=@Nat.min_eq_left
abbrev Vh:=@List.sum_append
abbrev Vi:=@Go.Proofs.Tryz.ntmps10
abbrev Vj:=@List.take_left'
abbrev Vk:=@Go.Proofs.Tryz.func133
abbrev Vl:=@Go.Proofs.Tryz.func126
abbrev Vm:=@Go.Proofs.Tryz.func120
abbrev Vn:=@Go.Proofs.Tryz.func3
abbrev Vo:=@Prod.mk.inj
abbrev Vp:=@Go.Proofs.Tryz.func21
abbrev Vq:=@Go.Proofs.Tryz.func10
abbrev Vr:=@or_false
abbrev Vs:=@Ne.symm
theorem mkfn:∀(fn:Fn) (first cap:Array Value) (w:World),(Instr.makeFunc fn first cap).run Tryz.prog w=.ok (.func fn first cap) w:=fun _ _ _ _=>rfl
abbrev Ra:=Calls Tryz.prog
abbrev Rc (W V:World):Prop:=Below W.heap.size W V
theorem ai{p:Prop}(h:p):Hid p:=h
structure Fr (i:Nat) (own own':Nat->Nat) (w w':World):Prop where
 os:w'.os=w.os
 tape:w'.tape=w.tape
 output:w'.output=w.output
 size:w.heap.size<=w'.heap.size
 block:∀k,k<w.heap.size->own k≠i->w'.heap[k]?=w.heap[k]?
 old:∀k,k<w.heap.size->own' k=own k
def Nf (own:Nat->Nat) (w:World):Prop:=∀k,w.heap.size<=k->own k=0
theorem Fr.refl (i:Nat) (own:Nat->Nat) (w:World):Fr i own own w w:=⟨rfl,rfl,rfl,gt _,fun _ _ _=>rfl,fun _ _=>rfl⟩
theorem Fr.of_below {i:Nat}{own:Nat->Nat}{w w':World}(h:Below w.heap.size w w'):Fr i own own w w':=
 ⟨h.os,h.tape,h.output,h.size,fun k hk _=>h.block k hk,fun _ _=>rfl⟩
theorem Fr.below {B:Nat}{own own':Nat->Nat}(h:Fr i own own' w w') (hB:B<=w.heap.size) (ho:∀k,k<B->own k=0) (hi:i≠0):Below B w w':=
 ⟨h.os,h.tape,h.output,h.size,fun k hk=>h.block k (by omega) (by rw [ho k hk];omega)⟩
theorem Fr.cell {i:Nat}{own own':Nat->Nat}{w w':World}(h:Fr i own own' w w') {a:Addr}{v:Value}(hc:w.cell? a=some v) (hi:own a.block≠i):w'.cell? a=some v:=
 (QS (h.block a.block (QP w a hc) hi)).trans hc
theorem Nf.below {own:Nat->Nat}(h:Nf own w) (hb:w.heap.size<=w'.heap.size):Nf own w':=fun k hk=>h k (by omega)
theorem af {W:World}{g k:Nat}{cs:Array Value}{T:TypeId}{v:Value}(h:W.heap[g]?=some (.cells cs T (0,0))) (hk:cs[k]?=some v):W.cell? ⟨g,k,none⟩=some v:=by simp [World.cell?,h,hk]
theorem am {W:World}{g k:Nat}{cs:Array Value}{T:TypeId}(h:W.heap[g]?=some (.cells cs T (0,0))):W.frozen? ⟨g,k,none⟩=false:=by simp [World.frozen?,h]
theorem aj {cs:Array Value}{T:TypeId}(h:W.heap[g]?=some (.cells cs T (0,0))) (k:Nat) (v:Value):(W.setCell ⟨g,k,none⟩ v).heap[g]?=some (.cells (cs.setIfInBounds k v) T (0,0)):=by
 obtain ⟨hlt,hk⟩:=R6.1 h;show (W.heap.modify g _)[g]?=_;rw [Sc (by rw [Ss];exact hlt),SU,hk];rfl
theorem aX {b k:Nat}(h:W.heap[g]?=some o) (hne:g≠b) (v:Value):(W.setCell ⟨b,k,none⟩ v).heap[g]?=some o:=
 (TU W ⟨b,k,none⟩ v g hne).trans h
theorem aq (h:W.heap[g]?=some o):g<W.heap.size:=(R6.1 h).1
theorem ag {W W':World}{g:Nat}{o:Obj}(h:W.heap[g]?=some o) (hb:Below W.heap.size W W'):W'.heap[g]?=some o:=(hb.block g (aq h)).trans h
theorem Fr.set {own own':Nat->Nat}(h:Fr i own own' w W) {g:Nat}(hg:own' g=i) (k:Nat) (v:Value) (hN:∀j,j<w.heap.size->own j≠i->j≠g):Fr i own own' w (W.setCell ⟨g,k,none⟩ v):=
 ⟨h.os,h.tape,h.output,by show _<=(W.heap.modify g _).size;rw [Ss];exact h.size,
 fun j hj hi=>(TU W ⟨g,k,none⟩ v j (hN j hj hi)).trans (h.block j hj hi),h.old⟩
theorem Fr.set' {own:Nat->Nat}(h:Fr i own own w W) {g:Nat}(hg:own g=i) (k:Nat) (v:Value):Fr i own own w (W.setCell ⟨g,k,none⟩ v):=
 h.set hg k v (fun j _ hj e=>hj (by rw [e];exact hg))
section
variable {β:Type} (enc:β->List Value) (sz:Nat)
def bz (zs:List β):List Value:=zs.flatMap enc
theorem gP (x:β) (zs:List β):bz enc (x :: zs)=enc x++bz enc zs:=rfl
theorem cr (xs zs:List β):bz enc (xs++zs)=bz enc xs++bz enc zs:=by unfold bz;exact Ut
variable (hsz:∀x,(enc x).length=sz)
include hsz
theorem fV (zs:List β):(bz enc zs).length=zs.length*sz:=by
 induction zs with
 |nil=>simp [bz]
 |cons x r ih=>rw [gP,Or,ih,hsz,List.length_cons,UF];omega
theorem lM:∀(k:Nat) (zs:List β),(bz enc zs).drop (k*sz)=bz enc (zs.drop k)
 |0,zs=>by simp
 |k+1,[]=>by simp [bz]
 |k+1,x :: r=>by
  rw [gP,Uj,hsz,St,<-lM k r,R9 (by rw [hsz,UF];omega),Rr]
  congr 1;rw [UF];omega
theorem qZ:∀(k:Nat) (zs:List β),(bz enc zs).take (k*sz)=bz enc (zs.take k)
 |0,zs=>by simp [bz]
 |k+1,[]=>by simp [bz]
 |k+1,x :: r=>by
  rw [gP,List.take_append,hsz,Uu,gP,<-qZ k r,RK (by rw [hsz,UF];omega)]
  congr 2;rw [UF];omega
theorem aU (zs:List β) (k j:Nat) (x:β) (v:Value) (hk:zs[k]?=some x) (hv:(enc x)[j]?=some v):(bz enc zs)[k*sz+j]?=some v:=by
 have h1:(bz enc zs)[k*sz+j]?=((bz enc zs).drop (k*sz))[j]?:=by rw [RC]
 rw [h1,lM enc sz hsz];obtain ⟨hl,he⟩:=QT.1 hk;rw [RF hl,he,gP];rw [List.getElem?_append_left (QT.1 hv).1];exact hv
omit hsz in
end
theorem et {P:Program}(w:World) (dT sT ty elem:TypeId) (sz g o dLen dCap:Nat) (a:Addr) (sLen sCap:Nat) (cur:Array Value) (t:TypeId) (cs:List Value)
  (hu:P.underlying dT=some (.slice elem)) (hs:(P.info? elem).map (·.size)=some sz)
  (hg:w.heap[g]?=some (.cells cur t (0,0))) (hn:cs.length=Nat.min sLen dLen*sz)
  (hsrc:∀j v,cs[j]?=some v->w.cell? (a.add j)=some v) (hfit:o+cs.length<=cur.size) (h1:∀v∈cs,v.oneCell'=true) :
  (Builtin.copy_ #[dT,sT] ty #[.slice (some ⟨g,o,none⟩) dLen dCap,.slice (some a) sLen sCap]).run P w =
   .ok (goInt (Nat.min sLen dLen)) (w.setRow g (cur.toList.take o++cs++cur.toList.drop (o+cs.length)).toArray):=by
 have hl:=run_loadCells_list (P:=P) w a cs hsrc;have hst:=UT P g o t cs 0 cur w hg (by simpa using hfit) h1;cases hq:P.info? elem with
 |none=>simp [hq] at hs
 |some i=>
  have hi:i.size=sz:=by simpa [hq] using hs
  simp [Builtin.copy_,run_underlying hu,Builtin.lenOf,Builtin.firstCells,sizeOf,typeInfo,hq,hi,<-hn,hl,hst]
end Go.Proofs.YtjiepkenkcgkhaaGreatDoor
namespace Go.Proofs.YtjiepkenkcgkhaaGreatDoor
open Go.RowKit
open Go.Lib (strCells strCells_length)
variable {w w':World}{f e sz n m:Nat}{v:Value}{xs:List Value}{t:List UInt8}
def bc (l:List UInt8):List Value:=l.map fun b=>Value.int .u8 b.toNat
theorem Nj (l:List UInt8):(bc l).length=l.length:=by simp [bc]
theorem Ge (a b:List UInt8):bc (a++b)=bc a++bc b:=by simp [bc]
theorem Ni (l:List UInt8):∀u∈bc l,u.oneCell'=true:=by
 intro u hu;simp only [bc,Tm] at hu;obtain ⟨x,_,rfl⟩:=hu;rfl
theorem Kf (l:List UInt8) (k:Nat):(bc l).drop k=bc (l.drop k):=by simp [bc]
theorem Ke (l:List UInt8) (k:Nat):(bc l).take k=bc (l.take k):=by simp [bc]
theorem ix {P:Program}(w:World) (base:Nat) (t u ty e:TypeId) (i:TypeInfo) (ht:P.underlying t=some (.slice e)) (hu:P.underlying u=some .string) (hi:P.info? e=some i) (hz:i.zero=some (.int .u8 0))
  (hsize:i.size=1) (hby:i.bytes=1) (v:Value) (n:Nat) (xs:List Value) (hown:w.ownsRow base e 1 v n xs) (s:ByteArray)
  (h63:n+s.size<=maxLen) (hbytes:n+s.size<=140737488355328) (hbase:base<=w.heap.size) :
  ∃v' w',(Builtin.append_ #[t,u] ty #[v,.string s]).run P w=.ok v' w'/\w'.ownsRow base e 1 v' (n+s.size) (xs++strCells s)/\w.grownBy w' v.ownBlock/\(v'.ownBlock=v.ownBlock\/v'.ownBlock=some w.heap.size):=by
 obtain ⟨v',w',hr,h1,h2,h3⟩:=Lib.run_append_own_string (P:=P) w base t u ty e i ht hu hi hz hsize hby v n xs hown s h63 hbytes hbase;refine ⟨v',w',hr,h1,h2,?_⟩;have hsmall:n+s.size<=9223372036854775807:=by simp only [maxLen] at h63;omega
 have hxl:xs.length=n:=by simpa using hown.1
 rcases hown.2 with ⟨rfl,rfl⟩|⟨g,cap,cur,rfl,hbg,hg,hnc,hcm,hcs,htake⟩
 ·by_cases hm:s.size=0
  ·left;rw [h3.2 ⟨rfl,hm⟩]
  ·have hr2:=run_append_nil_string (P:=P) w t u ty e i (.int .u8 0) ht hu hi hz s (by omega) (by omega) (by rw [hby];omega);rw [hr2] at hr;injection hr with e1 e2
   right;rw [<-e1];rfl
 ·by_cases hroom:n+s.size<=cap
  ·have hcs':cur.size=cap:=by simpa using hcs
   have hr2:=Lib.run_append_room_string (P:=P) w t u ty e i ht hu hi hsize g n cap cur hg s hroom (by omega);rw [hr2] at hr;injection hr with e1 e2
   left;rw [<-e1];rfl
  ·have holds:∀j u,xs[j]?=some u->w.cell? ((⟨g,0,none⟩:Addr).add j)=some u:=hown.cells (g:=g) rfl;have hr2:=Lib.run_append_grow_string (P:=P) w t u ty e i (.int .u8 0) ht hu hi hz ⟨g,0,none⟩ n cap xs (by rw [hsize];simpa using hxl) holds s (by omega) (by omega) (by rw [hby];exact growslice_fits (by omega) (by omega));rw [hr2] at hr;injection hr with e1 e2
   right;rw [<-e1];rfl
theorem dU {P:Program}{w:World}{ops:Array Oper}{rest:List Oper}{o:Oper}{a:Act}{Q:Exit->Act->World->Prop}(hgd:o.guard=none) (sl x:Operand) (t u:TypeId)
  (ho:o.op=.call { callee:=.builtin .append,args:=#[sl,x],argTypes:=#[t,u] })
  (base:Nat) (e:TypeId) (i:TypeInfo) (ht:P.underlying t=some (.slice e)) (hu:P.underlying u=some .string) (hi:P.info? e=some i) (hz:i.zero=some (.int .u8 0))
  (hsize:i.size=1) (hby:i.bytes=1)
  (v:Value) (n:Nat) (xs:List Value) (hs:a.eval sl=v) (hown:w.ownsRow base e 1 v n xs) (s:ByteArray) (hx:a.eval x=.string s)
  (h63:n+s.size<=maxLen) (hbytes:n+s.size<=140737488355328) (hbase:base<=w.heap.size)
  (h:∀v' w',w'.ownsRow base e 1 v' (n+s.size) (xs++strCells s)->w.grownBy w' v.ownBlock->(v'.ownBlock=v.ownBlock\/v'.ownBlock=some w.heap.size)->wpList P ops Q rest (a.put o.dst v') w'):wpList P ops Q (o :: rest) a w:=by
 refine wpList_plain hgd fun K hK=>?_
 obtain ⟨v',w',hr,h2,h3,h4⟩:=ix (P:=P) w base t u o.type e i ht hu hi hz hsize hby v n xs hown s h63 hbytes hbase;unfold Oper.wp execOp;simp only [ho,resolve,invoke,builtin,Ud,Sem.run_pure,Result.andThen_ok,List.map_toArray,Sg,UG,hs,hx,hr];exact hK _ _ (h v' w' h2 h3 h4)
structure Kp (S:Nat->Prop) (w w':World):Prop where
 os:w'.os=w.os
 tape:w'.tape=w.tape
 output:w'.output=w.output
 size:w.heap.size<=w'.heap.size
 block:∀k,k<w.heap.size->¬S k->w'.heap[k]?=w.heap[k]?
theorem Kp.refl (S:Nat->Prop) (w:World):Kp S w w:=⟨rfl,rfl,rfl,gt _,fun _ _ _=>rfl⟩
theorem Kp.trans {S:Nat->Prop}{a b c:World}(h:Kp S a b) (k:Kp S b c):Kp S a c:=
 ⟨k.os.trans h.os,k.tape.trans h.tape,k.output.trans h.output,QQ h.size k.size,fun j hj hS=>(k.block j (Q1 hj h.size) hS).trans (h.block j hj hS)⟩
theorem Kp.step {S T:Nat->Prop}{a b c:World}(h:Kp S a b) (k:Kp T b c) (hT:∀j,j<a.heap.size->T j->S j):Kp S a c:=
 ⟨k.os.trans h.os,k.tape.trans h.tape,k.output.trans h.output,QQ h.size k.size,fun j hj hS=>(k.block j (Q1 hj h.size) (fun ht=>hS (hT j hj ht))).trans (h.block j hj hS)⟩
theorem Kp.of_below {S:Nat->Prop}{w w':World}(h:Below w.heap.size w w'):Kp S w w':=⟨h.os,h.tape,h.output,h.size,fun k hk _=>h.block k hk⟩
theorem Kp.of_grown {row:Option Nat}(h:w.grownBy w' row):Kp (fun k=>some k=row) w w':=⟨h.os,h.tape,h.output,h.size,fun k hk hS=>h.block k hk hS⟩
theorem Kp.set (w:World) (g k:Nat) (v:Value):Kp (fun j=>j=g) w (w.setCell ⟨g,k,none⟩ v):=
 ⟨rfl,rfl,rfl,by show _<=(w.heap.modify g _).size;rw [Ss];exact gt _,fun j hj hS=>TU w ⟨g,k,none⟩ v j hS⟩
theorem Kp.alloc {S:Nat->Prop}{a b:World}(h:Kp S a b) (o:Obj):Kp S a (b.alloc o):=h.step (T:=S) (Kp.of_below ((hH _ _).alloc (gt _) _)) (fun _ _ h=>h)
theorem Kp.same {S:Nat->Prop}{w W W':World}(h:Kp S w W) (h1:W'.heap=W.heap) (h2:W'.os=W.os) (h3:W'.tape=W.tape) (h4:W'.output=W.output):Kp S w W':=
 ⟨h2.trans h.os,h3.trans h.tape,h4.trans h.output,by rw [h1];exact h.size,by rw [h1];exact h.block⟩
theorem Kp.fr {S:Nat->Prop}{i:Nat}{own own':Nat->Nat}(h:Kp S w w') (hS:∀k,k<w.heap.size->S k->own k=i) (ho:∀k,k<w.heap.size->own' k=own k):Fr i own own' w w':=
 ⟨h.os,h.tape,h.output,h.size,fun k hk hi=>h.block k hk (fun hs=>hi (hS k hk hs)),ho⟩
theorem Kp.blk {S:Nat->Prop}{w w':World}(h:Kp S w w') {g:Nat}{o:Obj}(hg:w.heap[g]?=some o) (hS:¬S g):w'.heap[g]?=some o:=(h.block g (aq hg) hS).trans hg
theorem Kp.row {S:Nat->Prop}(h:Kp S w w') {e sz n:Nat}{v:Value}{xs:List Value}(hr:w.ownsRow 0 e sz v n xs) (hS:∀k,v.ownBlock=some k->¬S k):w'.ownsRow 0 e sz v n xs:=by
 refine ⟨hr.1,?_⟩
 rcases hr.2 with h1|⟨g,cap,cur,rfl,h2,h3,h4⟩
 ·exact .inl h1
 ·exact .inr ⟨g,cap,cur,rfl,h2,h.blk h3 (hS g rfl),h4⟩
theorem aM {g:Nat}{cs:Array Value}{T:TypeId}{f:Nat × Nat}(hr:w.ownsRow 0 e sz v n xs) (hg:w.heap[g]?=some (.cells cs T f)) (hT:T≠e):v.ownBlock≠some g:=by
 intro h
 rcases hr.2 with ⟨rfl,_⟩|⟨b,cap,cur,rfl,_,h3,_⟩
 ·cases h
 ·simp only [Value.ownBlock,Rp] at h;subst h;rw [hg] at h3;injection h3 with h4
  injection h4 with _ h5
  exact hT h5
theorem aJ (hr:w.ownsRow 0 e sz v n xs):∃p cap,v=.slice p n cap/\n<=cap/\cap<=maxLen:=by
 rcases hr.2 with ⟨rfl,rfl⟩|⟨b,cap,cur,rfl,_,h3,h4,h5,_⟩
 ·exact ⟨none,0,rfl,gt _,QK _⟩
 ·exact ⟨_,cap,rfl,h4,h5⟩
theorem bp (hr:w.ownsRow 0 e sz v n xs) (hb:Below w.heap.size w w'):w'.ownsRow 0 e sz v n xs:=
 (Kp.of_below (S:=fun _=>False) hb).row hr (fun _ _ h=>h)
def cU:Nat->List (Nat × Nat)->List UInt8->List UInt8
 |f,[],t=>t.drop f
 |f,(a,n) :: r,t=>(t.drop f).take (a-f)++(List.replicate n 32++cU a r t)
def nW:Nat->List (Nat × Nat)->Nat->Prop
 |f,[],m=>f<=m
 |f,(a,_) :: r,m=>f<=a/\nW a r m
def cO:List (Nat × Nat)->Nat
 |[]=>0
 | (_,n) :: r=>n+cO r
theorem nW.le {gs:List (Nat × Nat)}(h:nW f gs m):f<=m:=by
 induction gs generalizing f with
 |nil=>exact h
 |cons x r ih=>obtain ⟨a,n⟩:=x;exact QQ h.1 (ih h.2)
theorem nW.more {gs:List (Nat × Nat)}{m':Nat}(h:nW f gs m) (hm:m<=m'):nW f gs m':=by
 induction gs generalizing f with
 |nil=>exact QQ h hm
 |cons x r ih=>obtain ⟨a,n⟩:=x;exact ⟨h.1,ih h.2⟩
theorem nW.snoc {gs:List (Nat × Nat)}(n:Nat) (h:nW f gs m):nW f (gs++[(m,n)]) m:=by
 induction gs generalizing f with
 |nil=>exact ⟨h,gt _⟩
 |cons x r ih=>obtain ⟨a,n⟩:=x;exact ⟨h.1,ih h.2⟩
theorem qw {gs:List (Nat × Nat)}(s:List UInt8) (h:nW f gs t.length):cU f gs (t++s)=cU f gs t++s:=by
 induction gs generalizing f with
 |nil=>simp only [cU];exact Uk h
 |cons x r ih=>
  obtain ⟨a,n⟩:=x;have ha:=h.2.le;simp only [cU];rw [ih h.2,Uk (QQ h.1 ha),RH (by rw [Rf];have:=h.1;omega)];simp [QM]
theorem Aw {gs:List (Nat × Nat)}(n:Nat) (h:nW f gs t.length):cU f (gs++[(t.length,n)]) t=cU f gs t++List.replicate n 32:=by
 induction gs generalizing f with
 |nil=>simp only [cU,Rr];rw [RK (by simp),TF];simp
 |cons x r ih=>
  obtain ⟨a,k⟩:=x;simp only [cU,Rh];rw [ih h.2];simp [QM]
theorem lh {gs:List (Nat × Nat)}(h:nW f gs t.length):(cU f gs t).length=t.length-f+cO gs:=by
 induction gs generalizing f with
 |nil=>simp [cU,cO]
 |cons x r ih=>
  obtain ⟨a,k⟩:=x;have ha:=h.2.le;have h1:=h.1;simp only [cU,cO,Or,SR,Ri,Rf,ih h.2];omega
theorem C6 (a:List (Nat × Nat)) (x n:Nat):cO (a++[(x,n)])=cO a+n:=by
 induction a with
 |nil=>simp [cO]
 |cons y r ih=>obtain ⟨b,k⟩:=y;simp only [Rh,cO,ih];omega
end Go.Proofs.YtjiepkenkcgkhaaGreatDoor
namespace Go.Proofs.YtjiepkenkcgkhaaGreatDoor
open Go.RowKit
variable {w W w':World}{B:Nat}
structure Tv where
 k:Int
 t:ByteArray
 a:Int
 l:Int
 c:Int
 f:Int
deriving DecidableEq
def Tv.v (d:Tv):Value:=.agg #[.int .u8 d.k,.string d.t,.int .i64 d.a,.int .i64 d.l,.int .i64 d.c,.int .i64 d.f]
def Tv.cs (d:Tv):List Value:=[.int .u8 d.k,.string d.t,.int .i64 d.a,.int .i64 d.l,.int .i64 d.c,.int .i64 d.f]
theorem Tv.cs_len (d:Tv):d.cs.length=6:=rfl
theorem Tv.cs_one (d:Tv):∀u∈d.cs,u.oneCell'=true:=by
 intro u hu;simp only [Tv.cs,Rg,Tg,Vr] at hu
 rcases hu with rfl|rfl|rfl|rfl|rfl|rfl <;> rfl
def GE (l:List Tv):List Value:=bz Tv.cs l
theorem Hb (l:List Tv):(GE l).length=l.length*6:=fV Tv.cs 6 Tv.cs_len l
theorem Ha (l:List Tv):∀u∈GE l,u.oneCell'=true:=by
 intro u hu;obtain ⟨d,_,h⟩:=TG.1 hu;exact d.cs_one u h
theorem Hc (a b:List Tv):GE (a++b)=GE a++GE b:=cr Tv.cs a b
def Lt (w:World) (ao:Option Addr) (l:List Tv):Prop:=∀j d,l[j]?=some d->∃b off,ao=some ⟨b,off,none⟩ /\
 w.cell? ⟨b,off+j*6,none⟩=some (.int .u8 d.k)/\w.cell? ⟨b,off+j*6+1,none⟩=some (.string d.t)/\w.cell? ⟨b,off+j*6+2,none⟩=some (.int .i64 d.a)/\w.cell? ⟨b,off+j*6+3,none⟩=some (.int .i64 d.l)/\w.cell? ⟨b,off+j*6+4,none⟩=some (.int .i64 d.c)/\w.cell? ⟨b,off+j*6+5,none⟩=some (.int .i64 d.f)
theorem Lt.kp {S:Nat->Prop}{w w':World}{ao:Option Addr}{l:List Tv}(h:Lt w ao l) (hb:Kp S w w') (hS:∀a,ao=some a->¬S a.block):Lt w' ao l:=by
 intro j a ha;obtain ⟨b,off,h1,c0,c1,c2,c3,c4,c5⟩:=h j a ha;have hlt:=QP _ _ c0;have e:w'.heap[b]?=w.heap[b]?:=hb.block b hlt (hS _ h1);exact ⟨b,off,h1,(QS (a:=⟨b,_,none⟩) e).trans c0,(QS (a:=⟨b,_,none⟩) e).trans c1,(QS (a:=⟨b,_,none⟩) e).trans c2,(QS (a:=⟨b,_,none⟩) e).trans c3,(QS (a:=⟨b,_,none⟩) e).trans c4,(QS (a:=⟨b,_,none⟩) e).trans c5⟩
theorem Lt.below {ao:Option Addr}{l:List Tv}(h:Lt w ao l) (hb:Below w.heap.size w w'):Lt w' ao l:=h.kp (Kp.of_below (S:=fun _=>False) hb) (fun _ _ h=>h)
def Rt (B:Nat) (w:World) (v:Value) (l:List Tv):Prop:=w.ownsRow B 51 6 v l.length (GE l)
theorem LS (B:Nat) (w:World):Rt B w (.slice none 0 0) []:=RR w B 51 6
theorem Rt.shape {v:Value}{l:List Tv}(h:Rt B w v l):∃p cap,v=.slice p l.length cap/\l.length<=cap/\cap<=maxLen:=by
 rcases h.2 with ⟨rfl,h0⟩|⟨b,cap,cur,rfl,_,h3,h4,h5,_⟩
 ·exact ⟨none,0,by rw [h0],by omega,QK _⟩
 ·exact ⟨_,cap,rfl,h4,h5⟩
theorem Rt.own {v:Value}{l:List Tv}(h:Rt B w v l):∀k,v.ownBlock=some k->B<=k:=by
 intro k hk
 rcases h.2 with ⟨rfl,h0⟩|⟨b,cap,cur,rfl,hb,_⟩
 ·cases hk
 ·simp only [Value.ownBlock,Rp] at hk;omega
theorem Rt.below {v:Value}{l:List Tv}(h:Rt B w v l) (hb:Below w.heap.size w w'):Rt B w' v l:=by
 refine ⟨h.1,?_⟩
 rcases h.2 with h1|⟨g,cap,cur,rfl,h2,h3,h4⟩
 ·exact .inl h1
 ·exact .inr ⟨g,cap,cur,rfl,h2,ag h3 hb,h4⟩
theorem Rt.kp {B:Nat}{S:Nat->Prop}{w w':World}{v:Value}{l:List Tv}(h:Rt B w v l) (hb:Kp S w w') (hS:∀k,v.ownBlock=some k->¬S k):Rt B w' v l:=by
 refine ⟨h.1,?_⟩
 rcases h.2 with h1|⟨g,cap,cur,rfl,h2,h3,h4⟩
 ·exact .inl h1
 ·exact .inr ⟨g,cap,cur,rfl,h2,hb.blk h3 (hS g rfl),h4⟩
theorem Rt.ne {v:Value}{l:List Tv}(h:Rt B w v l) {g:Nat}{cs:Array Value}{T:TypeId}{f:Nat × Nat}(hg:w.heap[g]?=some (.cells cs T f)) (hT:T≠51):∀k,v.ownBlock=some k->k≠g:=by
 intro k hk e
 rcases h.2 with ⟨rfl,h0⟩|⟨b,cap,cur,rfl,hb,h3,_⟩
 ·cases hk
 ·simp only [Value.ownBlock,Rp] at hk;subst hk;subst e;rw [hg] at h3;cases h3;exact hT rfl
theorem Lt.row {v:Value}{l:List Tv}(h:Rt B w v l):∃ao cap,v=.slice ao l.length cap/\Lt w ao l/\(ao=none\/∃g,ao=some ⟨g,0,none⟩/\B<=g/\g<w.heap.size)/\l.length<=cap/\cap<=maxLen:=by
 rcases h.2 with ⟨rfl,h0⟩|⟨g,cap,cur,rfl,hb,hg,h3,h4,h5,h6⟩
 ·have:l=[]:=QZ h0;subst this;exact ⟨none,0,rfl,fun j d h=>by simp at h,.inl rfl,QK _,QK _⟩
 ·refine ⟨some ⟨g,0,none⟩,cap,rfl,?_,.inr ⟨g,rfl,hb,aq hg⟩,h3,h4⟩;intro j d hj
  have hc:∀(k:Nat) (u:Value),(GE l)[k]?=some u->w.cell? ⟨g,k,none⟩=some u:=fun k u hu=>by
   have:=h.cells (g:=g) rfl k u hu;rw [SE,QU] at this;exact this
  refine ⟨g,0,rfl,?_,?_,?_,?_,?_,?_⟩
  ·rw [QU];exact hc _ _ (aU Tv.cs 6 Tv.cs_len l j 0 d _ hj rfl)
  ·rw [QU];exact hc _ _ (aU Tv.cs 6 Tv.cs_len l j 1 d _ hj rfl)
  ·rw [QU];exact hc _ _ (aU Tv.cs 6 Tv.cs_len l j 2 d _ hj rfl)
  ·rw [QU];exact hc _ _ (aU Tv.cs 6 Tv.cs_len l j 3 d _ hj rfl)
  ·rw [QU];exact hc _ _ (aU Tv.cs 6 Tv.cs_len l j 4 d _ hj rfl)
  ·rw [QU];exact hc _ _ (aU Tv.cs 6 Tv.cs_len l j 5 d _ hj rfl)
theorem Tryz.info51:(Tryz.prog.info? 51).map (fun i=>(i.zero,i.size,i.bytes))=some (some (.agg #[.int .u8 0,.string ⟨#[]⟩,.int .i64 0,.int .i64 0,.int .i64 0,.int .i64 0]),6,56):=by kernel_rfl
theorem au (w:World) (o:Obj):(w.alloc o).heap[w.heap.size]?=some o:=by show (w.heap.push o)[w.heap.size]?=_;simp
theorem aI {g:Nat}{o:Obj}(h:W.heap[g]?=some o) (o':Obj):(W.alloc o').heap[g]?=some o:=ag h ((hH _ _).alloc (gt _) _)
theorem Kp.sub {S T:Nat->Prop}{w w':World}(h:Kp T w w') (hs:∀k,T k->S k):Kp S w w':=⟨h.os,h.tape,h.output,h.size,fun k hk hS=>h.block k hk (fun ht=>hS (hs k ht))⟩
structure Ev where
 k:Int
 n:Int
 d:Tv
deriving DecidableEq
def Ev.v (e:Ev):Value:=.agg #[.int .u8 e.k,.int .u8 e.n,.int .u8 e.d.k,.string e.d.t,.int .i64 e.d.a,.int .i64 e.d.l,.int .i64 e.d.c,.int .i64 e.d.f]
def Ev.cs (e:Ev):List Value:=[.int .u8 e.k,.int .u8 e.n,.int .u8 e.d.k,.string e.d.t,.int .i64 e.d.a,.int .i64 e.d.l,.int .i64 e.d.c,.int .i64 e.d.f]
theorem Ev.cs_len (e:Ev):e.cs.length=8:=rfl
theorem Ev.cs_one (e:Ev):∀u∈e.cs,u.oneCell'=true:=by
 intro u hu;simp only [Ev.cs,Rg,Tg,Vr] at hu
 rcases hu with rfl|rfl|rfl|rfl|rfl|rfl|rfl|rfl <;> rfl
def wM (l:List Ev):List Value:=bz Ev.cs l
theorem s9 (l:List Ev):(wM l).length=l.length*8:=fV Ev.cs 8 Ev.cs_len l
theorem sZ (l:List Ev):∀u∈wM l,u.oneCell'=true:=by
 intro u hu;obtain ⟨d,_,h⟩:=TG.1 hu;exact d.cs_one u h
theorem tc (a b:List Ev):wM (a++b)=wM a++wM b:=cr Ev.cs a b
def aB:Tv:=⟨0,⟨#[]⟩,0,0,0,0⟩
def Nb (W:World) (v v':Value):Prop:=v'.ownBlock=v.ownBlock\/∃k,v'.ownBlock=some k/\W.heap.size<=k
def Re (W:World) (v:Value) (l:List Ev):Prop:=W.ownsRow 0 94 8 v l.length (wM l)
theorem xn (W:World):Re W (.slice none 0 0) []:=RR W 0 94 8
theorem Re.kp {S:Nat->Prop}{W W':World}{v:Value}{l:List Ev}(h:Re W v l) (hk:Kp S W W') (hS:∀k,v.ownBlock=some k->¬S k):Re W' v l:=hk.row h hS
theorem Re.below {W':World}{v:Value}{l:List Ev}(h:Re W v l) (hb:Below W.heap.size W W'):Re W' v l:=bp h hb
theorem Re.shape {v:Value}{l:List Ev}(h:Re W v l):∃p cap,v=.slice p l.length cap/\l.length<=cap/\cap<=maxLen:=aJ h
theorem Re.ne {v:Value}{l:List Ev}(h:Re W v l) {g:Nat}{cs:Array Value}{T:TypeId}{f:Nat × Nat}(hg:W.heap[g]?=some (.cells cs T f)) (hT:T≠94):∀k,v.ownBlock=some k->k≠g:=fun k hk e=>aM h hg hT (by rw [hk,e])
theorem Tryz.info94:(Tryz.prog.info? 94).map (fun i=>(i.zero,i.size,i.bytes))=some (some (.agg #[.int .u8 0,.int .u8 0,.int .u8 0,.string ⟨#[]⟩,.int .i64 0,.int .i64 0,.int .i64 0,.int .i64 0]),8,64):=by kernel_rfl
theorem Gp {ops:Array Oper}{rest:List Oper}{o:Oper}{a:Act}{Q:Exit->Act->World->Prop}(hgd:o.guard=none) (s x:Operand)
  (ho:o.op=.call { callee:=.builtin .append,args:=#[s,x],argTypes:=#[90,90] }) (v:Value) (l:List Ev) (d:Ev) (hs:a.eval s=v) (hr:Re W v l)
  (g c:Nat) (hx:a.eval x=.slice (some ⟨g,0,none⟩) 1 c) (hg:W.heap[g]?=some (.cells #[.int .u8 d.k,.int .u8 d.n,.int .u8 d.d.k,.string d.d.t,.int .i64 d.d.a,.int .i64 d.d.l,.int .i64 d.d.c,.int .i64 d.d.f] 94 (0,0))) (hl:l.length<=1000000000)
  (h:∀v' w',Re w' v' (l++[d])->W.grownBy w' v.ownBlock->Nb W v v'->wpList Tryz.prog ops Q rest (a.put o.dst v') w'):wpList Tryz.prog ops Q (o :: rest) a W:=by
 obtain ⟨i0,hi,hz0,hz1,hz2⟩:=Sa Tryz.info94;refine RT (P:=Tryz.prog) (w:=W) hgd s x 90 ho 0 94 i0 _ 8 64 UU hi hz0 hz1 hz2 rfl (by decide) v _ _ hs hr ⟨g,0,none⟩ 1 c (wM [d]) hx (by rw [s9];rfl) ?_ (sZ [d]) (by unfold maxLen;omega) (by omega) (QK _) ?_
 ·intro j u hu;refine RW hg j u ?_;have e:wM [d]=[.int .u8 d.k,.int .u8 d.n,.int .u8 d.d.k,.string d.d.t,.int .i64 d.d.a,.int .i64 d.d.l,.int .i64 d.d.c,.int .i64 d.d.f]:=by simp [wM,bz,Ev.cs]
  rw [e] at hu
  simpa using hu
 ·intro v' w' h1 h2 _ h4;refine h v' w' ?_ h2 ?_
  ·unfold Re;rw [Or,tc];exact h1
  ·rcases h4 with h4|h4
   ·exact .inl h4
   ·exact .inr ⟨_,h4,gt _⟩
end Go.Proofs.YtjiepkenkcgkhaaGreatDoor
namespace Go.Proofs.YtjiepkenkcgkhaaGreatDoor.Lx
open Go.ChangeShapes Go.WideShapes Go.ChangeAt Go.RowKit
variable {w w' W:World}
theorem iD {P:Program}:∀(laid:List (String × DataW Unit)) (ps:List MemPlace),DataW.LaidVars P w laid ps->∀n d,(n,d)∈laid ->
  ∃g t cs fuel p,P.globalNamed n=some g/\(P.globals[g]?).map (·.type)=some t/\w.var? P n=some cs/\DataW.trod (fun _=>()) P w 0 (fun _=>true) false fuel t cs.toList=some (d,p)
 |[],_,_,n,d,h=>by cases h
 | (m,e) :: r,ps,⟨g,t,cs,fuel,p,q,h1,h2,h3,h4,h5,_⟩,n,d,h=>by
  rcases Rg.1 h with h|h
  ·cases h;exact ⟨g,t,cs,fuel,p,h1,h2,h3,h4⟩
  ·exact iD r q h5 n d h
def gQ:List (Int × Int × Int):=[(48,57,1),(65,90,2),(95,95,1),(97,122,2),(192,214,2),(216,246,2),(248,591,2),(768,879,1),(913,929,2),(931,974,2),(1024,1119,2),(1488,1514,2),(1568,1610,2),(2308,2361,2),(12353,12438,2),(12449,12538,2),(19968,40959,2),(44032,55203,2),(66560,66639,2),(131072,196607,2)]
def Aa (i:Nat):Int:=(gQ.getD i (0,0,0)).1
def Ci (i:Nat):Int:=(gQ.getD i (0,0,0)).2.1
def NJ (i:Nat):Int:=(gQ.getD i (0,0,0)).2.2
def wG (w:World):Prop:=∀i,i<20->w.cell? ⟨1,i*3,none⟩=some (.int .i64 (Aa i))/\w.cell? ⟨1,i*3+1,none⟩=some (.int .i64 (Ci i))/\w.cell? ⟨1,i*3+2,none⟩=some (.int .i64 (NJ i))
theorem wG.below (h:wG w) (hb:Below w.heap.size w w'):wG w':=by
 intro i hi;obtain ⟨h0,h1,h2⟩:=h i hi;have hz:=QP w _ h0;exact ⟨(hb.cell (p:=⟨1,i*3,none⟩) hz).trans h0,(hb.cell (p:=⟨1,i*3+1,none⟩) hz).trans h1,(hb.cell (p:=⟨1,i*3+2,none⟩) hz).trans h2⟩
theorem xX:(Rows.laid_colophon_class_spans:DataW Unit)=.agg (gQ.map fun x=>.agg [.lit (.int .i64 x.1),.lit (.int .i64 x.2.1),.lit (.int .i64 x.2.2)]):=by kernel_rfl
theorem th {L:List (String × DataW Unit)}(hpl:(L.all fun x=>x.2.handleName?.isNone)=true) (hm:("colophon/class.spans",Rows.laid_colophon_class_spans)∈L) (h:laidMetH Tryz.prog L W):wG W:=by
 rw [SW _ _ _ hpl] at h;obtain ⟨ps,hps,_,_⟩:=h;obtain ⟨g,t,cs,fuel,p,hg,ht,hv,hd⟩:=iD L ps hps _ _ hm;obtain rfl:=Ry ((show Tryz.prog.globalNamed "colophon/class.spans"=some 1 by kernel_rfl).symm.trans hg);obtain rfl:=Ry ((show (Tryz.prog.globals[1]?).map (·.type)=some 239 by kernel_rfl).symm.trans ht);rw [xX] at hd;obtain ⟨xs,m,_,ex,_,hl,hel⟩:=Ul Tryz.underlying239 hd;have c3:Tryz.prog.cellsOf 3=1:=by kernel_rfl
 have c37:Tryz.prog.cellsOf 175=1:=by kernel_rfl
 have cS:Tryz.prog.cellsOf 238=3:=by kernel_rfl
 intro i hi;have hE:=hel i hi;rw [cS,Pi (by omega)] at hE;obtain ⟨y0,y1,y2,n,ey,_,g0,g1,g2⟩:=Deep.trod_struct3 Tryz.underlying238 hE;simp only [c3,c37] at g0 g1 g2;obtain ⟨z0,a0,b0,_⟩:=TC RE g0;obtain ⟨z1,a1,b1,_⟩:=TC RE g1;obtain ⟨z2,a2,b2,_⟩:=TC Tryz.underlying175 g2;have hlen:gQ.length=20:=rfl;have e3:(xs.map (·.1))=gQ.map fun x=>(.agg [.lit (.int .i64 x.1),.lit (.int .i64 x.2.1),.lit (.int .i64 x.2.2)]:DataW Unit):=(U1 (Vo ex).1).symm
 have e4:(xs.map (·.1))[i]?=(gQ.map fun x=>(.agg [.lit (.int .i64 x.1),.lit (.int .i64 x.2.1),.lit (.int .i64 x.2.2)]:DataW Unit))[i]?:=by rw [e3]
 rw [Sk,Sk,Pi (by omega:i<xs.length),Pi (by omega:i<gQ.length),ey,b0,b1,b2] at e4;simp only [SJ,Rp,DataW.agg.injEq,List.cons.injEq,Uv,Lit.int.injEq,true_and,and_true] at e4;obtain ⟨f0,f1,f2⟩:=e4;have hT:gQ.getD i (0,0,0)=gQ[i]:=by rw [List.getD,Pi (show i<gQ.length by omega)];rfl
 have key:∀(o:Nat) (z:Int),o<3->(((cs.toList.drop (i*3)).take 3).drop o).take 1=[.int .i64 z]->W.cell? ⟨1,i*3+o,none⟩=some (.int .i64 z):=by
  intro o z ho hz;rw [TV hg hv (i*3+o)];have h0:((((cs.toList.drop (i*3)).take 3).drop o).take 1)[0]?=some (.int .i64 z):=by rw [hz];rfl
  rw [RI,IO (by omega),RC,RI,IO (by omega),RC] at h0
  simpa using h0
 refine ⟨?_,?_,?_⟩
 ·have:=key 0 z0 (by omega) (by simpa using a0);rw [R7] at this;rw [this,Aa,hT,f0];rfl
 ·have:=key 1 z1 (by omega) (by simpa using a1);rw [this,Ci,hT,f1];rfl
 ·have:=key 2 z2 (by omega) (by simpa using a2);rw [this,NJ,hT,f2];rfl
def dA:List ByteArray:=[⟨#[97,110,100]⟩,⟨#[97,114,114,97,121]⟩,⟨#[98,101,103,105,110]⟩,⟨#[99,111,110,115,116]⟩,⟨#[100,111]⟩,⟨#[101,108,105,102]⟩,⟨#[101,108,115,101]⟩,⟨#[101,110,100]⟩,⟨#[102,111,114]⟩,⟨#[105,102]⟩,⟨#[110,111,116]⟩,⟨#[111,102]⟩,⟨#[111,114]⟩,⟨#[112,114,111,99]⟩,⟨#[112,114,111,103,114,97,109]⟩,⟨#[114,101,99,111,114,100]⟩,⟨#[114,101,112,101,97,116]⟩,⟨#[114,101,116,117,114,110]⟩,⟨#[115,107,105,112]⟩,⟨#[116,104,101,110]⟩,⟨#[116,111]⟩,⟨#[117,110,116,105,108]⟩,⟨#[118,97,114]⟩,⟨#[119,104,105,108,101]⟩]
def Cu (w:World):Prop:=∀i,i<24->w.cell? ⟨4,i,none⟩=some (.string (dA.getD i ByteArray.empty))
theorem Cu.below (h:Cu w) (hb:Below w.heap.size w w'):Cu w':=by
 intro i hi;have h0:=h i hi;exact (hb.cell (p:=⟨4,i,none⟩) (QP w _ h0)).trans h0
theorem wQ:(Rows.laid_colophon_class_words:DataW Unit)=.agg (dA.map fun x=>.lit (.string x.data.toList)):=by kernel_rfl
theorem rC {L:List (String × DataW Unit)}(hpl:(L.all fun x=>x.2.handleName?.isNone)=true) (hm:("colophon/class.words",Rows.laid_colophon_class_words)∈L) (h:laidMetH Tryz.prog L W):Cu W:=by
 rw [SW _ _ _ hpl] at h;obtain ⟨ps,hps,_,_⟩:=h;obtain ⟨g,t,cs,fuel,p,hg,ht,hv,hd⟩:=iD L ps hps _ _ hm;obtain rfl:=Ry ((show Tryz.prog.globalNamed "colophon/class.words"=some 4 by kernel_rfl).symm.trans hg);obtain rfl:=Ry ((show (Tryz.prog.globals[4]?).map (·.type)=some 267 by kernel_rfl).symm.trans ht);rw [wQ] at hd;obtain ⟨xs,m,_,ex,_,hl,hel⟩:=Ul Tryz.underlying267 hd;have c9:Tryz.prog.cellsOf 9=1:=by kernel_rfl
 intro i hi;have hE:=hel i hi;rw [c9,Pi (by omega)] at hE;obtain ⟨s,a0,b0,_⟩:=DataW.trod_string Rz hE;have hlen:dA.length=24:=rfl;have e3:(xs.map (·.1))=dA.map fun x=>(.lit (.string x.data.toList):DataW Unit):=(U1 (Vo ex).1).symm
 have e4:(xs.map (·.1))[i]?=(dA.map fun x=>(.lit (.string x.data.toList):DataW Unit))[i]?:=by rw [e3]
 rw [Sk,Sk,Pi (by omega:i<xs.length),Pi (by omega:i<dA.length),b0] at e4;simp only [SJ,Rp,Uv,Lit.string.injEq] at e4;have hT:dA.getD i ByteArray.empty=dA[i]:=by rw [List.getD,Pi (show i<dA.length by omega)];rfl
 have hs:s=dA[i]:=by
  have:=SQ.1 e4;cases hs:s;cases hx:dA[i];simp_all
 rw [TV hg hv i,hT,<-hs];have h0:(((cs.toList.drop (i*1)).take 1))[0]?=some (.string s):=by rw [a0];rfl
 rw [RI,IO (by omega),RC] at h0
 simpa using h0
def bh:List ByteArray:=[⟨#[58,61]⟩,⟨#[46,46]⟩,⟨#[60,61]⟩,⟨#[62,61]⟩,⟨#[59]⟩,⟨#[46]⟩,⟨#[44]⟩,⟨#[58]⟩,⟨#[61]⟩,⟨#[35]⟩,⟨#[60]⟩,⟨#[62]⟩,⟨#[40]⟩,⟨#[41]⟩,⟨#[91]⟩,⟨#[93]⟩,⟨#[43]⟩,⟨#[45]⟩,⟨#[42]⟩,⟨#[47]⟩,⟨#[37]⟩]
def Cv (w:World):Prop:=∀i,i<21->w.cell? ⟨2,i,none⟩=some (.string (bh.getD i ByteArray.empty))
theorem Cv.below (h:Cv w) (hb:Below w.heap.size w w'):Cv w':=by
 intro i hi;have h0:=h i hi;exact (hb.cell (p:=⟨2,i,none⟩) (QP w _ h0)).trans h0
theorem xa:(Rows.laid_colophon_class_signs:DataW Unit)=.agg (bh.map fun x=>.lit (.string x.data.toList)):=by kernel_rfl
theorem rK {L:List (String × DataW Unit)}(hpl:(L.all fun x=>x.2.handleName?.isNone)=true) (hm:("colophon/class.signs",Rows.laid_colophon_class_signs)∈L) (h:laidMetH Tryz.prog L W):Cv W:=by
 rw [SW _ _ _ hpl] at h;obtain ⟨ps,hps,_,_⟩:=h;obtain ⟨g,t,cs,fuel,p,hg,ht,hv,hd⟩:=iD L ps hps _ _ hm;obtain rfl:=Ry ((show Tryz.prog.globalNamed "colophon/class.signs"=some 2 by kernel_rfl).symm.trans hg);obtain rfl:=Ry ((show (Tryz.prog.globals[2]?).map (·.type)=some 242 by kernel_rfl).symm.trans ht);rw [xa] at hd;obtain ⟨xs,m,_,ex,_,hl,hel⟩:=Ul Tryz.underlying242 hd;have c9:Tryz.prog.cellsOf 9=1:=by kernel_rfl
 intro i hi;have hE:=hel i hi;rw [c9,Pi (by omega)] at hE;obtain ⟨s,a0,b0,_⟩:=DataW.trod_string Rz hE;have hlen:bh.length=21:=rfl;have e3:(xs.map (·.1))=bh.map fun x=>(.lit (.string x.data.toList):DataW Unit):=(U1 (Vo ex).1).symm
 have e4:(xs.map (·.1))[i]?=(bh.map fun x=>(.lit (.string x.data.toList):DataW Unit))[i]?:=by rw [e3]
 rw [Sk,Sk,Pi (by omega:i<xs.length),Pi (by omega:i<bh.length),b0] at e4;simp only [SJ,Rp,Uv,Lit.string.injEq] at e4;have hT:bh.getD i ByteArray.empty=bh[i]:=by rw [List.getD,Pi (show i<bh.length by omega)];rfl
 have hs:s=bh[i]:=by
  have:=SQ.1 e4;cases hs:s;cases hx:bh[i];simp_all
 rw [TV hg hv i,hT,<-hs];have h0:(((cs.toList.drop (i*1)).take 1))[0]?=some (.string s):=by rw [a0];rfl
 rw [RI,IO (by omega),RC] at h0
 simpa using h0
def nX (w:World):Prop:=wG w/\Cu w/\Cv w
theorem nX.below (h:nX w) (hb:Below w.heap.size w w'):nX w':=⟨h.1.below hb,h.2.1.below hb,h.2.2.below hb⟩
theorem vg {L:List (String × DataW Unit)}(hpl:(L.all fun x=>x.2.handleName?.isNone)=true) (h1:("colophon/class.spans",Rows.laid_colophon_class_spans)∈L)
  (h2:("colophon/class.words",Rows.laid_colophon_class_words)∈L) (h3:("colophon/class.signs",Rows.laid_colophon_class_signs)∈L) (h:laidMetH Tryz.prog L W):nX W:=
 ⟨th hpl h1 h,rC hpl h2 h,rK hpl h3 h⟩
end Go.Proofs.YtjiepkenkcgkhaaGreatDoor.Lx
