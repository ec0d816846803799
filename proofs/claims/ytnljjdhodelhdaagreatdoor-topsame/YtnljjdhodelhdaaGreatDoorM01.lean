import Derived.Test.YtnljjdhodelhdaaGreatDoorRows
import Derived.WalkKit
import Derived.WalkSpells
import Derived.WalkLawsBesides
import Derived.WalkSmall
import Derived.Laws.CopyOwn
import Derived.Deep.RegionLaw
import Derived.Maps.AppendAt
import Derived.Lib.AppendStr
import Derived.Deep.AppendLies
import Derived.ProofKit
import Derived.OpenShut
import Derived.Lay
import Derived.Deep.Strs
import Derived.Stop.Joined
import Derived.MakeChecks
set_option linter.unusedVariables false
set_option linter.unusedSimpArgs false
namespace Go.Proofs.YtnljjdhodelhdaaGreatDoor
open Go.RowKit
variable {W w w':World}{i g:Nat}{o:Obj}
abbrev gt:=@Nat.le_refl
abbrev hH:=@Go.RowKit.Below.refl
abbrev Eq:=@if_neg
abbrev IO:=@if_pos
abbrev Or:=@List.length_append
abbrev Pi:=@List.getElem?_eq_getElem
abbrev QU:=@Nat.zero_le
abbrev QV:=@Go.World.block_lt_of_cell?
abbrev QW:=@List.append_assoc
abbrev QX:=@Go.World.size_alloc
abbrev QY:=@List.mem_cons_self
abbrev QZ:=@List.mem_cons_of_mem
abbrev Q0:=@Nat.le_trans
abbrev Q1:=@Bool.and_eq_true
abbrev Q6:=@Go.World.cell?_of_block
abbrev Q7:=@List.getElem?_eq_some_iff
abbrev Q8:=@Nat.zero_add
abbrev Q9:=@decide_eq_true
abbrev Rf:=@decide_eq_false
abbrev Rg:=@Go.bodyPost_ret
abbrev Rh:=@List.eq_nil_of_length_eq_zero
abbrev Ri:=@Bool.or_eq_true
abbrev Rj:=@congrArg
abbrev Rk:=@Nat.lt_of_lt_of_le
abbrev Rm:=@List.mem_append
abbrev Rp:=@Bool.false_eq_true
abbrev Rr:=@beq_eq_false_iff_ne
abbrev Rv:=@Option.map_eq_some_iff
abbrev Rx:=@List.length_drop
abbrev Ry:=@List.length_take
abbrev Rz:=@List.mem_cons
abbrev RA:=@List.cons_append
abbrev RC:=@decide_eq_true_eq
abbrev RD:=@List.any_append
abbrev RE:=@of_decide_eq_true
abbrev RF:=@Option.some.injEq
abbrev RG:=@List.nil_append
abbrev RH:=@Classical.byContradiction
abbrev RI:=@List.append_nil
abbrev RJ:=@Option.some.inj
abbrev RK:=@List.drop_eq_getElem_cons
abbrev RM:=@Go.Proofs.Tryz.underlying3
abbrev RO:=@Go.Proofs.Tryz.underlying9
abbrev RQ:=@Go.IntKind.wrap_i64
abbrev RR:=@List.getElem?_drop
abbrev RT:=@Go.Proofs.Tryz.underlying46
abbrev RU:=@Array.length_toList
abbrev RV:=@List.mem_of_getElem?
abbrev RW:=@List.take_append_of_le_length
abbrev RX:=@List.getElem?_take
abbrev RY:=@List.take_append_drop
abbrev RZ:=@List.take_of_length_le
abbrev R3:=@List.take_length
abbrev R4:=@Nat.le_of_lt
abbrev R5:=@beq_iff_eq
abbrev R6:=@Bool.true_and
abbrev R7:=@if_false
abbrev R8:=@Go.World.ownsRow_nil
abbrev R9:=@Go.wpList_append_own_at
abbrev Sa:=@Go.World.cell?_alloc_lt
abbrev Sc:=@List.map_cons
abbrev Se:=@Go.World.news_of_block
abbrev Sf:=@List.mem_append_right
abbrev Sg:=@List.countP_cons
abbrev Sh:=@List.getElem?_cons_succ
abbrev Sj:=@decide_eq_false_iff_not
abbrev Sk:=@List.append_cancel_left
abbrev Sl:=@Array.getElem?_eq_some_iff
abbrev So:=@Nat.add_zero
abbrev Ss:=@List.drop_eq_nil_of_le
abbrev St:=@Go.info_parts
abbrev Su:=@Array.getElem?_eq_getElem
abbrev Sv:=@List.prefix_rfl
abbrev Sw:=@Nat.add_assoc
abbrev Sz:=@List.any_eq_true
abbrev SC:=@List.getElem?_map
abbrev SE:=@Bool.eq_iff_iff
abbrev SF:=@Go.Proofs.Tryz.underlying124
abbrev SH:=@Int.le_refl
abbrev SI:=@Go.Proofs.Tryz.underlying5
abbrev SJ:=@List.getElem?_append_right
abbrev SL:=@Array.size_modify
abbrev SM:=@List.drop_succ_cons
abbrev SO:=@Go.ByteArray.toList_eq
abbrev SP:=@Go.Proofs.Tryz.ntmps106
abbrev SQ:=@List.map_append
abbrev SR:=@Go.Proofs.Tryz.zeroValue5
abbrev ST:=@List.mem_singleton
abbrev SU:=@Array.toList_inj
abbrev SW:=@decide_eq_decide
abbrev SX:=@Go.Proofs.Tryz.underlying4
abbrev SY:=@if_true
abbrev SZ:=@Go.Addr.add_lit
abbrev S4:=@Bool.and_false
abbrev S5:=@Go.Proofs.Tryz.func106
abbrev S8:=@List.reverse_cons
abbrev S9:=@List.take_add_one
abbrev Ta:=@Bool.not_eq_true'
abbrev Tb:=@Option.map_some
abbrev Tc:=@Array.getD_eq_getD_getElem?
abbrev Td:=@Go.Proofs.Tryz.zeroValue3
abbrev Te:=@Go.Proofs.Tryz.zeroValue9
abbrev Tf:=@List.length_reverse
abbrev Tg:=@List.getD_eq_getElem?_getD
abbrev Th:=@List.drop_length
abbrev Ti:=@List.length_replicate
abbrev Tl:=@List.length_singleton
abbrev Tm:=@Array.getElem_modify_self
abbrev Tn:=@List.getElem?_append_left
abbrev To:=@Go.MakeChecks.laidMetH_plain
abbrev Tp:=@Bool.false_and
abbrev Tq:=@Bool.or_eq_false_iff
abbrev Tr:=@Go.Proofs.Tryz.zeroValue4
abbrev Ts:=@List.takeWhile_append_dropWhile
abbrev Tt:=@Go.callsIn_wide
abbrev Tu:=@Go.Proofs.Tryz.sizeOf5
abbrev Tw:=@Go.Proofs.Tryz.ntmps30
abbrev Ty:=@Go.World.frozen?_alloc_old
abbrev Tz:=@Go.World.ownsRow.cells
abbrev TB:=@List.not_mem_nil
abbrev TC:=@Go.Proofs.Tryz.underlying0
abbrev TD:=@Go.wp_scope_jumps
abbrev TE:=@List.mem_map
abbrev TF:=@Array.getElem?_toList
abbrev TG:=@Go.Proofs.Tryz.zeroValue0
abbrev TH:=@Go.Proofs.Tryz.sizeOf3
abbrev TI:=@Go.Proofs.Tryz.isAgg5
abbrev TJ:=@Go.Proofs.Tryz.sizeOf9
abbrev TK:=@Go.Exit.noGoto_ret
abbrev TM:=@Go.Proofs.Tryz.func30
abbrev TO:=@Int.toNat_natCast
abbrev TQ:=@List.size_toArray
abbrev TR:=@Array.replicate_succ
abbrev TS:=@Array.replicate_zero
abbrev TT:=@Go.DataW.trod_int
abbrev TU:=@List.mem_of_find?_eq_some
abbrev TV:=@List.mem_flatMap
abbrev TW:=@List.append_inj'
abbrev TX:=@Go.step_append_lies
abbrev TY:=@List.all_eq_true
abbrev TZ:=@List.append_toArray
abbrev T1:=@Go.Proofs.Tryz.isAgg3
abbrev T2:=@Go.Proofs.Tryz.isAgg9
abbrev T3:=@Go.leaves_cons
abbrev T4:=@Go.RowKit.Below.size
abbrev T5:=@Go.Proofs.Tryz.sizeOf4
abbrev T6:=@Nat.sub_self
abbrev T7:=@Bool.true_or
abbrev T8:=@Go.RowKit.Below.heap_setCell
abbrev T9:=@Go.World.var?_cell
abbrev Ua:=@List.length_map
abbrev Ub:=@Go.Proofs.Tryz.underlying187
abbrev Uc:=@Nat.add_le_add_iff_left
abbrev Ud:=@Nat.add_sub_cancel
abbrev Ue:=@Go.RowKit.Below.setCell
abbrev Uf:=@Go.Proofs.Tryz.ntmps113
abbrev Ug:=@Nat.add_sub_cancel_left
abbrev Uh:=@of_decide_eq_false
abbrev Ui:=@Array.getElem!_eq_getD
abbrev Uj:=@Go.run_convert_int_string
abbrev Uk:=@Go.World.ownsRow.frozenAt
abbrev Ul:=@List.any_eq_false
abbrev Um:=@List.push_toArray
abbrev Un:=@Go.Proofs.Tryz.isAgg4
abbrev Uo:=@Go.Proofs.Tryz.zeroValue187
abbrev Up:=@Go.Proofs.Tryz.zeroValue124
abbrev Uq:=@Go.setRow_heap
abbrev Ur:=@List.take_take
abbrev Us:=@Go.Sem.run_bind
abbrev Ut:=@getElem!_pos
abbrev Uu:=@Nat.lt_or_ge
abbrev Uv:=@Go.Proofs.Tryz.sizeOf0
abbrev Uw:=@Go.Proofs.Tryz.func113
abbrev Ux:=@Go.Proofs.Tryz.ntmps59
abbrev Uy:=@List.drop_append
abbrev Uz:=@List.drop_append_of_le_length
abbrev UA:=@Go.DataW.trod_array
abbrev UB:=@Option.getD_some
abbrev UC:=@List.mem_of_mem_take
abbrev UD:=@List.mem_append_left
abbrev UE:=@Go.Proofs.Tryz.ntmps128
abbrev UF:=@Go.Proofs.Tryz.ntmps162
abbrev UG:=@List.any_cons
abbrev UH:=@Go.RowKit.Below.drew
abbrev UI:=@List.flatMap_append
abbrev UJ:=@List.take_succ_cons
abbrev UK:=@Go.DataW.lit.injEq
abbrev UL:=@UInt8.toNat_inj
abbrev UM:=@Go.Proofs.Tryz.isAgg0
abbrev UN:=@Go.RowKit.Below.alloc
abbrev UO:=@Go.results_tmp
abbrev UP:=@List.dropWhile_cons
abbrev UQ:=@Go.run_loadVar_row
abbrev UR:=@Go.Proofs.Tryz.func59
abbrev US:=@Nat.succ_mul
abbrev UT:=@List.map_nil
abbrev UU:=@Go.run_next_any
abbrev UV:=@Nat.sub_zero
abbrev UW:=@Prod.ext
abbrev UX:=@Go.Proofs.Tryz.underlying190
abbrev UY:=@Go.Proofs.Tryz.func128
abbrev UZ:=@Go.Proofs.Tryz.underlying131
abbrev U1:=@Go.Proofs.Tryz.underlying133
abbrev U2:=@Go.Proofs.Tryz.func162
abbrev U3:=@Go.Proofs.Tryz.underlying232
abbrev U4:=@List.countP_append
abbrev U5:=@Go.Proofs.Tryz.sizeOf187
abbrev U6:=@Go.Proofs.Tryz.sizeOf124
abbrev U7:=@Go.run_storeCells_at
abbrev U8:=@Go.Proofs.Tryz.underlying60
abbrev U9:=@Go.Proofs.Tryz.underlying21
abbrev Va:=@Go.Proofs.Tryz.zeroValue190
abbrev Vb:=@List.find?_append
abbrev Vc:=@Go.Proofs.Tryz.zeroValue131
abbrev Vd:=@Go.Proofs.Tryz.zeroValue133
abbrev Ve:=@Go.DataW.agg.inj
abbrev Vf:=@ByteArray.ext
abbrev Vg:=@Go.Proofs.Tryz.isAgg187
abbrev Vh:=@Go.Proofs.Tryz.isAgg124
abbrev Vi:=@Bool.and_true
abbrev Vj:=@Bool.false_or
abbrev Vk:=@Go.Proofs.Tryz.ntmps161
abbrev Vl:=@Go.Proofs.Tryz.ntmps154
abbrev Vm:=@Go.Proofs.Tryz.ntmps148
abbrev Vn:=@Go.Proofs.Tryz.zeroValue21
abbrev Vo:=@List.cons_ne_nil
abbrev Vp:=@List.cons.injEq
abbrev Vq:=@Go.run_next_end
abbrev Vr:=@Go.Proofs.Tryz.ntmps14
abbrev Vs:=@Int.natCast_add
abbrev Vt:=@List.map_map
abbrev Vu:=@Nat.min_eq_left
abbrev Vv:=@List.sum_append
abbrev Vw:=@Go.Proofs.Tryz.ntmps12
abbrev Vx:=@List.take_left'
abbrev Vy:=@Go.Proofs.Tryz.func161
abbrev Vz:=@Go.Proofs.Tryz.func154
abbrev VA:=@Go.Proofs.Tryz.func148
abbrev VB:=@List.mem_filter
abbrev VC:=@Go.Proofs.Tryz.ntmps21
abbrev VD:=@Go.Proofs.Tryz.func3
abbrev VE:=@Prod.mk.inj
abbrev VF:=@Go.Proofs.Tryz.func14
abbrev VG:=@Go.Proofs.Tryz.func12
abbrev VH:=@Go.Proofs.Tryz.func21
abbrev VI:=@or_false
abbrev VJ:=@true_and
abbrev VK:=@Ne.symm
theorem mkfn:∀(fn:Fn) (first cap:Array Value) (w:World),(Instr.makeFunc fn first cap).run Tryz.prog w=.ok (.func fn first cap) w:=fun _ _ _ _=>rfl
abbrev Ra:=Calls Tryz.prog
abbrev Rc (W V:World):Prop:=Below W.heap.size W V
theorem ai{p:Prop}(h:p):Hid p:=h
structure Fr (i:Nat) (own own':Nat->Nat) (w w':World):Prop where
 os:w'.os=w.os
 tape:w'.tape=w.tape
 output:w'.output=w.output
 size:w.heap.size<=w'.heap.size
 block:∀k,k<w.heap.size->own k≠i->w'.heap[k]?=w.heap[k]?
 old:∀k,k<w.heap.size->own' k=own k
def Nf (own:Nat->Nat) (w:World):Prop:=∀k,w.heap.size<=k->own k=0
theorem Fr.refl (i:Nat) (own:Nat->Nat) (w:World):Fr i own own w w:=⟨rfl,rfl,rfl,gt _,fun _ _ _=>rfl,fun _ _=>rfl⟩
theorem Fr.of_below {i:Nat}{own:Nat->Nat}{w w':World}(h:Below w.heap.size w w'):Fr i own own w w':=
 ⟨h.os,h.tape,h.output,h.size,fun k hk _=>h.block k hk,fun _ _=>rfl⟩
theorem Fr.below {B:Nat}{own own':Nat->Nat}(h:Fr i own own' w w') (hB:B<=w.heap.size) (ho:∀k,k<B->own k=0) (hi:i≠0):Below B w w':=
 ⟨h.os,h.tape,h.output,h.size,fun k hk=>h.block k (by omega) (by rw [ho k hk];omega)⟩
theorem Fr.cell {i:Nat}{own own':Nat->Nat}{w w':World}(h:Fr i own own' w w') {a:Addr}{v:Value}(hc:w.cell? a=some v) (hi:own a.block≠i):w'.cell? a=some v:=
 (Q6 (h.block a.block (QV w a hc) hi)).trans hc
theorem Nf.below {own:Nat->Nat}(h:Nf own w) (hb:w.heap.size<=w'.heap.size):Nf own w':=fun k hk=>h k (by omega)
theorem af {W:World}{g k:Nat}{cs:Array Value}{T:TypeId}{v:Value}(h:W.heap[g]?=some (.cells cs T (0,0))) (hk:cs[k]?=some v):W.cell? ⟨g,k,none⟩=some v:=by simp [World.cell?,h,hk]
theorem am {W:World}{g k:Nat}{cs:Array Value}{T:TypeId}(h:W.heap[g]?=some (.cells cs T (0,0))):W.frozen? ⟨g,k,none⟩=false:=by simp [World.frozen?,h]
theorem aj {cs:Array Value}{T:TypeId}(h:W.heap[g]?=some (.cells cs T (0,0))) (k:Nat) (v:Value):(W.setCell ⟨g,k,none⟩ v).heap[g]?=some (.cells (cs.setIfInBounds k v) T (0,0)):=by
 obtain ⟨hlt,hk⟩:=Sl.1 h;show (W.heap.modify g _)[g]?=_;rw [Su (by rw [SL];exact hlt),Tm,hk];rfl
theorem aZ {b k:Nat}(h:W.heap[g]?=some o) (hne:g≠b) (v:Value):(W.setCell ⟨b,k,none⟩ v).heap[g]?=some o:=
 (T8 W ⟨b,k,none⟩ v g hne).trans h
theorem au (h:W.heap[g]?=some o):g<W.heap.size:=(Sl.1 h).1
theorem ag {W W':World}{g:Nat}{o:Obj}(h:W.heap[g]?=some o) (hb:Below W.heap.size W W'):W'.heap[g]?=some o:=(hb.block g (au h)).trans h
theorem Fr.set {own own':Nat->Nat}(h:Fr i own own' w W) {g:Nat}(hg:own' g=i) (k:Nat) (v:Value) (hN:∀j,j<w.heap.size->own j≠i->j≠g):Fr i own own' w (W.setCell ⟨g,k,none⟩ v):=
 ⟨h.os,h.tape,h.output,by show _<=(W.heap.modify g _).size;rw [SL];exact h.size,
 fun j hj hi=>(T8 W ⟨g,k,none⟩ v j (hN j hj hi)).trans (h.block j hj hi),h.old⟩
theorem Fr.set' {own:Nat->Nat}(h:Fr i own own w W) {g:Nat}(hg:own g=i) (k:Nat) (v:Value):Fr i own own w (W.setCell ⟨g,k,none⟩ v):=
 h.set hg k v (fun j _ hj e=>hj (by rw [e];exact hg))
section
variable {β:Type} (enc:β->List Value) (sz:Nat)
def bB (zs:List β):List Value:=zs.flatMap enc
theorem gQ (x:β) (zs:List β):bB enc (x :: zs)=enc x++bB enc zs:=rfl
theorem cz (xs zs:List β):bB enc (xs++zs)=bB enc xs++bB enc zs:=by unfold bB;exact UI
variable (hsz:∀x,(enc x).length=sz)
include hsz
theorem f9 (zs:List β):(bB enc zs).length=zs.length*sz:=by
 induction zs with
 |nil=>simp [bB]
 |cons x r ih=>rw [gQ,Or,ih,hsz,List.length_cons,US];omega
theorem lQ:∀(k:Nat) (zs:List β),(bB enc zs).drop (k*sz)=bB enc (zs.drop k)
 |0,zs=>by simp
 |k+1,[]=>by simp [bB]
 |k+1,x :: r=>by
  rw [gQ,Uy,hsz,SM,<-lQ k r,Ss (by rw [hsz,US];omega),RG]
  congr 1;rw [US];omega
theorem rj:∀(k:Nat) (zs:List β),(bB enc zs).take (k*sz)=bB enc (zs.take k)
 |0,zs=>by simp [bB]
 |k+1,[]=>by simp [bB]
 |k+1,x :: r=>by
  rw [gQ,List.take_append,hsz,UJ,gQ,<-rj k r,RZ (by rw [hsz,US];omega)]
  congr 2;rw [US];omega
theorem aV (zs:List β) (k j:Nat) (x:β) (v:Value) (hk:zs[k]?=some x) (hv:(enc x)[j]?=some v):(bB enc zs)[k*sz+j]?=some v:=by
 have h1:(bB enc zs)[k*sz+j]?=((bB enc zs).drop (k*sz))[j]?:=by rw [RR]
 rw [h1,lQ enc sz hsz];obtain ⟨hl,he⟩:=Q7.1 hk;rw [RK hl,he,gQ];rw [Tn (Q7.1 hv).1];exact hv
omit hsz in
end
theorem eE {P:Program}(w:World) (dT sT ty elem:TypeId) (sz g o dLen dCap:Nat) (a:Addr) (sLen sCap:Nat) (cur:Array Value) (t:TypeId) (cs:List Value)
  (hu:P.underlying dT=some (.slice elem)) (hs:(P.info? elem).map (·.size)=some sz)
  (hg:w.heap[g]?=some (.cells cur t (0,0))) (hn:cs.length=Nat.min sLen dLen*sz)
  (hsrc:∀j v,cs[j]?=some v->w.cell? (a.add j)=some v) (hfit:o+cs.length<=cur.size) (h1:∀v∈cs,v.oneCell'=true) :
  (Builtin.copy_ #[dT,sT] ty #[.slice (some ⟨g,o,none⟩) dLen dCap,.slice (some a) sLen sCap]).run P w =
   .ok (goInt (Nat.min sLen dLen)) (w.setRow g (cur.toList.take o++cs++cur.toList.drop (o+cs.length)).toArray):=by
 have hl:=run_loadCells_list (P:=P) w a cs hsrc;have hst:=U7 P g o t cs 0 cur w hg (by simpa using hfit) h1;cases hq:P.info? elem with
 |none=>simp [hq] at hs
 |some i=>
  have hi:i.size=sz:=by simpa [hq] using hs
  simp [Builtin.copy_,run_underlying hu,Builtin.lenOf,Builtin.firstCells,sizeOf,typeInfo,hq,hi,<-hn,hl,hst]
end Go.Proofs.YtnljjdhodelhdaaGreatDoor
namespace Go.Proofs.YtnljjdhodelhdaaGreatDoor
open Go.RowKit
open Go.Lib (strCells strCells_length)
variable {w w':World}{f e sz n m:Nat}{v:Value}{xs:List Value}{t:List UInt8}
def bc (l:List UInt8):List Value:=l.map fun b=>Value.int .u8 b.toNat
theorem NF (l:List UInt8):(bc l).length=l.length:=by simp [bc]
theorem Gz (a b:List UInt8):bc (a++b)=bc a++bc b:=by simp [bc]
theorem ND (l:List UInt8):∀u∈bc l,u.oneCell'=true:=by
 intro u hu;simp only [bc,TE] at hu;obtain ⟨x,_,rfl⟩:=hu;rfl
theorem KD (l:List UInt8) (k:Nat):(bc l).drop k=bc (l.drop k):=by simp [bc]
theorem KC (l:List UInt8) (k:Nat):(bc l).take k=bc (l.take k):=by simp [bc]
theorem iz {P:Program}(w:World) (base:Nat) (t u ty e:TypeId) (i:TypeInfo) (ht:P.underlying t=some (.slice e)) (hu:P.underlying u=some .string) (hi:P.info? e=some i) (hz:i.zero=some (.int .u8 0))
  (hsize:i.size=1) (hby:i.bytes=1) (v:Value) (n:Nat) (xs:List Value) (hown:w.ownsRow base e 1 v n xs) (s:ByteArray)
  (h63:n+s.size<=maxLen) (hbytes:n+s.size<=140737488355328) (hbase:base<=w.heap.size) :
  ∃v' w',(Builtin.append_ #[t,u] ty #[v,.string s]).run P w=.ok v' w'/\w'.ownsRow base e 1 v' (n+s.size) (xs++strCells s)/\w.grownBy w' v.ownBlock/\(v'.ownBlock=v.ownBlock\/v'.ownBlock=some w.heap.size):=by
 obtain ⟨v',w',hr,h1,h2,h3⟩:=Lib.run_append_own_string (P:=P) w base t u ty e i ht hu hi hz hsize hby v n xs hown s h63 hbytes hbase;refine ⟨v',w',hr,h1,h2,?_⟩;have hsmall:n+s.size<=9223372036854775807:=by simp only [maxLen] at h63;omega
 have hxl:xs.length=n:=by simpa using hown.1
 rcases hown.2 with ⟨rfl,rfl⟩|⟨g,cap,cur,rfl,hbg,hg,hnc,hcm,hcs,htake⟩
 ·by_cases hm:s.size=0
  ·left;rw [h3.2 ⟨rfl,hm⟩]
  ·have hr2:=run_append_nil_string (P:=P) w t u ty e i (.int .u8 0) ht hu hi hz s (by omega) (by omega) (by rw [hby];omega);rw [hr2] at hr;injection hr with e1 e2
   right;rw [<-e1];rfl
 ·by_cases hroom:n+s.size<=cap
  ·have hcs':cur.size=cap:=by simpa using hcs
   have hr2:=Lib.run_append_room_string (P:=P) w t u ty e i ht hu hi hsize g n cap cur hg s hroom (by omega);rw [hr2] at hr;injection hr with e1 e2
   left;rw [<-e1];rfl
  ·have holds:∀j u,xs[j]?=some u->w.cell? ((⟨g,0,none⟩:Addr).add j)=some u:=hown.cells (g:=g) rfl;have hr2:=Lib.run_append_grow_string (P:=P) w t u ty e i (.int .u8 0) ht hu hi hz ⟨g,0,none⟩ n cap xs (by rw [hsize];simpa using hxl) holds s (by omega) (by omega) (by rw [hby];exact growslice_fits (by omega) (by omega));rw [hr2] at hr;injection hr with e1 e2
   right;rw [<-e1];rfl
theorem ef {P:Program}{w:World}{ops:Array Oper}{rest:List Oper}{o:Oper}{a:Act}{Q:Exit->Act->World->Prop}(hgd:o.guard=none) (sl x:Operand) (t u:TypeId)
  (ho:o.op=.call { callee:=.builtin .append,args:=#[sl,x],argTypes:=#[t,u] })
  (base:Nat) (e:TypeId) (i:TypeInfo) (ht:P.underlying t=some (.slice e)) (hu:P.underlying u=some .string) (hi:P.info? e=some i) (hz:i.zero=some (.int .u8 0))
  (hsize:i.size=1) (hby:i.bytes=1)
  (v:Value) (n:Nat) (xs:List Value) (hs:a.eval sl=v) (hown:w.ownsRow base e 1 v n xs) (s:ByteArray) (hx:a.eval x=.string s)
  (h63:n+s.size<=maxLen) (hbytes:n+s.size<=140737488355328) (hbase:base<=w.heap.size)
  (h:∀v' w',w'.ownsRow base e 1 v' (n+s.size) (xs++strCells s)->w.grownBy w' v.ownBlock->(v'.ownBlock=v.ownBlock\/v'.ownBlock=some w.heap.size)->wpList P ops Q rest (a.put o.dst v') w'):wpList P ops Q (o :: rest) a w:=by
 refine wpList_plain hgd fun K hK=>?_
 obtain ⟨v',w',hr,h2,h3,h4⟩:=iz (P:=P) w base t u o.type e i ht hu hi hz hsize hby v n xs hown s h63 hbytes hbase;unfold Oper.wp execOp;simp only [ho,resolve,invoke,builtin,Us,Sem.run_pure,Result.andThen_ok,List.map_toArray,Sc,UT,hs,hx,hr];exact hK _ _ (h v' w' h2 h3 h4)
structure Kp (S:Nat->Prop) (w w':World):Prop where
 os:w'.os=w.os
 tape:w'.tape=w.tape
 output:w'.output=w.output
 size:w.heap.size<=w'.heap.size
 block:∀k,k<w.heap.size->¬S k->w'.heap[k]?=w.heap[k]?
theorem Kp.refl (S:Nat->Prop) (w:World):Kp S w w:=⟨rfl,rfl,rfl,gt _,fun _ _ _=>rfl⟩
theorem Kp.trans {S:Nat->Prop}{a b c:World}(h:Kp S a b) (k:Kp S b c):Kp S a c:=
 ⟨k.os.trans h.os,k.tape.trans h.tape,k.output.trans h.output,Q0 h.size k.size,fun j hj hS=>(k.block j (Rk hj h.size) hS).trans (h.block j hj hS)⟩
theorem Kp.step {S T:Nat->Prop}{a b c:World}(h:Kp S a b) (k:Kp T b c) (hT:∀j,j<a.heap.size->T j->S j):Kp S a c:=
 ⟨k.os.trans h.os,k.tape.trans h.tape,k.output.trans h.output,Q0 h.size k.size,fun j hj hS=>(k.block j (Rk hj h.size) (fun ht=>hS (hT j hj ht))).trans (h.block j hj hS)⟩
theorem Kp.of_below {S:Nat->Prop}{w w':World}(h:Below w.heap.size w w'):Kp S w w':=⟨h.os,h.tape,h.output,h.size,fun k hk _=>h.block k hk⟩
theorem Kp.of_grown {row:Option Nat}(h:w.grownBy w' row):Kp (fun k=>some k=row) w w':=⟨h.os,h.tape,h.output,h.size,fun k hk hS=>h.block k hk hS⟩
theorem Kp.set (w:World) (g k:Nat) (v:Value):Kp (fun j=>j=g) w (w.setCell ⟨g,k,none⟩ v):=
 ⟨rfl,rfl,rfl,by show _<=(w.heap.modify g _).size;rw [SL];exact gt _,fun j hj hS=>T8 w ⟨g,k,none⟩ v j hS⟩
theorem Kp.alloc {S:Nat->Prop}{a b:World}(h:Kp S a b) (o:Obj):Kp S a (b.alloc o):=h.step (T:=S) (Kp.of_below ((hH _ _).alloc (gt _) _)) (fun _ _ h=>h)
theorem Kp.same {S:Nat->Prop}{w W W':World}(h:Kp S w W) (h1:W'.heap=W.heap) (h2:W'.os=W.os) (h3:W'.tape=W.tape) (h4:W'.output=W.output):Kp S w W':=
 ⟨h2.trans h.os,h3.trans h.tape,h4.trans h.output,by rw [h1];exact h.size,by rw [h1];exact h.block⟩
theorem Kp.fr {S:Nat->Prop}{i:Nat}{own own':Nat->Nat}(h:Kp S w w') (hS:∀k,k<w.heap.size->S k->own k=i) (ho:∀k,k<w.heap.size->own' k=own k):Fr i own own' w w':=
 ⟨h.os,h.tape,h.output,h.size,fun k hk hi=>h.block k hk (fun hs=>hi (hS k hk hs)),ho⟩
theorem Kp.blk {S:Nat->Prop}{w w':World}(h:Kp S w w') {g:Nat}{o:Obj}(hg:w.heap[g]?=some o) (hS:¬S g):w'.heap[g]?=some o:=(h.block g (au hg) hS).trans hg
theorem Kp.row {S:Nat->Prop}(h:Kp S w w') {e sz n:Nat}{v:Value}{xs:List Value}(hr:w.ownsRow 0 e sz v n xs) (hS:∀k,v.ownBlock=some k->¬S k):w'.ownsRow 0 e sz v n xs:=by
 refine ⟨hr.1,?_⟩
 rcases hr.2 with h1|⟨g,cap,cur,rfl,h2,h3,h4⟩
 ·exact .inl h1
 ·exact .inr ⟨g,cap,cur,rfl,h2,h.blk h3 (hS g rfl),h4⟩
theorem aN {g:Nat}{cs:Array Value}{T:TypeId}{f:Nat × Nat}(hr:w.ownsRow 0 e sz v n xs) (hg:w.heap[g]?=some (.cells cs T f)) (hT:T≠e):v.ownBlock≠some g:=by
 intro h
 rcases hr.2 with ⟨rfl,_⟩|⟨b,cap,cur,rfl,_,h3,_⟩
 ·cases h
 ·simp only [Value.ownBlock,RF] at h;subst h;rw [hg] at h3;injection h3 with h4
  injection h4 with _ h5
  exact hT h5
theorem aK (hr:w.ownsRow 0 e sz v n xs):∃p cap,v=.slice p n cap/\n<=cap/\cap<=maxLen:=by
 rcases hr.2 with ⟨rfl,rfl⟩|⟨b,cap,cur,rfl,_,h3,h4,h5,_⟩
 ·exact ⟨none,0,rfl,gt _,QU _⟩
 ·exact ⟨_,cap,rfl,h4,h5⟩
theorem bu (hr:w.ownsRow 0 e sz v n xs) (hb:Below w.heap.size w w'):w'.ownsRow 0 e sz v n xs:=
 (Kp.of_below (S:=fun _=>False) hb).row hr (fun _ _ h=>h)
def cY:Nat->List (Nat × Nat)->List UInt8->List UInt8
 |f,[],t=>t.drop f
 |f,(a,n) :: r,t=>(t.drop f).take (a-f)++(List.replicate n 32++cY a r t)
def oa:Nat->List (Nat × Nat)->Nat->Prop
 |f,[],m=>f<=m
 |f,(a,_) :: r,m=>f<=a/\oa a r m
def cR:List (Nat × Nat)->Nat
 |[]=>0
 | (_,n) :: r=>n+cR r
theorem oa.le {gs:List (Nat × Nat)}(h:oa f gs m):f<=m:=by
 induction gs generalizing f with
 |nil=>exact h
 |cons x r ih=>obtain ⟨a,n⟩:=x;exact Q0 h.1 (ih h.2)
theorem oa.more {gs:List (Nat × Nat)}{m':Nat}(h:oa f gs m) (hm:m<=m'):oa f gs m':=by
 induction gs generalizing f with
 |nil=>exact Q0 h hm
 |cons x r ih=>obtain ⟨a,n⟩:=x;exact ⟨h.1,ih h.2⟩
theorem oa.snoc {gs:List (Nat × Nat)}(n:Nat) (h:oa f gs m):oa f (gs++[(m,n)]) m:=by
 induction gs generalizing f with
 |nil=>exact ⟨h,gt _⟩
 |cons x r ih=>obtain ⟨a,n⟩:=x;exact ⟨h.1,ih h.2⟩
theorem qD {gs:List (Nat × Nat)}(s:List UInt8) (h:oa f gs t.length):cY f gs (t++s)=cY f gs t++s:=by
 induction gs generalizing f with
 |nil=>simp only [cY];exact Uz h
 |cons x r ih=>
  obtain ⟨a,n⟩:=x;have ha:=h.2.le;simp only [cY];rw [ih h.2,Uz (Q0 h.1 ha),RW (by rw [Rx];have:=h.1;omega)];simp [QW]
theorem AM {gs:List (Nat × Nat)}(n:Nat) (h:oa f gs t.length):cY f (gs++[(t.length,n)]) t=cY f gs t++List.replicate n 32:=by
 induction gs generalizing f with
 |nil=>simp only [cY,RG];rw [RZ (by simp),Th];simp
 |cons x r ih=>
  obtain ⟨a,k⟩:=x;simp only [cY,RA];rw [ih h.2];simp [QW]
theorem li {gs:List (Nat × Nat)}(h:oa f gs t.length):(cY f gs t).length=t.length-f+cR gs:=by
 induction gs generalizing f with
 |nil=>simp [cY,cR]
 |cons x r ih=>
  obtain ⟨a,k⟩:=x;have ha:=h.2.le;have h1:=h.1;simp only [cY,cR,Or,Ti,Ry,Rx,ih h.2];omega
theorem Dr (a:List (Nat × Nat)) (x n:Nat):cR (a++[(x,n)])=cR a+n:=by
 induction a with
 |nil=>simp [cR]
 |cons y r ih=>obtain ⟨b,k⟩:=y;simp only [RA,cR,ih];omega
end Go.Proofs.YtnljjdhodelhdaaGreatDoor
namespace Go.Proofs.YtnljjdhodelhdaaGreatDoor
open Go.RowKit
variable {w W w':World}{B:Nat}
structure Tv where
 k:Int
 t:ByteArray
 a:Int
 l:Int
 c:Int
 f:Int
deriving DecidableEq
def Tv.v (d:Tv):Value:=.agg #[.int .u8 d.k,.string d.t,.int .i64 d.a,.int .i64 d.l,.int .i64 d.c,.int .i64 d.f]
def Tv.cs (d:Tv):List Value:=[.int .u8 d.k,.string d.t,.int .i64 d.a,.int .i64 d.l,.int .i64 d.c,.int .i64 d.f]
theorem Tv.cs_len (d:Tv):d.cs.length=6:=rfl
theorem Tv.cs_one (d:Tv):∀u∈d.cs,u.oneCell'=true:=by
 intro u hu;simp only [Tv.cs,Rz,TB,VI] at hu
 rcases hu with rfl|rfl|rfl|rfl|rfl|rfl <;> rfl
def G0 (l:List Tv):List Value:=bB Tv.cs l
theorem Hv (l:List Tv):(G0 l).length=l.length*6:=f9 Tv.cs 6 Tv.cs_len l
theorem Hu (l:List Tv):∀u∈G0 l,u.oneCell'=true:=by
 intro u hu;obtain ⟨d,_,h⟩:=TV.1 hu;exact d.cs_one u h
theorem Hx (a b:List Tv):G0 (a++b)=G0 a++G0 b:=cz Tv.cs a b
def Lt (w:World) (ao:Option Addr) (l:List Tv):Prop:=∀j d,l[j]?=some d->∃b off,ao=some ⟨b,off,none⟩ /\
 w.cell? ⟨b,off+j*6,none⟩=some (.int .u8 d.k)/\w.cell? ⟨b,off+j*6+1,none⟩=some (.string d.t)/\w.cell? ⟨b,off+j*6+2,none⟩=some (.int .i64 d.a)/\w.cell? ⟨b,off+j*6+3,none⟩=some (.int .i64 d.l)/\w.cell? ⟨b,off+j*6+4,none⟩=some (.int .i64 d.c)/\w.cell? ⟨b,off+j*6+5,none⟩=some (.int .i64 d.f)
theorem Lt.kp {S:Nat->Prop}{w w':World}{ao:Option Addr}{l:List Tv}(h:Lt w ao l) (hb:Kp S w w') (hS:∀a,ao=some a->¬S a.block):Lt w' ao l:=by
 intro j a ha;obtain ⟨b,off,h1,c0,c1,c2,c3,c4,c5⟩:=h j a ha;have hlt:=QV _ _ c0;have e:w'.heap[b]?=w.heap[b]?:=hb.block b hlt (hS _ h1);exact ⟨b,off,h1,(Q6 (a:=⟨b,_,none⟩) e).trans c0,(Q6 (a:=⟨b,_,none⟩) e).trans c1,(Q6 (a:=⟨b,_,none⟩) e).trans c2,(Q6 (a:=⟨b,_,none⟩) e).trans c3,(Q6 (a:=⟨b,_,none⟩) e).trans c4,(Q6 (a:=⟨b,_,none⟩) e).trans c5⟩
theorem Lt.below {ao:Option Addr}{l:List Tv}(h:Lt w ao l) (hb:Below w.heap.size w w'):Lt w' ao l:=h.kp (Kp.of_below (S:=fun _=>False) hb) (fun _ _ h=>h)
def Rt (B:Nat) (w:World) (v:Value) (l:List Tv):Prop:=w.ownsRow B 35 6 v l.length (G0 l)
theorem Mf (B:Nat) (w:World):Rt B w (.slice none 0 0) []:=R8 w B 35 6
theorem Rt.shape {v:Value}{l:List Tv}(h:Rt B w v l):∃p cap,v=.slice p l.length cap/\l.length<=cap/\cap<=maxLen:=by
 rcases h.2 with ⟨rfl,h0⟩|⟨b,cap,cur,rfl,_,h3,h4,h5,_⟩
 ·exact ⟨none,0,by rw [h0],by omega,QU _⟩
 ·exact ⟨_,cap,rfl,h4,h5⟩
theorem Rt.own {v:Value}{l:List Tv}(h:Rt B w v l):∀k,v.ownBlock=some k->B<=k:=by
 intro k hk
 rcases h.2 with ⟨rfl,h0⟩|⟨b,cap,cur,rfl,hb,_⟩
 ·cases hk
 ·simp only [Value.ownBlock,RF] at hk;omega
theorem Rt.below {v:Value}{l:List Tv}(h:Rt B w v l) (hb:Below w.heap.size w w'):Rt B w' v l:=by
 refine ⟨h.1,?_⟩
 rcases h.2 with h1|⟨g,cap,cur,rfl,h2,h3,h4⟩
 ·exact .inl h1
 ·exact .inr ⟨g,cap,cur,rfl,h2,ag h3 hb,h4⟩
theorem Rt.kp {B:Nat}{S:Nat->Prop}{w w':World}{v:Value}{l:List Tv}(h:Rt B w v l) (hb:Kp S w w') (hS:∀k,v.ownBlock=some k->¬S k):Rt B w' v l:=by
 refine ⟨h.1,?_⟩
 rcases h.2 with h1|⟨g,cap,cur,rfl,h2,h3,h4⟩
 ·exact .inl h1
 ·exact .inr ⟨g,cap,cur,rfl,h2,hb.blk h3 (hS g rfl),h4⟩
theorem Rt.ne {v:Value}{l:List Tv}(h:Rt B w v l) {g:Nat}{cs:Array Value}{T:TypeId}{f:Nat × Nat}(hg:w.heap[g]?=some (.cells cs T f)) (hT:T≠35):∀k,v.ownBlock=some k->k≠g:=by
 intro k hk e
 rcases h.2 with ⟨rfl,h0⟩|⟨b,cap,cur,rfl,hb,h3,_⟩
 ·cases hk
 ·simp only [Value.ownBlock,RF] at hk;subst hk;subst e;rw [hg] at h3;cases h3;exact hT rfl
theorem Lt.row {v:Value}{l:List Tv}(h:Rt B w v l):∃ao cap,v=.slice ao l.length cap/\Lt w ao l/\(ao=none\/∃g,ao=some ⟨g,0,none⟩/\B<=g/\g<w.heap.size)/\l.length<=cap/\cap<=maxLen:=by
 rcases h.2 with ⟨rfl,h0⟩|⟨g,cap,cur,rfl,hb,hg,h3,h4,h5,h6⟩
 ·have:l=[]:=Rh h0;subst this;exact ⟨none,0,rfl,fun j d h=>by simp at h,.inl rfl,QU _,QU _⟩
 ·refine ⟨some ⟨g,0,none⟩,cap,rfl,?_,.inr ⟨g,rfl,hb,au hg⟩,h3,h4⟩;intro j d hj
  have hc:∀(k:Nat) (u:Value),(G0 l)[k]?=some u->w.cell? ⟨g,k,none⟩=some u:=fun k u hu=>by
   have:=h.cells (g:=g) rfl k u hu;rw [SZ,Q8] at this;exact this
  refine ⟨g,0,rfl,?_,?_,?_,?_,?_,?_⟩
  ·rw [Q8];exact hc _ _ (aV Tv.cs 6 Tv.cs_len l j 0 d _ hj rfl)
  ·rw [Q8];exact hc _ _ (aV Tv.cs 6 Tv.cs_len l j 1 d _ hj rfl)
  ·rw [Q8];exact hc _ _ (aV Tv.cs 6 Tv.cs_len l j 2 d _ hj rfl)
  ·rw [Q8];exact hc _ _ (aV Tv.cs 6 Tv.cs_len l j 3 d _ hj rfl)
  ·rw [Q8];exact hc _ _ (aV Tv.cs 6 Tv.cs_len l j 4 d _ hj rfl)
  ·rw [Q8];exact hc _ _ (aV Tv.cs 6 Tv.cs_len l j 5 d _ hj rfl)
theorem Tryz.info35:(Tryz.prog.info? 35).map (fun i=>(i.zero,i.size,i.bytes))=some (some (.agg #[.int .u8 0,.string ⟨#[]⟩,.int .i64 0,.int .i64 0,.int .i64 0,.int .i64 0]),6,56):=by kernel_rfl
theorem aq (w:World) (o:Obj):(w.alloc o).heap[w.heap.size]?=some o:=by show (w.heap.push o)[w.heap.size]?=_;simp
theorem aI {g:Nat}{o:Obj}(h:W.heap[g]?=some o) (o':Obj):(W.alloc o').heap[g]?=some o:=ag h ((hH _ _).alloc (gt _) _)
theorem Kp.sub {S T:Nat->Prop}{w w':World}(h:Kp T w w') (hs:∀k,T k->S k):Kp S w w':=⟨h.os,h.tape,h.output,h.size,fun k hk hS=>h.block k hk (fun ht=>hS (hs k ht))⟩
structure Ev where
 k:Int
 n:Int
 d:Tv
deriving DecidableEq
def Ev.v (e:Ev):Value:=.agg #[.int .u8 e.k,.int .u8 e.n,.int .u8 e.d.k,.string e.d.t,.int .i64 e.d.a,.int .i64 e.d.l,.int .i64 e.d.c,.int .i64 e.d.f]
def Ev.cs (e:Ev):List Value:=[.int .u8 e.k,.int .u8 e.n,.int .u8 e.d.k,.string e.d.t,.int .i64 e.d.a,.int .i64 e.d.l,.int .i64 e.d.c,.int .i64 e.d.f]
theorem Ev.cs_len (e:Ev):e.cs.length=8:=rfl
theorem Ev.cs_one (e:Ev):∀u∈e.cs,u.oneCell'=true:=by
 intro u hu;simp only [Ev.cs,Rz,TB,VI] at hu
 rcases hu with rfl|rfl|rfl|rfl|rfl|rfl|rfl|rfl <;> rfl
def wX (l:List Ev):List Value:=bB Ev.cs l
theorem ti (l:List Ev):(wX l).length=l.length*8:=f9 Ev.cs 8 Ev.cs_len l
theorem th (l:List Ev):∀u∈wX l,u.oneCell'=true:=by
 intro u hu;obtain ⟨d,_,h⟩:=TV.1 hu;exact d.cs_one u h
theorem tj (a b:List Ev):wX (a++b)=wX a++wX b:=cz Ev.cs a b
def aC:Tv:=⟨0,⟨#[]⟩,0,0,0,0⟩
def Nb (W:World) (v v':Value):Prop:=v'.ownBlock=v.ownBlock\/∃k,v'.ownBlock=some k/\W.heap.size<=k
def Re (W:World) (v:Value) (l:List Ev):Prop:=W.ownsRow 0 100 8 v l.length (wX l)
theorem xD (W:World):Re W (.slice none 0 0) []:=R8 W 0 100 8
theorem Re.kp {S:Nat->Prop}{W W':World}{v:Value}{l:List Ev}(h:Re W v l) (hk:Kp S W W') (hS:∀k,v.ownBlock=some k->¬S k):Re W' v l:=hk.row h hS
theorem Re.below {W':World}{v:Value}{l:List Ev}(h:Re W v l) (hb:Below W.heap.size W W'):Re W' v l:=bu h hb
theorem Re.shape {v:Value}{l:List Ev}(h:Re W v l):∃p cap,v=.slice p l.length cap/\l.length<=cap/\cap<=maxLen:=aK h
theorem Re.ne {v:Value}{l:List Ev}(h:Re W v l) {g:Nat}{cs:Array Value}{T:TypeId}{f:Nat × Nat}(hg:W.heap[g]?=some (.cells cs T f)) (hT:T≠100):∀k,v.ownBlock=some k->k≠g:=fun k hk e=>aN h hg hT (by rw [hk,e])
theorem Tryz.info100:(Tryz.prog.info? 100).map (fun i=>(i.zero,i.size,i.bytes))=some (some (.agg #[.int .u8 0,.int .u8 0,.int .u8 0,.string ⟨#[]⟩,.int .i64 0,.int .i64 0,.int .i64 0,.int .i64 0]),8,64):=by kernel_rfl
theorem GL {ops:Array Oper}{rest:List Oper}{o:Oper}{a:Act}{Q:Exit->Act->World->Prop}(hgd:o.guard=none) (s x:Operand)
  (ho:o.op=.call { callee:=.builtin .append,args:=#[s,x],argTypes:=#[60,60] }) (v:Value) (l:List Ev) (d:Ev) (hs:a.eval s=v) (hr:Re W v l)
  (g c:Nat) (hx:a.eval x=.slice (some ⟨g,0,none⟩) 1 c) (hg:W.heap[g]?=some (.cells #[.int .u8 d.k,.int .u8 d.n,.int .u8 d.d.k,.string d.d.t,.int .i64 d.d.a,.int .i64 d.d.l,.int .i64 d.d.c,.int .i64 d.d.f] 100 (0,0))) (hl:l.length<=1000000000)
  (h:∀v' w',Re w' v' (l++[d])->W.grownBy w' v.ownBlock->Nb W v v'->wpList Tryz.prog ops Q rest (a.put o.dst v') w'):wpList Tryz.prog ops Q (o :: rest) a W:=by
 obtain ⟨i0,hi,hz0,hz1,hz2⟩:=St Tryz.info100;refine R9 (P:=Tryz.prog) (w:=W) hgd s x 60 ho 0 100 i0 _ 8 64 U8 hi hz0 hz1 hz2 rfl (by decide) v _ _ hs hr ⟨g,0,none⟩ 1 c (wX [d]) hx (by rw [ti];rfl) ?_ (th [d]) (by unfold maxLen;omega) (by omega) (QU _) ?_
 ·intro j u hu;refine Se hg j u ?_;have e:wX [d]=[.int .u8 d.k,.int .u8 d.n,.int .u8 d.d.k,.string d.d.t,.int .i64 d.d.a,.int .i64 d.d.l,.int .i64 d.d.c,.int .i64 d.d.f]:=by simp [wX,bB,Ev.cs]
  rw [e] at hu
  simpa using hu
 ·intro v' w' h1 h2 _ h4;refine h v' w' ?_ h2 ?_
  ·unfold Re;rw [Or,tj];exact h1
  ·rcases h4 with h4|h4
   ·exact .inl h4
   ·exact .inr ⟨_,h4,gt _⟩
end Go.Proofs.YtnljjdhodelhdaaGreatDoor
namespace Go.Proofs.YtnljjdhodelhdaaGreatDoor.Lx
open Go.ChangeShapes Go.WideShapes Go.ChangeAt Go.RowKit
variable {w w' W:World}
theorem iF {P:Program}:∀(laid:List (String × DataW Unit)) (ps:List MemPlace),DataW.LaidVars P w laid ps->∀n d,(n,d)∈laid ->
  ∃g t cs fuel p,P.globalNamed n=some g/\(P.globals[g]?).map (·.type)=some t/\w.var? P n=some cs/\DataW.trod (fun _=>()) P w 0 (fun _=>true) false fuel t cs.toList=some (d,p)
 |[],_,_,n,d,h=>by cases h
 | (m,e) :: r,ps,⟨g,t,cs,fuel,p,q,h1,h2,h3,h4,h5,_⟩,n,d,h=>by
  rcases Rz.1 h with h|h
  ·cases h;exact ⟨g,t,cs,fuel,p,h1,h2,h3,h4⟩
  ·exact iF r q h5 n d h
def gR:List (Int × Int × Int):=[(48,57,1),(65,90,2),(95,95,1),(97,122,2),(192,214,2),(216,246,2),(248,591,2),(768,879,1),(913,929,2),(931,974,2),(1024,1119,2),(1488,1514,2),(1568,1610,2),(2308,2361,2),(12353,12438,2),(12449,12538,2),(19968,40959,2),(44032,55203,2),(66560,66639,2),(131072,196607,2)]
def Au (i:Nat):Int:=(gR.getD i (0,0,0)).1
def CA (i:Nat):Int:=(gR.getD i (0,0,0)).2.1
def N1 (i:Nat):Int:=(gR.getD i (0,0,0)).2.2
def wS (w:World):Prop:=∀i,i<20->w.cell? ⟨1,i*3,none⟩=some (.int .i64 (Au i))/\w.cell? ⟨1,i*3+1,none⟩=some (.int .i64 (CA i))/\w.cell? ⟨1,i*3+2,none⟩=some (.int .i64 (N1 i))
theorem wS.below (h:wS w) (hb:Below w.heap.size w w'):wS w':=by
 intro i hi;obtain ⟨h0,h1,h2⟩:=h i hi;have hz:=QV w _ h0;exact ⟨(hb.cell (p:=⟨1,i*3,none⟩) hz).trans h0,(hb.cell (p:=⟨1,i*3+1,none⟩) hz).trans h1,(hb.cell (p:=⟨1,i*3+2,none⟩) hz).trans h2⟩
theorem yk:(Rows.laid_colophon_class_spans:DataW Unit)=.agg (gR.map fun x=>.agg [.lit (.int .i64 x.1),.lit (.int .i64 x.2.1),.lit (.int .i64 x.2.2)]):=by kernel_rfl
theorem tC {L:List (String × DataW Unit)}(hpl:(L.all fun x=>x.2.handleName?.isNone)=true) (hm:("colophon/class.spans",Rows.laid_colophon_class_spans)∈L) (h:laidMetH Tryz.prog L W):wS W:=by
 rw [To _ _ _ hpl] at h;obtain ⟨ps,hps,_,_⟩:=h;obtain ⟨g,t,cs,fuel,p,hg,ht,hv,hd⟩:=iF L ps hps _ _ hm;obtain rfl:=RJ ((show Tryz.prog.globalNamed "colophon/class.spans"=some 1 by kernel_rfl).symm.trans hg);obtain rfl:=RJ ((show (Tryz.prog.globals[1]?).map (·.type)=some 194 by kernel_rfl).symm.trans ht);rw [yk] at hd;obtain ⟨xs,m,_,ex,_,hl,hel⟩:=UA Tryz.underlying194 hd;have c3:Tryz.prog.cellsOf 3=1:=by kernel_rfl
 have c37:Tryz.prog.cellsOf 145=1:=by kernel_rfl
 have cS:Tryz.prog.cellsOf 193=3:=by kernel_rfl
 intro i hi;have hE:=hel i hi;rw [cS,Pi (by omega)] at hE;obtain ⟨y0,y1,y2,n,ey,_,g0,g1,g2⟩:=Deep.trod_struct3 Tryz.underlying193 hE;simp only [c3,c37] at g0 g1 g2;obtain ⟨z0,a0,b0,_⟩:=TT RM g0;obtain ⟨z1,a1,b1,_⟩:=TT RM g1;obtain ⟨z2,a2,b2,_⟩:=TT Tryz.underlying145 g2;have hlen:gR.length=20:=rfl;have e3:(xs.map (·.1))=gR.map fun x=>(.agg [.lit (.int .i64 x.1),.lit (.int .i64 x.2.1),.lit (.int .i64 x.2.2)]:DataW Unit):=(Ve (VE ex).1).symm
 have e4:(xs.map (·.1))[i]?=(gR.map fun x=>(.agg [.lit (.int .i64 x.1),.lit (.int .i64 x.2.1),.lit (.int .i64 x.2.2)]:DataW Unit))[i]?:=by rw [e3]
 rw [SC,SC,Pi (by omega:i<xs.length),Pi (by omega:i<gR.length),ey,b0,b1,b2] at e4;simp only [Tb,RF,DataW.agg.injEq,Vp,UK,Lit.int.injEq,VJ,and_true] at e4;obtain ⟨f0,f1,f2⟩:=e4;have hT:gR.getD i (0,0,0)=gR[i]:=by rw [List.getD,Pi (show i<gR.length by omega)];rfl
 have key:∀(o:Nat) (z:Int),o<3->(((cs.toList.drop (i*3)).take 3).drop o).take 1=[.int .i64 z]->W.cell? ⟨1,i*3+o,none⟩=some (.int .i64 z):=by
  intro o z ho hz;rw [T9 hg hv (i*3+o)];have h0:((((cs.toList.drop (i*3)).take 3).drop o).take 1)[0]?=some (.int .i64 z):=by rw [hz];rfl
  rw [RX,IO (by omega),RR,RX,IO (by omega),RR] at h0
  simpa using h0
 refine ⟨?_,?_,?_⟩
 ·have:=key 0 z0 (by omega) (by simpa using a0);rw [So] at this;rw [this,Au,hT,f0];rfl
 ·have:=key 1 z1 (by omega) (by simpa using a1);rw [this,CA,hT,f1];rfl
 ·have:=key 2 z2 (by omega) (by simpa using a2);rw [this,N1,hT,f2];rfl
def dG:List ByteArray:=[⟨#[97,110,100]⟩,⟨#[97,114,114,97,121]⟩,⟨#[98,101,103,105,110]⟩,⟨#[99,111,110,115,116]⟩,⟨#[100,111]⟩,⟨#[101,108,105,102]⟩,⟨#[101,108,115,101]⟩,⟨#[101,110,100]⟩,⟨#[102,111,114]⟩,⟨#[105,102]⟩,⟨#[110,111,116]⟩,⟨#[111,102]⟩,⟨#[111,114]⟩,⟨#[112,114,111,99]⟩,⟨#[112,114,111,103,114,97,109]⟩,⟨#[114,101,99,111,114,100]⟩,⟨#[114,101,112,101,97,116]⟩,⟨#[114,101,116,117,114,110]⟩,⟨#[115,107,105,112]⟩,⟨#[116,104,101,110]⟩,⟨#[116,111]⟩,⟨#[117,110,116,105,108]⟩,⟨#[118,97,114]⟩,⟨#[119,104,105,108,101]⟩]
def CN (w:World):Prop:=∀i,i<24->w.cell? ⟨3,i,none⟩=some (.string (dG.getD i ByteArray.empty))
theorem CN.below (h:CN w) (hb:Below w.heap.size w w'):CN w':=by
 intro i hi;have h0:=h i hi;exact (hb.cell (p:=⟨3,i,none⟩) (QV w _ h0)).trans h0
theorem xb:(Rows.laid_colophon_class_words:DataW Unit)=.agg (dG.map fun x=>.lit (.string x.data.toList)):=by kernel_rfl
theorem rH {L:List (String × DataW Unit)}(hpl:(L.all fun x=>x.2.handleName?.isNone)=true) (hm:("colophon/class.words",Rows.laid_colophon_class_words)∈L) (h:laidMetH Tryz.prog L W):CN W:=by
 rw [To _ _ _ hpl] at h;obtain ⟨ps,hps,_,_⟩:=h;obtain ⟨g,t,cs,fuel,p,hg,ht,hv,hd⟩:=iF L ps hps _ _ hm;obtain rfl:=RJ ((show Tryz.prog.globalNamed "colophon/class.words"=some 3 by kernel_rfl).symm.trans hg);obtain rfl:=RJ ((show (Tryz.prog.globals[3]?).map (·.type)=some 257 by kernel_rfl).symm.trans ht);rw [xb] at hd;obtain ⟨xs,m,_,ex,_,hl,hel⟩:=UA Tryz.underlying257 hd;have c9:Tryz.prog.cellsOf 9=1:=by kernel_rfl
 intro i hi;have hE:=hel i hi;rw [c9,Pi (by omega)] at hE;obtain ⟨s,a0,b0,_⟩:=DataW.trod_string RO hE;have hlen:dG.length=24:=rfl;have e3:(xs.map (·.1))=dG.map fun x=>(.lit (.string x.data.toList):DataW Unit):=(Ve (VE ex).1).symm
 have e4:(xs.map (·.1))[i]?=(dG.map fun x=>(.lit (.string x.data.toList):DataW Unit))[i]?:=by rw [e3]
 rw [SC,SC,Pi (by omega:i<xs.length),Pi (by omega:i<dG.length),b0] at e4;simp only [Tb,RF,UK,Lit.string.injEq] at e4;have hT:dG.getD i ByteArray.empty=dG[i]:=by rw [List.getD,Pi (show i<dG.length by omega)];rfl
 have hs:s=dG[i]:=by
  have:=SU.1 e4;cases hs:s;cases hx:dG[i];simp_all
 rw [T9 hg hv i,hT,<-hs];have h0:(((cs.toList.drop (i*1)).take 1))[0]?=some (.string s):=by rw [a0];rfl
 rw [RX,IO (by omega),RR] at h0
 simpa using h0
def bk:List ByteArray:=[⟨#[58,61]⟩,⟨#[46,46]⟩,⟨#[60,61]⟩,⟨#[62,61]⟩,⟨#[59]⟩,⟨#[46]⟩,⟨#[44]⟩,⟨#[58]⟩,⟨#[61]⟩,⟨#[35]⟩,⟨#[60]⟩,⟨#[62]⟩,⟨#[40]⟩,⟨#[41]⟩,⟨#[91]⟩,⟨#[93]⟩,⟨#[43]⟩,⟨#[45]⟩,⟨#[42]⟩,⟨#[47]⟩,⟨#[37]⟩]
def CO (w:World):Prop:=∀i,i<21->w.cell? ⟨2,i,none⟩=some (.string (bk.getD i ByteArray.empty))
theorem CO.below (h:CO w) (hb:Below w.heap.size w w'):CO w':=by
 intro i hi;have h0:=h i hi;exact (hb.cell (p:=⟨2,i,none⟩) (QV w _ h0)).trans h0
theorem xm:(Rows.laid_colophon_class_signs:DataW Unit)=.agg (bk.map fun x=>.lit (.string x.data.toList)):=by kernel_rfl
theorem rR {L:List (String × DataW Unit)}(hpl:(L.all fun x=>x.2.handleName?.isNone)=true) (hm:("colophon/class.signs",Rows.laid_colophon_class_signs)∈L) (h:laidMetH Tryz.prog L W):CO W:=by
 rw [To _ _ _ hpl] at h;obtain ⟨ps,hps,_,_⟩:=h;obtain ⟨g,t,cs,fuel,p,hg,ht,hv,hd⟩:=iF L ps hps _ _ hm;obtain rfl:=RJ ((show Tryz.prog.globalNamed "colophon/class.signs"=some 2 by kernel_rfl).symm.trans hg);obtain rfl:=RJ ((show (Tryz.prog.globals[2]?).map (·.type)=some 198 by kernel_rfl).symm.trans ht);rw [xm] at hd;obtain ⟨xs,m,_,ex,_,hl,hel⟩:=UA Tryz.underlying198 hd;have c9:Tryz.prog.cellsOf 9=1:=by kernel_rfl
 intro i hi;have hE:=hel i hi;rw [c9,Pi (by omega)] at hE;obtain ⟨s,a0,b0,_⟩:=DataW.trod_string RO hE;have hlen:bk.length=21:=rfl;have e3:(xs.map (·.1))=bk.map fun x=>(.lit (.string x.data.toList):DataW Unit):=(Ve (VE ex).1).symm
 have e4:(xs.map (·.1))[i]?=(bk.map fun x=>(.lit (.string x.data.toList):DataW Unit))[i]?:=by rw [e3]
 rw [SC,SC,Pi (by omega:i<xs.length),Pi (by omega:i<bk.length),b0] at e4;simp only [Tb,RF,UK,Lit.string.injEq] at e4;have hT:bk.getD i ByteArray.empty=bk[i]:=by rw [List.getD,Pi (show i<bk.length by omega)];rfl
 have hs:s=bk[i]:=by
  have:=SU.1 e4;cases hs:s;cases hx:bk[i];simp_all
 rw [T9 hg hv i,hT,<-hs];have h0:(((cs.toList.drop (i*1)).take 1))[0]?=some (.string s):=by rw [a0];rfl
 rw [RX,IO (by omega),RR] at h0
 simpa using h0
def qk (w:World):Prop:=wS w/\CN w/\CO w
theorem qk.below (h:qk w) (hb:Below w.heap.size w w'):qk w':=⟨h.1.below hb,h.2.1.below hb,h.2.2.below hb⟩
theorem vC {L:List (String × DataW Unit)}(hpl:(L.all fun x=>x.2.handleName?.isNone)=true) (h1:("colophon/class.spans",Rows.laid_colophon_class_spans)∈L)
  (h2:("colophon/class.words",Rows.laid_colophon_class_words)∈L) (h3:("colophon/class.signs",Rows.laid_colophon_class_signs)∈L) (h:laidMetH Tryz.prog L W):qk W:=
 ⟨tC hpl h1 h,rH hpl h2 h,rR hpl h3 h⟩
end Go.Proofs.YtnljjdhodelhdaaGreatDoor.Lx
