import Derived.Test.YtacohdpndpliaaaGreatDoorRows
import Derived.WalkKit
import Derived.WalkSpells
import Derived.WalkLawsBesides
import Derived.WalkSmall
import Derived.Laws.CopyOwn
import Derived.Deep.RegionLaw
import Derived.Maps.AppendAt
import Derived.Lib.AppendStr
import Derived.Deep.AppendLies
import Derived.ProofKit
import Derived.OpenShut
import Derived.Lay
import Derived.Deep.Strs
import Derived.Stop.Joined
import Derived.MakeChecks
set_option linter.all false
namespace Go.Proofs.YtacohdpndpliaaaGreatDoor
open Go.RowKit
variable {w W w':World}{B g i e m:Nat}{o:Obj}{xs:List Value}{T:TypeId}
abbrev gt:=@Nat.le_refl
abbrev hH:=@Go.RowKit.Below.refl
abbrev Eq:=@if_neg
abbrev IO:=@if_pos
abbrev Or:=@List.length_append
abbrev Pi:=@List.getElem?_eq_getElem
abbrev Qw:=@Nat.zero_le
abbrev Qx:=@Bool.and_eq_true
abbrev Qy:=@Go.World.size_alloc
abbrev Qz:=@List.append_assoc
abbrev QA:=@List.mem_cons_self
abbrev QB:=@List.mem_cons_of_mem
abbrev QC:=@Nat.le_trans
abbrev QD:=@Go.World.block_lt_of_cell?
abbrev QE:=@Go.World.cell?_of_block
abbrev QF:=@decide_eq_true
abbrev QG:=@Nat.zero_add
abbrev QH:=@decide_eq_false
abbrev QI:=@List.getElem?_eq_some_iff
abbrev QJ:=@Bool.or_eq_true
abbrev QK:=@Go.bodyPost_ret
abbrev QL:=@List.eq_nil_of_length_eq_zero
abbrev QM:=@congrArg
abbrev QN:=@Nat.lt_of_lt_of_le
abbrev QO:=@List.mem_append
abbrev QP:=@decide_eq_true_eq
abbrev QQ:=@beq_eq_false_iff_ne
abbrev QR:=@Bool.false_eq_true
abbrev QS:=@of_decide_eq_true
abbrev QT:=@Option.map_eq_some_iff
abbrev QU:=@List.length_drop
abbrev QV:=@List.mem_cons
abbrev QW:=@List.cons_append
abbrev QX:=@List.length_take
abbrev QY:=@List.any_append
abbrev QZ:=@Option.some.injEq
abbrev Q0:=@List.nil_append
abbrev Q1:=@Classical.byContradiction
abbrev Q6:=@List.append_nil
abbrev Q7:=@Option.some.inj
abbrev Q9:=@Go.IntKind.wrap_i64
abbrev Rc:=@decide_eq_false_iff_not
abbrev Rf:=@List.getElem?_drop
abbrev Rh:=@Array.length_toList
abbrev Ri:=@Nat.le_of_lt
abbrev Rj:=@List.drop_eq_getElem_cons
abbrev Rk:=@List.take_append_of_le_length
abbrev Rm:=@List.getElem?_take
abbrev Rp:=@List.take_append_drop
abbrev Rr:=@List.take_of_length_le
abbrev Rv:=@List.take_length
abbrev Rx:=@Go.World.ownsRow_nil
abbrev Ry:=@Go.wpList_append_own_at
abbrev Rz:=@List.mem_of_getElem?
abbrev RA:=@Go.World.cell?_alloc_lt
abbrev RC:=@Bool.true_and
abbrev RD:=@beq_iff_eq
abbrev RE:=@Go.World.news_of_block
abbrev RF:=@Nat.add_zero
abbrev RG:=@List.mem_append_right
abbrev RH:=@List.countP_cons
abbrev RI:=@List.getElem?_cons_succ
abbrev RJ:=@List.append_cancel_left
abbrev RK:=@Array.getElem?_eq_some_iff
abbrev RM:=@if_false
abbrev RO:=@List.drop_eq_nil_of_le
abbrev RQ:=@Go.info_parts
abbrev RR:=@Array.getElem?_eq_getElem
abbrev RT:=@List.prefix_rfl
abbrev RU:=@List.map_cons
abbrev RV:=@Nat.add_assoc
abbrev RW:=@List.any_eq_true
abbrev RX:=@List.getElem?_map
abbrev RZ:=@Int.le_refl
abbrev R3:=@Bool.or_eq_false_iff
abbrev R5:=@Array.size_modify
abbrev R6:=@List.drop_succ_cons
abbrev R8:=@List.map_append
abbrev R9:=@Bool.eq_iff_iff
abbrev Sa:=@Go.Proofs.Tryz.zeroValue5
abbrev Sc:=@List.mem_singleton
abbrev Se:=@decide_eq_decide
abbrev Sg:=@Go.Addr.add_lit
abbrev Sj:=@List.reverse_cons
abbrev Sk:=@Bool.not_eq_true'
abbrev Sl:=@Option.map_some
abbrev Sn:=@Array.getD_eq_getD_getElem?
abbrev So:=@Go.Proofs.Tryz.zeroValue3
abbrev Ss:=@Go.Proofs.Tryz.zeroValue9
abbrev St:=@List.length_reverse
abbrev Su:=@List.getD_eq_getElem?_getD
abbrev Sv:=@Array.toList_inj
abbrev Sw:=@List.length_replicate
abbrev Sz:=@List.length_singleton
abbrev SC:=@Array.getElem_modify_self
abbrev SE:=@Go.MakeChecks.laidMetH_plain
abbrev SF:=@Bool.and_false
abbrev SH:=@List.size_toArray
abbrev SI:=@Go.Proofs.Tryz.zeroValue4
abbrev SJ:=@List.take_add_one
abbrev SL:=@List.takeWhile_append_dropWhile
abbrev SM:=@Go.callsIn_wide
abbrev SN:=@Go.Proofs.Tryz.sizeOf5
abbrev SP:=@Go.ByteArray.toList_eq
abbrev SQ:=@if_true
abbrev SR:=@Go.World.frozen?_alloc_old
abbrev ST:=@Go.World.ownsRow.cells
abbrev SU:=@List.not_mem_nil
abbrev SX:=@Go.wp_scope_jumps
abbrev SY:=@List.mem_map
abbrev SZ:=@Array.getElem?_toList
abbrev S4:=@Go.Proofs.Tryz.zeroValue0
abbrev S5:=@Go.Proofs.Tryz.sizeOf3
abbrev S8:=@Go.Proofs.Tryz.isAgg5
abbrev S9:=@Go.Proofs.Tryz.sizeOf9
abbrev Ta:=@Go.Exit.noGoto_ret
abbrev Tc:=@Int.toNat_natCast
abbrev Td:=@List.getElem?_append_right
abbrev Te:=@Array.replicate_succ
abbrev Tf:=@Array.replicate_zero
abbrev Tg:=@Go.DataW.trod_int
abbrev Th:=@List.mem_of_find?_eq_some
abbrev Ti:=@Bool.false_and
abbrev Tl:=@List.drop_length
abbrev Tm:=@List.mem_flatMap
abbrev Tn:=@List.append_inj'
abbrev To:=@Go.step_append_lies
abbrev Tp:=@List.all_eq_true
abbrev Tq:=@List.append_toArray
abbrev Tr:=@Go.Proofs.Tryz.isAgg3
abbrev Ts:=@Go.Proofs.Tryz.isAgg9
abbrev Tt:=@Go.leaves_cons
abbrev Tu:=@Go.RowKit.Below.size
abbrev Tw:=@Go.Proofs.Tryz.sizeOf4
abbrev Ty:=@Nat.sub_self
abbrev Tz:=@Bool.true_or
abbrev TB:=@Go.RowKit.Below.heap_setCell
abbrev TC:=@Go.World.var?_cell
abbrev TE:=@Nat.add_le_add_iff_left
abbrev TF:=@Nat.add_sub_cancel
abbrev TG:=@Go.RowKit.Below.setCell
abbrev TI:=@Nat.add_sub_cancel_left
abbrev TJ:=@of_decide_eq_false
abbrev TK:=@Array.getElem!_eq_getD
abbrev TM:=@Go.run_convert_int_string
abbrev TO:=@Go.World.ownsRow.frozenAt
abbrev TQ:=@List.any_eq_false
abbrev TR:=@List.push_toArray
abbrev TS:=@Go.Proofs.Tryz.isAgg4
abbrev TT:=@Go.Proofs.Tryz.zeroValue281
abbrev TU:=@Go.Proofs.Tryz.zeroValue161
abbrev TV:=@Go.setRow_heap
abbrev TW:=@List.take_take
abbrev TX:=@Go.Sem.run_bind
abbrev TY:=@getElem!_pos
abbrev TZ:=@Nat.lt_or_ge
abbrev T1:=@Go.Proofs.Tryz.sizeOf0
abbrev T4:=@List.drop_append
abbrev T5:=@List.drop_append_of_le_length
abbrev T6:=@Go.DataW.trod_array
abbrev T7:=@Option.getD_some
abbrev T8:=@List.mem_of_mem_take
abbrev T9:=@List.mem_append_left
abbrev Uc:=@List.any_cons
abbrev Ud:=@Go.RowKit.Below.drew
abbrev Ue:=@List.flatMap_append
abbrev Uf:=@List.take_succ_cons
abbrev Ug:=@Go.DataW.lit.injEq
abbrev Uh:=@UInt8.toNat_inj
abbrev Ui:=@List.length_map
abbrev Uj:=@Go.Proofs.Tryz.isAgg0
abbrev Uk:=@Go.RowKit.Below.alloc
abbrev Ul:=@Go.results_tmp
abbrev Um:=@List.dropWhile_cons
abbrev Un:=@Go.run_loadVar_row
abbrev Up:=@Nat.succ_mul
abbrev Uq:=@List.map_nil
abbrev Ur:=@Go.run_next_any
abbrev Us:=@Nat.sub_zero
abbrev Ut:=@Prod.ext
abbrev UA:=@List.countP_append
abbrev UB:=@Go.Proofs.Tryz.sizeOf281
abbrev UC:=@Go.Proofs.Tryz.sizeOf161
abbrev UD:=@Go.wp_loop_rounds
abbrev UE:=@Go.run_storeCells_at
abbrev UH:=@Go.Proofs.Tryz.zeroValue284
abbrev UI:=@List.find?_append
abbrev UJ:=@Go.Proofs.Tryz.zeroValue191
abbrev UK:=@Go.Proofs.Tryz.zeroValue193
abbrev UM:=@Go.DataW.agg.inj
abbrev UN:=@ByteArray.ext
abbrev UO:=@Go.Proofs.Tryz.isAgg281
abbrev UP:=@Go.Proofs.Tryz.isAgg161
abbrev UQ:=@Go.rounds_succ
abbrev UR:=@Bool.and_true
abbrev US:=@Bool.false_or
abbrev UW:=@Go.Proofs.Tryz.zeroValue21
abbrev UX:=@List.cons_ne_nil
abbrev UY:=@Go.run_next_end
abbrev U1:=@Int.natCast_add
abbrev U2:=@List.map_map
abbrev U3:=@Nat.min_eq_left
abbrev U4:=@List.sum_append
abbrev U6:=@List.take_left'
abbrev Va:=@Prod.mk.inj
abbrev Vf:=@or_false
abbrev Vg:=@Ne.symm
theorem mkfn:∀(fn:Fn) (first cap:Array Value) (w:World),(Instr.makeFunc fn first cap).run Tryz.prog w=.ok (.func fn first cap) w:=fun _ _ _ _=>rfl
abbrev Qu:=Calls Tryz.prog
abbrev Qv (W V:World):Prop:=Below W.heap.size W V
theorem ai{p:Prop}(h:p):Hid p:=h
structure Fr (i:Nat) (own own':Nat->Nat) (w w':World):Prop where
 os:w'.os=w.os
 tape:w'.tape=w.tape
 output:w'.output=w.output
 size:w.heap.size<=w'.heap.size
 block:∀k,k<w.heap.size->own k≠i->w'.heap[k]?=w.heap[k]?
 old:∀k,k<w.heap.size->own' k=own k
def Nf (own:Nat->Nat) (w:World):Prop:=∀k,w.heap.size<=k->own k=0
theorem Fr.refl (i:Nat) (own:Nat->Nat) (w:World):Fr i own own w w:=⟨rfl,rfl,rfl,gt _,fun _ _ _=>rfl,fun _ _=>rfl⟩
theorem Fr.of_below {i:Nat}{own:Nat->Nat}{w w':World}(h:Below w.heap.size w w'):Fr i own own w w':=
 ⟨h.os,h.tape,h.output,h.size,fun k hk _=>h.block k hk,fun _ _=>rfl⟩
theorem Fr.below {own own':Nat->Nat}(h:Fr i own own' w w') (hB:B<=w.heap.size) (ho:∀k,k<B->own k=0) (hi:i≠0):Below B w w':=
 ⟨h.os,h.tape,h.output,h.size,fun k hk=>h.block k (by omega) (by rw [ho k hk];omega)⟩
theorem Fr.cell {i:Nat}{own own':Nat->Nat}{w w':World}(h:Fr i own own' w w') {a:Addr}{v:Value}(hc:w.cell? a=some v) (hi:own a.block≠i):w'.cell? a=some v:=
 (QE (h.block a.block (QD w a hc) hi)).trans hc
theorem Nf.below {own:Nat->Nat}(h:Nf own w) (hb:w.heap.size<=w'.heap.size):Nf own w':=fun k hk=>h k (by omega)
theorem af {W:World}{g k:Nat}{cs:Array Value}{T:TypeId}{v:Value}(h:W.heap[g]?=some (.cells cs T (0,0))) (hk:cs[k]?=some v):W.cell? ⟨g,k,none⟩=some v:=by simp [World.cell?,h,hk]
theorem am {W:World}{g k:Nat}{cs:Array Value}{T:TypeId}(h:W.heap[g]?=some (.cells cs T (0,0))):W.frozen? ⟨g,k,none⟩=false:=by simp [World.frozen?,h]
theorem aj {cs:Array Value}(h:W.heap[g]?=some (.cells cs T (0,0))) (k:Nat) (v:Value):(W.setCell ⟨g,k,none⟩ v).heap[g]?=some (.cells (cs.setIfInBounds k v) T (0,0)):=by
 obtain ⟨hlt,hk⟩:=RK.1 h;show (W.heap.modify g _)[g]?=_;rw [RR (by rw [R5];exact hlt),SC,hk];rfl
theorem aU {b k:Nat}(h:W.heap[g]?=some o) (hne:g≠b) (v:Value):(W.setCell ⟨b,k,none⟩ v).heap[g]?=some o:=
 (TB W ⟨b,k,none⟩ v g hne).trans h
theorem aq (h:W.heap[g]?=some o):g<W.heap.size:=(RK.1 h).1
theorem ag {W W':World}{g:Nat}{o:Obj}(h:W.heap[g]?=some o) (hb:Below W.heap.size W W'):W'.heap[g]?=some o:=(hb.block g (aq h)).trans h
theorem Fr.set {own own':Nat->Nat}(h:Fr i own own' w W) {g:Nat}(hg:own' g=i) (k:Nat) (v:Value) (hN:∀j,j<w.heap.size->own j≠i->j≠g):Fr i own own' w (W.setCell ⟨g,k,none⟩ v):=
 ⟨h.os,h.tape,h.output,by show _<=(W.heap.modify g _).size;rw [R5];exact h.size,
 fun j hj hi=>(TB W ⟨g,k,none⟩ v j (hN j hj hi)).trans (h.block j hj hi),h.old⟩
theorem Fr.set' {own:Nat->Nat}(h:Fr i own own w W) {g:Nat}(hg:own g=i) (k:Nat) (v:Value):Fr i own own w (W.setCell ⟨g,k,none⟩ v):=
 h.set hg k v (fun j _ hj e=>hj (by rw [e];exact hg))
section
variable {β:Type} (enc:β->List Value) (sz:Nat)
def bA (zs:List β):List Value:=zs.flatMap enc
theorem gR (x:β) (zs:List β):bA enc (x :: zs)=enc x++bA enc zs:=rfl
theorem cA (xs zs:List β):bA enc (xs++zs)=bA enc xs++bA enc zs:=by unfold bA;exact Ue
variable (hsz:∀x,(enc x).length=sz)
include hsz
theorem fW (zs:List β):(bA enc zs).length=zs.length*sz:=by
 induction zs with
 |nil=>simp [bA]
 |cons x r ih=>rw [gR,Or,ih,hsz,List.length_cons,Up];omega
theorem lU:∀(k:Nat) (zs:List β),(bA enc zs).drop (k*sz)=bA enc (zs.drop k)
 |0,zs=>by simp
 |k+1,[]=>by simp [bA]
 |k+1,x :: r=>by
  rw [gR,T4,hsz,R6,<-lU k r,RO (by rw [hsz,Up];omega),Q0]
  congr 1;rw [Up];omega
theorem ry:∀(k:Nat) (zs:List β),(bA enc zs).take (k*sz)=bA enc (zs.take k)
 |0,zs=>by simp [bA]
 |k+1,[]=>by simp [bA]
 |k+1,x :: r=>by
  rw [gR,List.take_append,hsz,Uf,gR,<-ry k r,Rr (by rw [hsz,Up];omega)]
  congr 2;rw [Up];omega
theorem aW (zs:List β) (k j:Nat) (x:β) (v:Value) (hk:zs[k]?=some x) (hv:(enc x)[j]?=some v):(bA enc zs)[k*sz+j]?=some v:=by
 have h1:(bA enc zs)[k*sz+j]?=((bA enc zs).drop (k*sz))[j]?:=by rw [Rf]
 rw [h1,lU enc sz hsz];obtain ⟨hl,he⟩:=QI.1 hk;rw [Rj hl,he,gR];rw [List.getElem?_append_left (QI.1 hv).1];exact hv
omit hsz in
end
theorem eC {P:Program}(w:World) (dT sT ty elem:TypeId) (sz g o dLen dCap:Nat) (a:Addr) (sLen sCap:Nat) (cur:Array Value) (t:TypeId) (cs:List Value)
  (hu:P.underlying dT=some (.slice elem)) (hs:(P.info? elem).map (·.size)=some sz)
  (hg:w.heap[g]?=some (.cells cur t (0,0))) (hn:cs.length=Nat.min sLen dLen*sz)
  (hsrc:∀j v,cs[j]?=some v->w.cell? (a.add j)=some v) (hfit:o+cs.length<=cur.size) (h1:∀v∈cs,v.oneCell'=true) :
  (Builtin.copy_ #[dT,sT] ty #[.slice (some ⟨g,o,none⟩) dLen dCap,.slice (some a) sLen sCap]).run P w =
   .ok (goInt (Nat.min sLen dLen)) (w.setRow g (cur.toList.take o++cs++cur.toList.drop (o+cs.length)).toArray):=by
 have hl:=run_loadCells_list (P:=P) w a cs hsrc;have hst:=UE P g o t cs 0 cur w hg (by simpa using hfit) h1;cases hq:P.info? elem with
 |none=>simp [hq] at hs
 |some i=>
  have hi:i.size=sz:=by simpa [hq] using hs
  simp [Builtin.copy_,run_underlying hu,Builtin.lenOf,Builtin.firstCells,sizeOf,typeInfo,hq,hi,<-hn,hl,hst]
open Go.Lib (strCells strCells_length)
def bc (l:List UInt8):List Value:=l.map fun b=>Value.int .u8 b.toNat
theorem Nc (l:List UInt8):(bc l).length=l.length:=by simp [bc]
theorem Gj (a b:List UInt8):bc (a++b)=bc a++bc b:=by simp [bc]
theorem Na (l:List UInt8):∀u∈bc l,u.oneCell'=true:=by
 intro u hu;simp only [bc,SY] at hu;obtain ⟨x,_,rfl⟩:=hu;rfl
theorem Kf (l:List UInt8) (k:Nat):(bc l).drop k=bc (l.drop k):=by simp [bc]
theorem Ke (l:List UInt8) (k:Nat):(bc l).take k=bc (l.take k):=by simp [bc]
theorem iA {P:Program}(w:World) (base:Nat) (t u ty e:TypeId) (i:TypeInfo) (ht:P.underlying t=some (.slice e)) (hu:P.underlying u=some .string) (hi:P.info? e=some i) (hz:i.zero=some (.int .u8 0))
  (hsize:i.size=1) (hby:i.bytes=1) (v:Value) (n:Nat) (xs:List Value) (hown:w.ownsRow base e 1 v n xs) (s:ByteArray)
  (h63:n+s.size<=maxLen) (hbytes:n+s.size<=140737488355328) (hbase:base<=w.heap.size) :
  ∃v' w',(Builtin.append_ #[t,u] ty #[v,.string s]).run P w=.ok v' w'/\w'.ownsRow base e 1 v' (n+s.size) (xs++strCells s)/\w.grownBy w' v.ownBlock/\(v'.ownBlock=v.ownBlock\/v'.ownBlock=some w.heap.size):=by
 obtain ⟨v',w',hr,h1,h2,h3⟩:=Lib.run_append_own_string (P:=P) w base t u ty e i ht hu hi hz hsize hby v n xs hown s h63 hbytes hbase;refine ⟨v',w',hr,h1,h2,?_⟩;have hsmall:n+s.size<=9223372036854775807:=by simp only [maxLen] at h63;omega
 have hxl:xs.length=n:=by simpa using hown.1
 rcases hown.2 with ⟨rfl,rfl⟩|⟨g,cap,cur,rfl,hbg,hg,hnc,hcm,hcs,htake⟩
 ·by_cases hm:s.size=0
  ·left;rw [h3.2 ⟨rfl,hm⟩]
  ·have hr2:=run_append_nil_string (P:=P) w t u ty e i (.int .u8 0) ht hu hi hz s (by omega) (by omega) (by rw [hby];omega);rw [hr2] at hr;injection hr with e1 e2
   right;rw [<-e1];rfl
 ·by_cases hroom:n+s.size<=cap
  ·have hcs':cur.size=cap:=by simpa using hcs
   have hr2:=Lib.run_append_room_string (P:=P) w t u ty e i ht hu hi hsize g n cap cur hg s hroom (by omega);rw [hr2] at hr;injection hr with e1 e2
   left;rw [<-e1];rfl
  ·have holds:∀j u,xs[j]?=some u->w.cell? ((⟨g,0,none⟩:Addr).add j)=some u:=hown.cells (g:=g) rfl;have hr2:=Lib.run_append_grow_string (P:=P) w t u ty e i (.int .u8 0) ht hu hi hz ⟨g,0,none⟩ n cap xs (by rw [hsize];simpa using hxl) holds s (by omega) (by omega) (by rw [hby];exact growslice_fits (by omega) (by omega));rw [hr2] at hr;injection hr with e1 e2
   right;rw [<-e1];rfl
theorem dY {P:Program}{w:World}{ops:Array Oper}{rest:List Oper}{o:Oper}{a:Act}{Q:Exit->Act->World->Prop}(hgd:o.guard=none) (sl x:Operand) (t u:TypeId)
  (ho:o.op=.call { callee:=.builtin .append,args:=#[sl,x],argTypes:=#[t,u] })
  (base:Nat) (e:TypeId) (i:TypeInfo) (ht:P.underlying t=some (.slice e)) (hu:P.underlying u=some .string) (hi:P.info? e=some i) (hz:i.zero=some (.int .u8 0))
  (hsize:i.size=1) (hby:i.bytes=1)
  (v:Value) (n:Nat) (xs:List Value) (hs:a.eval sl=v) (hown:w.ownsRow base e 1 v n xs) (s:ByteArray) (hx:a.eval x=.string s)
  (h63:n+s.size<=maxLen) (hbytes:n+s.size<=140737488355328) (hbase:base<=w.heap.size)
  (h:∀v' w',w'.ownsRow base e 1 v' (n+s.size) (xs++strCells s)->w.grownBy w' v.ownBlock->(v'.ownBlock=v.ownBlock\/v'.ownBlock=some w.heap.size)->wpList P ops Q rest (a.put o.dst v') w'):wpList P ops Q (o :: rest) a w:=by
 refine wpList_plain hgd fun K hK=>?_
 obtain ⟨v',w',hr,h2,h3,h4⟩:=iA (P:=P) w base t u o.type e i ht hu hi hz hsize hby v n xs hown s h63 hbytes hbase;unfold Oper.wp execOp;simp only [ho,resolve,invoke,builtin,TX,Sem.run_pure,Result.andThen_ok,List.map_toArray,RU,Uq,hs,hx,hr];exact hK _ _ (h v' w' h2 h3 h4)
structure Kp (S:Nat->Prop) (w w':World):Prop where
 os:w'.os=w.os
 tape:w'.tape=w.tape
 output:w'.output=w.output
 size:w.heap.size<=w'.heap.size
 block:∀k,k<w.heap.size->¬S k->w'.heap[k]?=w.heap[k]?
theorem Kp.refl (S:Nat->Prop) (w:World):Kp S w w:=⟨rfl,rfl,rfl,gt _,fun _ _ _=>rfl⟩
theorem Kp.trans {S:Nat->Prop}{a b c:World}(h:Kp S a b) (k:Kp S b c):Kp S a c:=
 ⟨k.os.trans h.os,k.tape.trans h.tape,k.output.trans h.output,QC h.size k.size,fun j hj hS=>(k.block j (QN hj h.size) hS).trans (h.block j hj hS)⟩
theorem Kp.step {S T:Nat->Prop}{a b c:World}(h:Kp S a b) (k:Kp T b c) (hT:∀j,j<a.heap.size->T j->S j):Kp S a c:=
 ⟨k.os.trans h.os,k.tape.trans h.tape,k.output.trans h.output,QC h.size k.size,fun j hj hS=>(k.block j (QN hj h.size) (fun ht=>hS (hT j hj ht))).trans (h.block j hj hS)⟩
theorem Kp.of_below {S:Nat->Prop}{w w':World}(h:Below w.heap.size w w'):Kp S w w':=⟨h.os,h.tape,h.output,h.size,fun k hk _=>h.block k hk⟩
theorem Kp.of_grown {row:Option Nat}(h:w.grownBy w' row):Kp (fun k=>some k=row) w w':=⟨h.os,h.tape,h.output,h.size,fun k hk hS=>h.block k hk hS⟩
theorem Kp.set (w:World) (g k:Nat) (v:Value):Kp (fun j=>j=g) w (w.setCell ⟨g,k,none⟩ v):=
 ⟨rfl,rfl,rfl,by show _<=(w.heap.modify g _).size;rw [R5];exact gt _,fun j hj hS=>TB w ⟨g,k,none⟩ v j hS⟩
theorem Kp.alloc {S:Nat->Prop}{a b:World}(h:Kp S a b) (o:Obj):Kp S a (b.alloc o):=h.step (T:=S) (Kp.of_below ((hH _ _).alloc (gt _) _)) (fun _ _ h=>h)
theorem Kp.same {S:Nat->Prop}{w W W':World}(h:Kp S w W) (h1:W'.heap=W.heap) (h2:W'.os=W.os) (h3:W'.tape=W.tape) (h4:W'.output=W.output):Kp S w W':=
 ⟨h2.trans h.os,h3.trans h.tape,h4.trans h.output,by rw [h1];exact h.size,by rw [h1];exact h.block⟩
theorem Kp.fr {S:Nat->Prop}{own own':Nat->Nat}(h:Kp S w w') (hS:∀k,k<w.heap.size->S k->own k=i) (ho:∀k,k<w.heap.size->own' k=own k):Fr i own own' w w':=
 ⟨h.os,h.tape,h.output,h.size,fun k hk hi=>h.block k hk (fun hs=>hi (hS k hk hs)),ho⟩
theorem Kp.blk {S:Nat->Prop}{w w':World}(h:Kp S w w') {g:Nat}{o:Obj}(hg:w.heap[g]?=some o) (hS:¬S g):w'.heap[g]?=some o:=(h.block g (aq hg) hS).trans hg
theorem Kp.row {S:Nat->Prop}(h:Kp S w w') {e sz n:Nat}{v:Value}{xs:List Value}(hr:w.ownsRow 0 e sz v n xs) (hS:∀k,v.ownBlock=some k->¬S k):w'.ownsRow 0 e sz v n xs:=by
 refine ⟨hr.1,?_⟩
 rcases hr.2 with h1|⟨g,cap,cur,rfl,h2,h3,h4⟩
 ·exact .inl h1
 ·exact .inr ⟨g,cap,cur,rfl,h2,h.blk h3 (hS g rfl),h4⟩
theorem aM {sz n:Nat}{v:Value}{cs:Array Value}{f:Nat × Nat}(hr:w.ownsRow 0 e sz v n xs) (hg:w.heap[g]?=some (.cells cs T f)) (hT:T≠e):v.ownBlock≠some g:=by
 intro h
 rcases hr.2 with ⟨rfl,_⟩|⟨b,cap,cur,rfl,_,h3,_⟩
 ·cases h
 ·simp only [Value.ownBlock,QZ] at h;subst h;rw [hg] at h3;injection h3 with h4
  injection h4 with _ h5
  exact hT h5
theorem aJ {sz n:Nat}{v:Value}(hr:w.ownsRow 0 e sz v n xs):∃p cap,v=.slice p n cap/\n<=cap/\cap<=maxLen:=by
 rcases hr.2 with ⟨rfl,rfl⟩|⟨b,cap,cur,rfl,_,h3,h4,h5,_⟩
 ·exact ⟨none,0,rfl,gt _,Qw _⟩
 ·exact ⟨_,cap,rfl,h4,h5⟩
theorem bq {sz n:Nat}{v:Value}(hr:w.ownsRow 0 e sz v n xs) (hb:Below w.heap.size w w'):w'.ownsRow 0 e sz v n xs:=
 (Kp.of_below (S:=fun _=>False) hb).row hr (fun _ _ h=>h)
def da:Nat->List (Nat × Nat)->List UInt8->List UInt8
 |f,[],t=>t.drop f
 |f,(a,n) :: r,t=>(t.drop f).take (a-f)++(List.replicate n 32++da a r t)
def og:Nat->List (Nat × Nat)->Nat->Prop
 |f,[],m=>f<=m
 |f,(a,_) :: r,m=>f<=a/\og a r m
def cU:List (Nat × Nat)->Nat
 |[]=>0
 | (_,n) :: r=>n+cU r
theorem og.le {f:Nat}{gs:List (Nat × Nat)}(h:og f gs m):f<=m:=by
 induction gs generalizing f with
 |nil=>exact h
 |cons x r ih=>obtain ⟨a,n⟩:=x;exact QC h.1 (ih h.2)
theorem og.more {f:Nat}{gs:List (Nat × Nat)}{m':Nat}(h:og f gs m) (hm:m<=m'):og f gs m':=by
 induction gs generalizing f with
 |nil=>exact QC h hm
 |cons x r ih=>obtain ⟨a,n⟩:=x;exact ⟨h.1,ih h.2⟩
theorem og.snoc {f:Nat}{gs:List (Nat × Nat)}(n:Nat) (h:og f gs m):og f (gs++[(m,n)]) m:=by
 induction gs generalizing f with
 |nil=>exact ⟨h,gt _⟩
 |cons x r ih=>obtain ⟨a,n⟩:=x;exact ⟨h.1,ih h.2⟩
theorem qH {f:Nat}{gs:List (Nat × Nat)}{t:List UInt8}(s:List UInt8) (h:og f gs t.length):da f gs (t++s)=da f gs t++s:=by
 induction gs generalizing f with
 |nil=>simp only [da];exact T5 h
 |cons x r ih=>
  obtain ⟨a,n⟩:=x;have ha:=h.2.le;simp only [da];rw [ih h.2,T5 (QC h.1 ha),Rk (by rw [QU];have:=h.1;omega)];simp [Qz]
theorem AF {f:Nat}{gs:List (Nat × Nat)}{t:List UInt8}(n:Nat) (h:og f gs t.length):da f (gs++[(t.length,n)]) t=da f gs t++List.replicate n 32:=by
 induction gs generalizing f with
 |nil=>simp only [da,Q0];rw [Rr (by simp),Tl];simp
 |cons x r ih=>
  obtain ⟨a,k⟩:=x;simp only [da,QW];rw [ih h.2];simp [Qz]
theorem lq {f:Nat}{gs:List (Nat × Nat)}{t:List UInt8}(h:og f gs t.length):(da f gs t).length=t.length-f+cU gs:=by
 induction gs generalizing f with
 |nil=>simp [da,cU]
 |cons x r ih=>
  obtain ⟨a,k⟩:=x;have ha:=h.2.le;have h1:=h.1;simp only [da,cU,Or,Sw,QX,QU,ih h.2];omega
theorem Dj (a:List (Nat × Nat)) (x n:Nat):cU (a++[(x,n)])=cU a+n:=by
 induction a with
 |nil=>simp [cU]
 |cons y r ih=>obtain ⟨b,k⟩:=y;simp only [QW,cU,ih];omega
structure Tv where
 k:Int
 t:ByteArray
 a:Int
 l:Int
 c:Int
 f:Int
deriving DecidableEq
def Tv.v (d:Tv):Value:=.agg #[.int .u8 d.k,.string d.t,.int .i64 d.a,.int .i64 d.l,.int .i64 d.c,.int .i64 d.f]
def Tv.cs (d:Tv):List Value:=[.int .u8 d.k,.string d.t,.int .i64 d.a,.int .i64 d.l,.int .i64 d.c,.int .i64 d.f]
theorem Tv.cs_len (d:Tv):d.cs.length=6:=rfl
theorem Tv.cs_one (d:Tv):∀u∈d.cs,u.oneCell'=true:=by
 intro u hu;simp only [Tv.cs,QV,SU,Vf] at hu
 rcases hu with rfl|rfl|rfl|rfl|rfl|rfl <;> rfl
def GK (l:List Tv):List Value:=bA Tv.cs l
theorem Hf (l:List Tv):(GK l).length=l.length*6:=fW Tv.cs 6 Tv.cs_len l
theorem He (l:List Tv):∀u∈GK l,u.oneCell'=true:=by
 intro u hu;obtain ⟨d,_,h⟩:=Tm.1 hu;exact d.cs_one u h
theorem Hh (a b:List Tv):GK (a++b)=GK a++GK b:=cA Tv.cs a b
def Lt (w:World) (ao:Option Addr) (l:List Tv):Prop:=∀j d,l[j]?=some d->∃b off,ao=some ⟨b,off,none⟩ /\
 w.cell? ⟨b,off+j*6,none⟩=some (.int .u8 d.k)/\w.cell? ⟨b,off+j*6+1,none⟩=some (.string d.t)/\w.cell? ⟨b,off+j*6+2,none⟩=some (.int .i64 d.a)/\w.cell? ⟨b,off+j*6+3,none⟩=some (.int .i64 d.l)/\w.cell? ⟨b,off+j*6+4,none⟩=some (.int .i64 d.c)/\w.cell? ⟨b,off+j*6+5,none⟩=some (.int .i64 d.f)
theorem Lt.kp {S:Nat->Prop}{w w':World}{ao:Option Addr}{l:List Tv}(h:Lt w ao l) (hb:Kp S w w') (hS:∀a,ao=some a->¬S a.block):Lt w' ao l:=by
 intro j a ha;obtain ⟨b,off,h1,c0,c1,c2,c3,c4,c5⟩:=h j a ha;have hlt:=QD _ _ c0;have e:w'.heap[b]?=w.heap[b]?:=hb.block b hlt (hS _ h1);exact ⟨b,off,h1,(QE (a:=⟨b,_,none⟩) e).trans c0,(QE (a:=⟨b,_,none⟩) e).trans c1,(QE (a:=⟨b,_,none⟩) e).trans c2,(QE (a:=⟨b,_,none⟩) e).trans c3,(QE (a:=⟨b,_,none⟩) e).trans c4,(QE (a:=⟨b,_,none⟩) e).trans c5⟩
theorem Lt.below {ao:Option Addr}{l:List Tv}(h:Lt w ao l) (hb:Below w.heap.size w w'):Lt w' ao l:=h.kp (Kp.of_below (S:=fun _=>False) hb) (fun _ _ h=>h)
def Rt (B:Nat) (w:World) (v:Value) (l:List Tv):Prop:=w.ownsRow B 53 6 v l.length (GK l)
theorem LQ (B:Nat) (w:World):Rt B w (.slice none 0 0) []:=Rx w B 53 6
theorem Rt.shape {v:Value}{l:List Tv}(h:Rt B w v l):∃p cap,v=.slice p l.length cap/\l.length<=cap/\cap<=maxLen:=by
 rcases h.2 with ⟨rfl,h0⟩|⟨b,cap,cur,rfl,_,h3,h4,h5,_⟩
 ·exact ⟨none,0,by rw [h0],by omega,Qw _⟩
 ·exact ⟨_,cap,rfl,h4,h5⟩
theorem Rt.own {v:Value}{l:List Tv}(h:Rt B w v l):∀k,v.ownBlock=some k->B<=k:=by
 intro k hk
 rcases h.2 with ⟨rfl,h0⟩|⟨b,cap,cur,rfl,hb,_⟩
 ·cases hk
 ·simp only [Value.ownBlock,QZ] at hk;omega
theorem Rt.below {v:Value}{l:List Tv}(h:Rt B w v l) (hb:Below w.heap.size w w'):Rt B w' v l:=by
 refine ⟨h.1,?_⟩
 rcases h.2 with h1|⟨g,cap,cur,rfl,h2,h3,h4⟩
 ·exact .inl h1
 ·exact .inr ⟨g,cap,cur,rfl,h2,ag h3 hb,h4⟩
theorem Rt.kp {B:Nat}{S:Nat->Prop}{w w':World}{v:Value}{l:List Tv}(h:Rt B w v l) (hb:Kp S w w') (hS:∀k,v.ownBlock=some k->¬S k):Rt B w' v l:=by
 refine ⟨h.1,?_⟩
 rcases h.2 with h1|⟨g,cap,cur,rfl,h2,h3,h4⟩
 ·exact .inl h1
 ·exact .inr ⟨g,cap,cur,rfl,h2,hb.blk h3 (hS g rfl),h4⟩
theorem Rt.ne {v:Value}{l:List Tv}(h:Rt B w v l) {g:Nat}{cs:Array Value}{T:TypeId}{f:Nat × Nat}(hg:w.heap[g]?=some (.cells cs T f)) (hT:T≠53):∀k,v.ownBlock=some k->k≠g:=by
 intro k hk e
 rcases h.2 with ⟨rfl,h0⟩|⟨b,cap,cur,rfl,hb,h3,_⟩
 ·cases hk
 ·simp only [Value.ownBlock,QZ] at hk;subst hk;subst e;rw [hg] at h3;cases h3;exact hT rfl
theorem Lt.row {v:Value}{l:List Tv}(h:Rt B w v l):∃ao cap,v=.slice ao l.length cap/\Lt w ao l/\(ao=none\/∃g,ao=some ⟨g,0,none⟩/\B<=g/\g<w.heap.size)/\l.length<=cap/\cap<=maxLen:=by
 rcases h.2 with ⟨rfl,h0⟩|⟨g,cap,cur,rfl,hb,hg,h3,h4,h5,h6⟩
 ·have:l=[]:=QL h0;subst this;exact ⟨none,0,rfl,fun j d h=>by simp at h,.inl rfl,Qw _,Qw _⟩
 ·refine ⟨some ⟨g,0,none⟩,cap,rfl,?_,.inr ⟨g,rfl,hb,aq hg⟩,h3,h4⟩;intro j d hj
  have hc:∀(k:Nat) (u:Value),(GK l)[k]?=some u->w.cell? ⟨g,k,none⟩=some u:=fun k u hu=>by
   have:=h.cells (g:=g) rfl k u hu;rw [Sg,QG] at this;exact this
  refine ⟨g,0,rfl,?_,?_,?_,?_,?_,?_⟩
  ·rw [QG];exact hc _ _ (aW Tv.cs 6 Tv.cs_len l j 0 d _ hj rfl)
  ·rw [QG];exact hc _ _ (aW Tv.cs 6 Tv.cs_len l j 1 d _ hj rfl)
  ·rw [QG];exact hc _ _ (aW Tv.cs 6 Tv.cs_len l j 2 d _ hj rfl)
  ·rw [QG];exact hc _ _ (aW Tv.cs 6 Tv.cs_len l j 3 d _ hj rfl)
  ·rw [QG];exact hc _ _ (aW Tv.cs 6 Tv.cs_len l j 4 d _ hj rfl)
  ·rw [QG];exact hc _ _ (aW Tv.cs 6 Tv.cs_len l j 5 d _ hj rfl)
theorem Tryz.info53:(Tryz.prog.info? 53).map (fun i=>(i.zero,i.size,i.bytes))=some (some (.agg #[.int .u8 0,.string ⟨#[]⟩,.int .i64 0,.int .i64 0,.int .i64 0,.int .i64 0]),6,56):=by kernel_rfl
theorem au (w:World) (o:Obj):(w.alloc o).heap[w.heap.size]?=some o:=by show (w.heap.push o)[w.heap.size]?=_;simp
theorem aI (h:W.heap[g]?=some o) (o':Obj):(W.alloc o').heap[g]?=some o:=ag h ((hH _ _).alloc (gt _) _)
theorem Kp.sub {S T:Nat->Prop}{w w':World}(h:Kp T w w') (hs:∀k,T k->S k):Kp S w w':=⟨h.os,h.tape,h.output,h.size,fun k hk hS=>h.block k hk (fun ht=>hS (hs k ht))⟩
structure Ev where
 k:Int
 n:Int
 d:Tv
deriving DecidableEq
def Ev.v (e:Ev):Value:=.agg #[.int .u8 e.k,.int .u8 e.n,.int .u8 e.d.k,.string e.d.t,.int .i64 e.d.a,.int .i64 e.d.l,.int .i64 e.d.c,.int .i64 e.d.f]
def Ev.cs (e:Ev):List Value:=[.int .u8 e.k,.int .u8 e.n,.int .u8 e.d.k,.string e.d.t,.int .i64 e.d.a,.int .i64 e.d.l,.int .i64 e.d.c,.int .i64 e.d.f]
theorem Ev.cs_len (e:Ev):e.cs.length=8:=rfl
theorem Ev.cs_one (e:Ev):∀u∈e.cs,u.oneCell'=true:=by
 intro u hu;simp only [Ev.cs,QV,SU,Vf] at hu
 rcases hu with rfl|rfl|rfl|rfl|rfl|rfl|rfl|rfl <;> rfl
def wT (l:List Ev):List Value:=bA Ev.cs l
theorem tu (l:List Ev):(wT l).length=l.length*8:=fW Ev.cs 8 Ev.cs_len l
theorem tm (l:List Ev):∀u∈wT l,u.oneCell'=true:=by
 intro u hu;obtain ⟨d,_,h⟩:=Tm.1 hu;exact d.cs_one u h
theorem tz (a b:List Ev):wT (a++b)=wT a++wT b:=cA Ev.cs a b
def aB:Tv:=⟨0,⟨#[]⟩,0,0,0,0⟩
def Nb (W:World) (v v':Value):Prop:=v'.ownBlock=v.ownBlock\/∃k,v'.ownBlock=some k/\W.heap.size<=k
def Re (W:World) (v:Value) (l:List Ev):Prop:=W.ownsRow 0 139 8 v l.length (wT l)
theorem xw (W:World):Re W (.slice none 0 0) []:=Rx W 0 139 8
theorem Re.kp {S:Nat->Prop}{W W':World}{v:Value}{l:List Ev}(h:Re W v l) (hk:Kp S W W') (hS:∀k,v.ownBlock=some k->¬S k):Re W' v l:=hk.row h hS
theorem Re.below {W':World}{v:Value}{l:List Ev}(h:Re W v l) (hb:Below W.heap.size W W'):Re W' v l:=bq h hb
theorem Re.shape {v:Value}{l:List Ev}(h:Re W v l):∃p cap,v=.slice p l.length cap/\l.length<=cap/\cap<=maxLen:=aJ h
theorem Re.ne {v:Value}{l:List Ev}(h:Re W v l) {g:Nat}{cs:Array Value}{T:TypeId}{f:Nat × Nat}(hg:W.heap[g]?=some (.cells cs T f)) (hT:T≠139):∀k,v.ownBlock=some k->k≠g:=fun k hk e=>aM h hg hT (by rw [hk,e])
theorem Tryz.info139:(Tryz.prog.info? 139).map (fun i=>(i.zero,i.size,i.bytes))=some (some (.agg #[.int .u8 0,.int .u8 0,.int .u8 0,.string ⟨#[]⟩,.int .i64 0,.int .i64 0,.int .i64 0,.int .i64 0]),8,64):=by kernel_rfl
theorem Gv {ops:Array Oper}{rest:List Oper}{o:Oper}{a:Act}{Q:Exit->Act->World->Prop}(hgd:o.guard=none) (s x:Operand)
  (ho:o.op=.call { callee:=.builtin .append,args:=#[s,x],argTypes:=#[74,74] }) (v:Value) (l:List Ev) (d:Ev) (hs:a.eval s=v) (hr:Re W v l)
  (g c:Nat) (hx:a.eval x=.slice (some ⟨g,0,none⟩) 1 c) (hg:W.heap[g]?=some (.cells #[.int .u8 d.k,.int .u8 d.n,.int .u8 d.d.k,.string d.d.t,.int .i64 d.d.a,.int .i64 d.d.l,.int .i64 d.d.c,.int .i64 d.d.f] 139 (0,0))) (hl:l.length<=1000000000)
  (h:∀v' w',Re w' v' (l++[d])->W.grownBy w' v.ownBlock->Nb W v v'->wpList Tryz.prog ops Q rest (a.put o.dst v') w'):wpList Tryz.prog ops Q (o :: rest) a W:=by
 obtain ⟨i0,hi,hz0,hz1,hz2⟩:=RQ Tryz.info139;refine Ry (P:=Tryz.prog) (w:=W) hgd s x 74 ho 0 139 i0 _ 8 64 Tryz.underlying74 hi hz0 hz1 hz2 rfl (by decide) v _ _ hs hr ⟨g,0,none⟩ 1 c (wT [d]) hx (by rw [tu];rfl) ?_ (tm [d]) (by unfold maxLen;omega) (by omega) (Qw _) ?_
 ·intro j u hu;refine RE hg j u ?_;have e:wT [d]=[.int .u8 d.k,.int .u8 d.n,.int .u8 d.d.k,.string d.d.t,.int .i64 d.d.a,.int .i64 d.d.l,.int .i64 d.d.c,.int .i64 d.d.f]:=by simp [wT,bA,Ev.cs]
  rw [e] at hu
  simpa using hu
 ·intro v' w' h1 h2 _ h4;refine h v' w' ?_ h2 ?_
  ·unfold Re;rw [Or,tz];exact h1
  ·rcases h4 with h4|h4
   ·exact .inl h4
   ·exact .inr ⟨_,h4,gt _⟩
end Go.Proofs.YtacohdpndpliaaaGreatDoor
namespace Go.Proofs.YtacohdpndpliaaaGreatDoor.Lx
open Go.ChangeShapes Go.WideShapes Go.ChangeAt Go.RowKit
variable {w w' W:World}
theorem iG {P:Program}:∀(laid:List (String × DataW Unit)) (ps:List MemPlace),DataW.LaidVars P w laid ps->∀n d,(n,d)∈laid ->
  ∃g t cs fuel p,P.globalNamed n=some g/\(P.globals[g]?).map (·.type)=some t/\w.var? P n=some cs/\DataW.trod (fun _=>()) P w 0 (fun _=>true) false fuel t cs.toList=some (d,p)
 |[],_,_,n,d,h=>by cases h
 | (m,e) :: r,ps,⟨g,t,cs,fuel,p,q,h1,h2,h3,h4,h5,_⟩,n,d,h=>by
  rcases QV.1 h with h|h
  ·cases h;exact ⟨g,t,cs,fuel,p,h1,h2,h3,h4⟩
  ·exact iG r q h5 n d h
def gS:List (Int × Int × Int):=[(48,57,1),(65,90,2),(95,95,1),(97,122,2),(192,214,2),(216,246,2),(248,591,2),(768,879,1),(913,929,2),(931,974,2),(1024,1119,2),(1488,1514,2),(1568,1610,2),(2308,2361,2),(12353,12438,2),(12449,12538,2),(19968,40959,2),(44032,55203,2),(66560,66639,2),(131072,196607,2)]
def Ai (i:Nat):Int:=(gS.getD i (0,0,0)).1
def Cq (i:Nat):Int:=(gS.getD i (0,0,0)).2.1
def NA (i:Nat):Int:=(gS.getD i (0,0,0)).2.2
def wO (w:World):Prop:=∀i,i<20->w.cell? ⟨1,i*3,none⟩=some (.int .i64 (Ai i))/\w.cell? ⟨1,i*3+1,none⟩=some (.int .i64 (Cq i))/\w.cell? ⟨1,i*3+2,none⟩=some (.int .i64 (NA i))
theorem wO.below (h:wO w) (hb:Below w.heap.size w w'):wO w':=by
 intro i hi;obtain ⟨h0,h1,h2⟩:=h i hi;have hz:=QD w _ h0;exact ⟨(hb.cell (p:=⟨1,i*3,none⟩) hz).trans h0,(hb.cell (p:=⟨1,i*3+1,none⟩) hz).trans h1,(hb.cell (p:=⟨1,i*3+2,none⟩) hz).trans h2⟩
theorem yd:(Rows.laid_colophon_class_spans:DataW Unit)=.agg (gS.map fun x=>.agg [.lit (.int .i64 x.1),.lit (.int .i64 x.2.1),.lit (.int .i64 x.2.2)]):=by kernel_rfl
theorem tG {L:List (String × DataW Unit)}(hpl:(L.all fun x=>x.2.handleName?.isNone)=true) (hm:("colophon/class.spans",Rows.laid_colophon_class_spans)∈L) (h:laidMetH Tryz.prog L W):wO W:=by
 rw [SE _ _ _ hpl] at h;obtain ⟨ps,hps,_,_⟩:=h;obtain ⟨g,t,cs,fuel,p,hg,ht,hv,hd⟩:=iG L ps hps _ _ hm;obtain rfl:=Q7 ((show Tryz.prog.globalNamed "colophon/class.spans"=some 1 by kernel_rfl).symm.trans hg);obtain rfl:=Q7 ((show (Tryz.prog.globals[1]?).map (·.type)=some 333 by kernel_rfl).symm.trans ht);rw [yd] at hd;obtain ⟨xs,m,_,ex,_,hl,hel⟩:=T6 Tryz.underlying333 hd;have c3:Tryz.prog.cellsOf 3=1:=by kernel_rfl
 have c37:Tryz.prog.cellsOf 260=1:=by kernel_rfl
 have cS:Tryz.prog.cellsOf 332=3:=by kernel_rfl
 intro i hi;have hE:=hel i hi;rw [cS,Pi (by omega)] at hE;obtain ⟨y0,y1,y2,n,ey,_,g0,g1,g2⟩:=Deep.trod_struct3 Tryz.underlying332 hE;simp only [c3,c37] at g0 g1 g2;obtain ⟨z0,a0,b0,_⟩:=Tg Tryz.underlying3 g0;obtain ⟨z1,a1,b1,_⟩:=Tg Tryz.underlying3 g1;obtain ⟨z2,a2,b2,_⟩:=Tg Tryz.underlying260 g2;have hlen:gS.length=20:=rfl;have e3:(xs.map (·.1))=gS.map fun x=>(.agg [.lit (.int .i64 x.1),.lit (.int .i64 x.2.1),.lit (.int .i64 x.2.2)]:DataW Unit):=(UM (Va ex).1).symm
 have e4:(xs.map (·.1))[i]?=(gS.map fun x=>(.agg [.lit (.int .i64 x.1),.lit (.int .i64 x.2.1),.lit (.int .i64 x.2.2)]:DataW Unit))[i]?:=by rw [e3]
 rw [RX,RX,Pi (by omega:i<xs.length),Pi (by omega:i<gS.length),ey,b0,b1,b2] at e4;simp only [Sl,QZ,DataW.agg.injEq,List.cons.injEq,Ug,Lit.int.injEq,true_and,and_true] at e4;obtain ⟨f0,f1,f2⟩:=e4;have hT:gS.getD i (0,0,0)=gS[i]:=by rw [List.getD,Pi (show i<gS.length by omega)];rfl
 have key:∀(o:Nat) (z:Int),o<3->(((cs.toList.drop (i*3)).take 3).drop o).take 1=[.int .i64 z]->W.cell? ⟨1,i*3+o,none⟩=some (.int .i64 z):=by
  intro o z ho hz;rw [TC hg hv (i*3+o)];have h0:((((cs.toList.drop (i*3)).take 3).drop o).take 1)[0]?=some (.int .i64 z):=by rw [hz];rfl
  rw [Rm,IO (by omega),Rf,Rm,IO (by omega),Rf] at h0
  simpa using h0
 refine ⟨?_,?_,?_⟩
 ·have:=key 0 z0 (by omega) (by simpa using a0);rw [RF] at this;rw [this,Ai,hT,f0];rfl
 ·have:=key 1 z1 (by omega) (by simpa using a1);rw [this,Cq,hT,f1];rfl
 ·have:=key 2 z2 (by omega) (by simpa using a2);rw [this,NA,hT,f2];rfl
def dD:List ByteArray:=[⟨#[97,110,100]⟩,⟨#[97,114,114,97,121]⟩,⟨#[98,101,103,105,110]⟩,⟨#[99,111,110,115,116]⟩,⟨#[100,111]⟩,⟨#[101,108,105,102]⟩,⟨#[101,108,115,101]⟩,⟨#[101,110,100]⟩,⟨#[102,111,114]⟩,⟨#[105,102]⟩,⟨#[110,111,116]⟩,⟨#[111,102]⟩,⟨#[111,114]⟩,⟨#[112,114,111,99]⟩,⟨#[112,114,111,103,114,97,109]⟩,⟨#[114,101,99,111,114,100]⟩,⟨#[114,101,112,101,97,116]⟩,⟨#[114,101,116,117,114,110]⟩,⟨#[115,107,105,112]⟩,⟨#[116,104,101,110]⟩,⟨#[116,111]⟩,⟨#[117,110,116,105,108]⟩,⟨#[118,97,114]⟩,⟨#[119,104,105,108,101]⟩]
def CE (w:World):Prop:=∀i,i<24->w.cell? ⟨3,i,none⟩=some (.string (dD.getD i ByteArray.empty))
theorem CE.below (h:CE w) (hb:Below w.heap.size w w'):CE w':=by
 intro i hi;have h0:=h i hi;exact (hb.cell (p:=⟨3,i,none⟩) (QD w _ h0)).trans h0
theorem wX:(Rows.laid_colophon_class_words:DataW Unit)=.agg (dD.map fun x=>.lit (.string x.data.toList)):=by kernel_rfl
theorem rN {L:List (String × DataW Unit)}(hpl:(L.all fun x=>x.2.handleName?.isNone)=true) (hm:("colophon/class.words",Rows.laid_colophon_class_words)∈L) (h:laidMetH Tryz.prog L W):CE W:=by
 rw [SE _ _ _ hpl] at h;obtain ⟨ps,hps,_,_⟩:=h;obtain ⟨g,t,cs,fuel,p,hg,ht,hv,hd⟩:=iG L ps hps _ _ hm;obtain rfl:=Q7 ((show Tryz.prog.globalNamed "colophon/class.words"=some 3 by kernel_rfl).symm.trans hg);obtain rfl:=Q7 ((show (Tryz.prog.globals[3]?).map (·.type)=some 383 by kernel_rfl).symm.trans ht);rw [wX] at hd;obtain ⟨xs,m,_,ex,_,hl,hel⟩:=T6 Tryz.underlying383 hd;have c9:Tryz.prog.cellsOf 9=1:=by kernel_rfl
 intro i hi;have hE:=hel i hi;rw [c9,Pi (by omega)] at hE;obtain ⟨s,a0,b0,_⟩:=DataW.trod_string Tryz.underlying9 hE;have hlen:dD.length=24:=rfl;have e3:(xs.map (·.1))=dD.map fun x=>(.lit (.string x.data.toList):DataW Unit):=(UM (Va ex).1).symm
 have e4:(xs.map (·.1))[i]?=(dD.map fun x=>(.lit (.string x.data.toList):DataW Unit))[i]?:=by rw [e3]
 rw [RX,RX,Pi (by omega:i<xs.length),Pi (by omega:i<dD.length),b0] at e4;simp only [Sl,QZ,Ug,Lit.string.injEq] at e4;have hT:dD.getD i ByteArray.empty=dD[i]:=by rw [List.getD,Pi (show i<dD.length by omega)];rfl
 have hs:s=dD[i]:=by
  have:=Sv.1 e4;cases hs:s;cases hx:dD[i];simp_all
 rw [TC hg hv i,hT,<-hs];have h0:(((cs.toList.drop (i*1)).take 1))[0]?=some (.string s):=by rw [a0];rfl
 rw [Rm,IO (by omega),Rf] at h0
 simpa using h0
def bh:List ByteArray:=[⟨#[58,61]⟩,⟨#[46,46]⟩,⟨#[60,61]⟩,⟨#[62,61]⟩,⟨#[59]⟩,⟨#[46]⟩,⟨#[44]⟩,⟨#[58]⟩,⟨#[61]⟩,⟨#[35]⟩,⟨#[60]⟩,⟨#[62]⟩,⟨#[40]⟩,⟨#[41]⟩,⟨#[91]⟩,⟨#[93]⟩,⟨#[43]⟩,⟨#[45]⟩,⟨#[42]⟩,⟨#[47]⟩,⟨#[37]⟩]
def CG (w:World):Prop:=∀i,i<21->w.cell? ⟨2,i,none⟩=some (.string (bh.getD i ByteArray.empty))
theorem CG.below (h:CG w) (hb:Below w.heap.size w w'):CG w':=by
 intro i hi;have h0:=h i hi;exact (hb.cell (p:=⟨2,i,none⟩) (QD w _ h0)).trans h0
theorem xi:(Rows.laid_colophon_class_signs:DataW Unit)=.agg (bh.map fun x=>.lit (.string x.data.toList)):=by kernel_rfl
theorem rU {L:List (String × DataW Unit)}(hpl:(L.all fun x=>x.2.handleName?.isNone)=true) (hm:("colophon/class.signs",Rows.laid_colophon_class_signs)∈L) (h:laidMetH Tryz.prog L W):CG W:=by
 rw [SE _ _ _ hpl] at h;obtain ⟨ps,hps,_,_⟩:=h;obtain ⟨g,t,cs,fuel,p,hg,ht,hv,hd⟩:=iG L ps hps _ _ hm;obtain rfl:=Q7 ((show Tryz.prog.globalNamed "colophon/class.signs"=some 2 by kernel_rfl).symm.trans hg);obtain rfl:=Q7 ((show (Tryz.prog.globals[2]?).map (·.type)=some 336 by kernel_rfl).symm.trans ht);rw [xi] at hd;obtain ⟨xs,m,_,ex,_,hl,hel⟩:=T6 Tryz.underlying336 hd;have c9:Tryz.prog.cellsOf 9=1:=by kernel_rfl
 intro i hi;have hE:=hel i hi;rw [c9,Pi (by omega)] at hE;obtain ⟨s,a0,b0,_⟩:=DataW.trod_string Tryz.underlying9 hE;have hlen:bh.length=21:=rfl;have e3:(xs.map (·.1))=bh.map fun x=>(.lit (.string x.data.toList):DataW Unit):=(UM (Va ex).1).symm
 have e4:(xs.map (·.1))[i]?=(bh.map fun x=>(.lit (.string x.data.toList):DataW Unit))[i]?:=by rw [e3]
 rw [RX,RX,Pi (by omega:i<xs.length),Pi (by omega:i<bh.length),b0] at e4;simp only [Sl,QZ,Ug,Lit.string.injEq] at e4;have hT:bh.getD i ByteArray.empty=bh[i]:=by rw [List.getD,Pi (show i<bh.length by omega)];rfl
 have hs:s=bh[i]:=by
  have:=Sv.1 e4;cases hs:s;cases hx:bh[i];simp_all
 rw [TC hg hv i,hT,<-hs];have h0:(((cs.toList.drop (i*1)).take 1))[0]?=some (.string s):=by rw [a0];rfl
 rw [Rm,IO (by omega),Rf] at h0
 simpa using h0
def qp (w:World):Prop:=wO w/\CE w/\CG w
theorem qp.below (h:qp w) (hb:Below w.heap.size w w'):qp w':=⟨h.1.below hb,h.2.1.below hb,h.2.2.below hb⟩
theorem vy {L:List (String × DataW Unit)}(hpl:(L.all fun x=>x.2.handleName?.isNone)=true) (h1:("colophon/class.spans",Rows.laid_colophon_class_spans)∈L)
  (h2:("colophon/class.words",Rows.laid_colophon_class_words)∈L) (h3:("colophon/class.signs",Rows.laid_colophon_class_signs)∈L) (h:laidMetH Tryz.prog L W):qp W:=
 ⟨tG hpl h1 h,rN hpl h2 h,rU hpl h3 h⟩
end Go.Proofs.YtacohdpndpliaaaGreatDoor.Lx
