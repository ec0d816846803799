import Derived.Test.YtpdlohfdjiaegaaGreatDoorRows
import Derived.WalkKit
import Derived.WalkSpells
import Derived.WalkLawsBesides
import Derived.WalkSmall
import Derived.Laws.CopyOwn
import Derived.Deep.RegionLaw
import Derived.Maps.AppendAt
import Derived.Lib.AppendStr
import Derived.Deep.AppendLies
set_option linter.unusedVariables false
set_option linter.unusedSimpArgs false
namespace Go.Proofs.YtpdlohfdjiaegaaGreatDoor
open Go.RowKit
variable {W w w':World}{i g:Nat}{o:Obj}
abbrev eq:=@Nat.le_refl
abbrev ge:=@Go.World.size_alloc
abbrev gt:=@Go.RowKit.Below.refl
abbrev hH:=@List.getElem?_eq_getElem
abbrev zq:=@List.length_append
abbrev zr:=@Nat.le_trans
abbrev zu:=@if_neg
abbrev zv:=@List.getElem?_eq_some_iff
abbrev zw:=@if_pos
abbrev zx:=@Nat.zero_le
abbrev zy:=@Go.World.block_lt_of_cell?
abbrev zz:=@Nat.lt_of_lt_of_le
abbrev zA:=@decide_eq_false
abbrev zB:=@decide_eq_true
abbrev zC:=@Nat.zero_add
abbrev zE:=@Go.bodyPost_ret
abbrev zF:=@Go.IntKind.wrap_i64
abbrev zG:=@Go.World.cell?_of_block
abbrev zH:=@List.length_take
abbrev zI:=@List.eq_nil_of_length_eq_zero
abbrev zJ:=@List.append_assoc
abbrev zK:=@List.mem_cons
abbrev zL:=@Option.some.injEq
abbrev zM:=@decide_eq_true_eq
abbrev zN:=@List.length_drop
abbrev zO:=@congrArg
abbrev zP:=@Bool.and_eq_true
abbrev zQ:=@of_decide_eq_true
abbrev zR:=@List.getElem?_append_right
abbrev zS:=@beq_eq_false_iff_ne
abbrev zT:=@Option.some.inj
abbrev zU:=@Go.Proofs.Tryz.underlying46
abbrev zV:=@List.mem_cons_self
abbrev zW:=@List.getElem?_append_left
abbrev zX:=@List.mem_cons_of_mem
abbrev zY:=@Array.getElem?_eq_getElem
abbrev zZ:=@decide_eq_false_iff_not
abbrev Ac:=@Go.Proofs.Tryz.underlying3
abbrev Ad:=@List.drop_eq_getElem_cons
abbrev Ag:=@List.getElem?_take
abbrev Ah:=@List.mem_of_getElem?
abbrev Ai:=@List.mem_append
abbrev Aj:=@List.getElem?_drop
abbrev Ak:=@List.take_of_length_le
abbrev Am:=@Go.Proofs.Tryz.underlying9
abbrev Ao:=@List.length_nil
abbrev Ap:=@Classical.byContradiction
abbrev Ar:=@Go.World.ownsRow_nil
abbrev As:=@Go.World.news_of_block
abbrev At:=@Nat.le_of_lt
abbrev Au:=@Array.getElem?_eq_some_iff
abbrev Av:=@List.not_mem_nil
abbrev Aw:=@List.take_length
abbrev Ay:=@List.nil_append
abbrev Az:=@Go.info_parts
abbrev AA:=@List.reverse_cons
abbrev AB:=@Nat.succ_pos
abbrev AC:=@Array.length_toList
abbrev AD:=@Bool.true_and
abbrev AE:=@List.length_reverse
abbrev AF:=@List.take_append_of_le_length
abbrev AG:=@Go.DataW.trod_int
abbrev AH:=@Bool.or_eq_false_iff
abbrev AI:=@List.cons_append
abbrev AJ:=@Array.size_modify
abbrev AK:=@List.getElem?_map
abbrev AL:=@Go.wpList_append_own_at
abbrev AM:=@Go.Addr.add_lit
abbrev AN:=@List.mem_singleton
abbrev AO:=@List.drop_eq_nil_of_le
abbrev AP:=@List.getElem?_set_self
abbrev AQ:=@List.append_nil
abbrev AR:=@Bool.eq_iff_iff
abbrev AS:=@Go.Proofs.Tryz.underlying164
abbrev AT:=@List.getElem?_set_ne
abbrev AU:=@Go.Proofs.Tryz.underlying4
abbrev AW:=@Go.Proofs.Tryz.underlying5
abbrev AX:=@List.take_succ_eq_append_getElem
abbrev AY:=@List.getD_eq_getElem?_getD
abbrev AZ:=@Go.World.ownsRow.cells
abbrev A0:=@Go.wp_scope_jumps
abbrev A3:=@Nat.add_zero
abbrev A4:=@Go.Proofs.Tryz.zeroValue5
abbrev A5:=@List.drop_length
abbrev A6:=@Array.replicate_succ
abbrev A7:=@Array.replicate_zero
abbrev A8:=@Nat.add_assoc
abbrev A9:=@Go.callsIn_wide
abbrev Ba:=@Go.Proofs.Tryz.ntmps34
abbrev Bb:=@List.append_toArray
abbrev Bc:=@Go.Proofs.Tryz.zeroValue3
abbrev Be:=@Go.Proofs.Tryz.zeroValue9
abbrev Bf:=@Bool.or_eq_true
abbrev Bg:=@Go.World.ownsRow.frozenAt
abbrev Bh:=@Array.toList_inj
abbrev Bi:=@Option.getD_some
abbrev Bj:=@List.map_cons
abbrev Bl:=@List.length_replicate
abbrev Bm:=@Go.RowKit.Below.setCell
abbrev Bq:=@Bool.false_or
abbrev Br:=@Go.Proofs.Tryz.ntmps41
abbrev Bs:=@Array.getElem_modify_self
abbrev Bt:=@Go.Proofs.Tryz.func34
abbrev Bu:=@List.mem_of_mem_take
abbrev Bv:=@List.size_toArray
abbrev By:=@List.push_toArray
abbrev BA:=@Go.Proofs.Tryz.zeroValue4
abbrev BB:=@Go.Proofs.Tryz.sizeOf5
abbrev BC:=@Go.Proofs.Tryz.ntmps60
abbrev BD:=@List.getElem?_cons_succ
abbrev BE:=@Nat.add_sub_cancel_left
abbrev BF:=@Go.Proofs.Tryz.func41
abbrev BG:=@List.mem_flatMap
abbrev BH:=@Go.Proofs.Tryz.underlying0
abbrev BI:=@List.drop_zero
abbrev BJ:=@Option.map_eq_some_iff
abbrev BK:=@List.find?_eq_none
abbrev BL:=@Array.getD_eq_getD_getElem?
abbrev BM:=@Array.getElem?_toList
abbrev BN:=@Option.map_some
abbrev BO:=@List.map_append
abbrev BP:=@Go.Proofs.Tryz.zeroValue0
abbrev BQ:=@Go.Proofs.Tryz.sizeOf3
abbrev BR:=@Go.Proofs.Tryz.isAgg5
abbrev BS:=@Go.Proofs.Tryz.sizeOf9
abbrev BT:=@Go.Exit.noGoto_ret
abbrev BU:=@Go.RowKit.Below.alloc
abbrev BV:=@Go.leaves_cons
abbrev BW:=@Nat.min_eq_left
abbrev BX:=@Go.Proofs.Tryz.func60
abbrev BY:=@List.contains_iff_mem
abbrev BZ:=@Int.toNat_natCast
abbrev B2:=@Bool.or_false
abbrev B3:=@Bool.eq_false_iff
abbrev B4:=@List.take_take
abbrev B5:=@List.drop_append
abbrev B6:=@or_false
abbrev B7:=@List.any_eq_true
abbrev B8:=@decide_eq_decide
abbrev B9:=@Nat.lt_succ_self
abbrev Ca:=@Go.ByteArray.toList_eq
abbrev Cb:=@Go.Proofs.Tryz.isAgg3
abbrev Cc:=@Go.Proofs.Tryz.isAgg9
abbrev Cd:=@List.getElem_of_mem
abbrev Ce:=@Nat.le_succ
abbrev Cf:=@List.mem_map
abbrev Cg:=@List.map_nil
abbrev Ch:=@beq_iff_eq
abbrev Ci:=@Go.RowKit.Below.size
abbrev Cj:=@Go.Proofs.Tryz.sizeOf4
abbrev Ck:=@Go.Proofs.Tryz.ntmps42
abbrev Cl:=@Go.Proofs.Tryz.func264
abbrev Cm:=@Go.RowKit.Below.heap_setCell
abbrev Cn:=@Go.Proofs.Tryz.underlying225
abbrev Co:=@Go.Proofs.Tryz.ntmps153
abbrev Cp:=@of_decide_eq_false
abbrev Cq:=@Go.wpList_append_lies
abbrev Cr:=@Go.Proofs.Tryz.ntmps257
abbrev Cs:=@Go.Proofs.Tryz.ntmps264
abbrev Ct:=@Go.run_convert_int_string
abbrev Cu:=@Go.Result.andThen_ok
abbrev Cv:=@Go.Proofs.Tryz.isAgg4
abbrev Cw:=@Go.Proofs.Tryz.zeroValue225
abbrev Cx:=@Go.Proofs.Tryz.zeroValue164
abbrev Cy:=@Go.below_drewN
abbrev Cz:=@List.take_add_one
abbrev CA:=@Go.setRow_heap
abbrev CC:=@Go.Proofs.Tryz.func42
abbrev CD:=@Go.Proofs.Tryz.sizeOf0
abbrev CE:=@Go.Proofs.Tryz.func153
abbrev CF:=@List.set_append_right
abbrev CG:=@List.take_append_drop
abbrev CH:=@Bool.true_or
abbrev CI:=@Bool.or_true
abbrev CJ:=@Go.Proofs.Tryz.ntmps21
abbrev CK:=@Go.Proofs.Tryz.ntmps24
abbrev CM:=@Go.Proofs.Tryz.func257
abbrev CN:=@Classical.choose_spec
abbrev CO:=@List.map_toArray
abbrev CP:=@List.drop_append_of_le_length
abbrev CQ:=@Go.step_append_lies
abbrev CS:=@Nat.mul_le_mul_right
abbrev CT:=@List.replicate_succ'
abbrev CU:=@Go.Proofs.Tryz.ntmps181
abbrev CV:=@Go.Proofs.Tryz.ntmps194
abbrev CW:=@List.any_cons
abbrev CX:=@Go.RowKit.Below.drew
abbrev CY:=@List.take_succ_cons
abbrev CZ:=@Go.DataW.lit.injEq
abbrev C0:=@Go.World.var?_cell
abbrev C1:=@Go.run_callFunc_extern
abbrev C3:=@List.length_map
abbrev C4:=@Go.Proofs.Tryz.isAgg0
abbrev C5:=@Go.results_tmp
abbrev C6:=@List.take_left'
abbrev C7:=@Go.run_loadVar_row
abbrev C8:=@Go.Proofs.Tryz.func21
abbrev C9:=@Go.Proofs.Tryz.func24
abbrev Da:=@Nat.succ_mul
abbrev Db:=@Go.run_next_any
abbrev Dd:=@Go.Proofs.Tryz.underlying228
abbrev De:=@Go.Proofs.Tryz.func181
abbrev Df:=@Go.Proofs.Tryz.underlying170
abbrev Dg:=@Go.Proofs.Tryz.underlying172
abbrev Dh:=@Go.Proofs.Tryz.func194
abbrev Di:=@Go.Proofs.Tryz.underlying132
abbrev Dj:=@Go.Proofs.Tryz.ntmps22
abbrev Dl:=@Bool.false_eq_true
abbrev Dm:=@Go.Proofs.Tryz.func224
abbrev Do:=@List.drop_drop
abbrev Dp:=@Go.Proofs.Tryz.sizeOf225
abbrev Dq:=@Go.Proofs.Tryz.sizeOf164
abbrev Ds:=@Go.run_storeCells_at
abbrev Dt:=@Go.DataW.trod_string
abbrev Du:=@Go.Proofs.Tryz.underlying21
abbrev Dv:=@Go.Proofs.Tryz.zeroValue228
abbrev Dw:=@Go.Proofs.Tryz.zeroValue170
abbrev Dx:=@Go.Proofs.Tryz.zeroValue172
abbrev Dy:=@List.find?_append
abbrev Dz:=@Go.Proofs.Tryz.underlying44
abbrev DC:=@Go.DataW.agg.inj
abbrev DD:=@Go.Proofs.Tryz.isAgg225
abbrev DE:=@Go.Proofs.Tryz.isAgg164
abbrev DF:=@Int.le_refl
abbrev DG:=@Go.Proofs.Tryz.func22
abbrev DH:=@Go.Proofs.Tryz.ntmps224
abbrev DI:=@Go.Proofs.Tryz.zeroValue21
abbrev DJ:=@List.all_eq_true
abbrev DK:=@Go.wpList_plain
abbrev DL:=@Go.Sem.run_bind
abbrev DN:=@Go.Sem.run_pure
abbrev DO:=@Go.run_next_end
abbrev DP:=@getElem!_pos
abbrev DR:=@UInt8.toNat_inj
abbrev DT:=@Nat.sub_zero
abbrev DU:=@Go.Proofs.Tryz.ntmps50
abbrev DW:=@Int.natCast_add
abbrev DX:=@Go.Proofs.Tryz.ntmps33
abbrev DY:=@Nat.zero_mul
abbrev DZ:=@Go.Proofs.Tryz.ntmps48
abbrev D0:=@Go.Proofs.Tryz.ntmps71
abbrev D3:=@Go.Proofs.Tryz.ntmps65
abbrev D4:=@Go.Proofs.Tryz.func262
abbrev D5:=@Prod.mk.inj
abbrev D6:=@Go.Proofs.Tryz.func50
abbrev D7:=@Go.Proofs.Tryz.func33
abbrev D8:=@Go.Proofs.Tryz.func48
abbrev D9:=@Go.Proofs.Tryz.func71
abbrev Ea:=@Go.Proofs.Tryz.func65
theorem mkfn:∀(fn:Fn) (first cap:Array Value) (w:World),(Instr.makeFunc fn first cap).run Tryz.prog w=.ok (.func fn first cap) w:=fun _ _ _ _=>rfl
abbrev Aa:=Calls Tryz.prog
abbrev Ab (W V:World):Prop:=Below W.heap.size W V
theorem hid{p:Prop}(h:p):Hid p:=h
structure Fr (i:Nat) (own own':Nat->Nat) (w w':World):Prop where
 os:w'.os=w.os
 tape:w'.tape=w.tape
 output:w'.output=w.output
 size:w.heap.size<=w'.heap.size
 block:∀k,k<w.heap.size->own k≠i->w'.heap[k]?=w.heap[k]?
 old:∀k,k<w.heap.size->own' k=own k
def Nf (own:Nat->Nat) (w:World):Prop:=∀k,w.heap.size<=k->own k=0
theorem Fr.refl (i:Nat) (own:Nat->Nat) (w:World):Fr i own own w w:=⟨rfl,rfl,rfl,eq _,fun _ _ _=>rfl,fun _ _=>rfl⟩
theorem Fr.of_below {i:Nat}{own:Nat->Nat}{w w':World}(h:Below w.heap.size w w'):Fr i own own w w':=
 ⟨h.os,h.tape,h.output,h.size,fun k hk _=>h.block k hk,fun _ _=>rfl⟩
theorem Fr.below {B:Nat}{own own':Nat->Nat}(h:Fr i own own' w w') (hB:B<=w.heap.size) (ho:∀k,k<B->own k=0) (hi:i≠0):Below B w w':=
 ⟨h.os,h.tape,h.output,h.size,fun k hk=>h.block k (by omega) (by rw [ho k hk];omega)⟩
theorem Fr.cell {i:Nat}{own own':Nat->Nat}{w w':World}(h:Fr i own own' w w') {a:Addr}{v:Value}(hc:w.cell? a=some v) (hi:own a.block≠i):w'.cell? a=some v:=
 (zG (h.block a.block (zy w a hc) hi)).trans hc
theorem Nf.below {own:Nat->Nat}(h:Nf own w) (hb:w.heap.size<=w'.heap.size):Nf own w':=fun k hk=>h k (by omega)
theorem aa {W:World}{g k:Nat}{cs:Array Value}{T:TypeId}{v:Value}(h:W.heap[g]?=some (.cells cs T (0,0))) (hk:cs[k]?=some v):W.cell? ⟨g,k,none⟩=some v:=by simp [World.cell?,h,hk]
theorem aj {W:World}{g k:Nat}{cs:Array Value}{T:TypeId}(h:W.heap[g]?=some (.cells cs T (0,0))):W.frozen? ⟨g,k,none⟩=false:=by simp [World.frozen?,h]
theorem af {cs:Array Value}{T:TypeId}(h:W.heap[g]?=some (.cells cs T (0,0))) (k:Nat) (v:Value):(W.setCell ⟨g,k,none⟩ v).heap[g]?=some (.cells (cs.setIfInBounds k v) T (0,0)):=by
 obtain ⟨hlt,hk⟩:=Au.1 h;show (W.heap.modify g _)[g]?=_;rw [zY (by rw [AJ];exact hlt),Bs,hk];rfl
theorem aS {b k:Nat}(h:W.heap[g]?=some o) (hne:g≠b) (v:Value):(W.setCell ⟨b,k,none⟩ v).heap[g]?=some o:=
 (Cm W ⟨b,k,none⟩ v g hne).trans h
theorem ah (h:W.heap[g]?=some o):g<W.heap.size:=(Au.1 h).1
theorem ab {W W':World}{g:Nat}{o:Obj}(h:W.heap[g]?=some o) (hb:Below W.heap.size W W'):W'.heap[g]?=some o:=(hb.block g (ah h)).trans h
theorem Fr.set {own own':Nat->Nat}(h:Fr i own own' w W) {g:Nat}(hg:own' g=i) (k:Nat) (v:Value) (hN:∀j,j<w.heap.size->own j≠i->j≠g):Fr i own own' w (W.setCell ⟨g,k,none⟩ v):=
 ⟨h.os,h.tape,h.output,by show _<=(W.heap.modify g _).size;rw [AJ];exact h.size,
 fun j hj hi=>(Cm W ⟨g,k,none⟩ v j (hN j hj hi)).trans (h.block j hj hi),h.old⟩
theorem Fr.set' {own:Nat->Nat}(h:Fr i own own w W) {g:Nat}(hg:own g=i) (k:Nat) (v:Value):Fr i own own w (W.setCell ⟨g,k,none⟩ v):=
 h.set hg k v (fun j _ hj e=>hj (by rw [e];exact hg))
section
variable {β:Type} (enc:β->List Value) (sz:Nat)
def aN (zs:List β):List Value:=zs.flatMap enc
theorem dU (x:β) (zs:List β):aN enc (x :: zs)=enc x++aN enc zs:=rfl
theorem bB (xs zs:List β):aN enc (xs++zs)=aN enc xs++aN enc zs:=by unfold aN;exact List.flatMap_append
variable (hsz:∀x,(enc x).length=sz)
include hsz
theorem cN (zs:List β):(aN enc zs).length=zs.length*sz:=by
 induction zs with
 |nil=>simp [aN]
 |cons x r ih=>rw [dU,zq,ih,hsz,List.length_cons,Da];omega
theorem eU:∀(k:Nat) (zs:List β),(aN enc zs).drop (k*sz)=aN enc (zs.drop k)
 |0,zs=>by simp
 |k+1,[]=>by simp [aN]
 |k+1,x :: r=>by
  rw [dU,B5,hsz,List.drop_succ_cons,<-eU k r,AO (by rw [hsz,Da];omega),Ay]
  congr 1;rw [Da];omega
theorem gp:∀(k:Nat) (zs:List β),(aN enc zs).take (k*sz)=aN enc (zs.take k)
 |0,zs=>by simp [aN]
 |k+1,[]=>by simp [aN]
 |k+1,x :: r=>by
  rw [dU,List.take_append,hsz,CY,dU,<-gp k r,Ak (by rw [hsz,Da];omega)]
  congr 2;rw [Da];omega
theorem aD (zs:List β) (k j:Nat) (x:β) (v:Value) (hk:zs[k]?=some x) (hv:(enc x)[j]?=some v):(aN enc zs)[k*sz+j]?=some v:=by
 have h1:(aN enc zs)[k*sz+j]?=((aN enc zs).drop (k*sz))[j]?:=by rw [Aj]
 rw [h1,eU enc sz hsz];obtain ⟨hl,he⟩:=zv.1 hk;rw [Ad hl,he,dU];rw [zW (zv.1 hv).1];exact hv
omit hsz in
end
theorem cu {P:Program}(w:World) (dT sT ty elem:TypeId) (sz g o dLen dCap:Nat) (a:Addr) (sLen sCap:Nat) (cur:Array Value) (t:TypeId) (cs:List Value)
  (hu:P.underlying dT=some (.slice elem)) (hs:(P.info? elem).map (·.size)=some sz)
  (hg:w.heap[g]?=some (.cells cur t (0,0))) (hn:cs.length=Nat.min sLen dLen*sz)
  (hsrc:∀j v,cs[j]?=some v->w.cell? (a.add j)=some v) (hfit:o+cs.length<=cur.size) (h1:∀v∈cs,v.oneCell'=true) :
  (Builtin.copy_ #[dT,sT] ty #[.slice (some ⟨g,o,none⟩) dLen dCap,.slice (some a) sLen sCap]).run P w =
   .ok (goInt (Nat.min sLen dLen)) (w.setRow g (cur.toList.take o++cs++cur.toList.drop (o+cs.length)).toArray):=by
 have hl:=run_loadCells_list (P:=P) w a cs hsrc;have hst:=Ds P g o t cs 0 cur w hg (by simpa using hfit) h1;cases hq:P.info? elem with
 |none=>simp [hq] at hs
 |some i=>
  have hi:i.size=sz:=by simpa [hq] using hs
  simp [Builtin.copy_,run_underlying hu,Builtin.lenOf,Builtin.firstCells,sizeOf,typeInfo,hq,hi,<-hn,hl,hst]
end Go.Proofs.YtpdlohfdjiaegaaGreatDoor
namespace Go.Proofs.YtpdlohfdjiaegaaGreatDoor
open Go.RowKit
open Go.Lib (strCells strCells_length)
variable {f e sz n m:Nat}{w w':World}{v:Value}{xs:List Value}{t:List UInt8}
def bc (l:List UInt8):List Value:=l.map fun b=>Value.int .u8 b.toNat
theorem yn (l:List UInt8):(bc l).length=l.length:=by simp [bc]
theorem t7 (a b:List UInt8):bc (a++b)=bc a++bc b:=by simp [bc]
theorem ym (l:List UInt8):∀u∈bc l,u.oneCell'=true:=by
 intro u hu;simp only [bc,Cf] at hu;obtain ⟨x,_,rfl⟩:=hu;rfl
theorem wz (l:List UInt8) (k:Nat):(bc l).drop k=bc (l.drop k):=by simp [bc]
theorem wy (l:List UInt8) (k:Nat):(bc l).take k=bc (l.take k):=by simp [bc]
theorem ep {P:Program}(w:World) (base:Nat) (t u ty e:TypeId) (i:TypeInfo) (ht:P.underlying t=some (.slice e)) (hu:P.underlying u=some .string) (hi:P.info? e=some i) (hz:i.zero=some (.int .u8 0))
  (hsize:i.size=1) (hby:i.bytes=1) (v:Value) (n:Nat) (xs:List Value) (hown:w.ownsRow base e 1 v n xs) (s:ByteArray)
  (h63:n+s.size<=maxLen) (hbytes:n+s.size<=140737488355328) (hbase:base<=w.heap.size) :
  ∃v' w',(Builtin.append_ #[t,u] ty #[v,.string s]).run P w=.ok v' w'/\w'.ownsRow base e 1 v' (n+s.size) (xs++strCells s)/\w.grownBy w' v.ownBlock/\(v'.ownBlock=v.ownBlock\/v'.ownBlock=some w.heap.size):=by
 obtain ⟨v',w',hr,h1,h2,h3⟩:=Lib.run_append_own_string (P:=P) w base t u ty e i ht hu hi hz hsize hby v n xs hown s h63 hbytes hbase;refine ⟨v',w',hr,h1,h2,?_⟩;have hsmall:n+s.size<=9223372036854775807:=by simp only [maxLen] at h63;omega
 have hxl:xs.length=n:=by simpa using hown.1
 rcases hown.2 with ⟨rfl,rfl⟩|⟨g,cap,cur,rfl,hbg,hg,hnc,hcm,hcs,htake⟩
 ·by_cases hm:s.size=0
  ·left;rw [h3.2 ⟨rfl,hm⟩]
  ·have hr2:=run_append_nil_string (P:=P) w t u ty e i (.int .u8 0) ht hu hi hz s (by omega) (by omega) (by rw [hby];omega);rw [hr2] at hr;injection hr with e1 e2
   right;rw [<-e1];rfl
 ·by_cases hroom:n+s.size<=cap
  ·have hcs':cur.size=cap:=by simpa using hcs
   have hr2:=Lib.run_append_room_string (P:=P) w t u ty e i ht hu hi hsize g n cap cur hg s hroom (by omega);rw [hr2] at hr;injection hr with e1 e2
   left;rw [<-e1];rfl
  ·have holds:∀j u,xs[j]?=some u->w.cell? ((⟨g,0,none⟩:Addr).add j)=some u:=hown.cells (g:=g) rfl;have hr2:=Lib.run_append_grow_string (P:=P) w t u ty e i (.int .u8 0) ht hu hi hz ⟨g,0,none⟩ n cap xs (by rw [hsize];simpa using hxl) holds s (by omega) (by omega) (by rw [hby];exact growslice_fits (by omega) (by omega));rw [hr2] at hr;injection hr with e1 e2
   right;rw [<-e1];rfl
theorem cf {P:Program}{w:World}{ops:Array Oper}{rest:List Oper}{o:Oper}{a:Act}{Q:Exit->Act->World->Prop}(hgd:o.guard=none) (sl x:Operand) (t u:TypeId)
  (ho:o.op=.call { callee:=.builtin .append,args:=#[sl,x],argTypes:=#[t,u] })
  (base:Nat) (e:TypeId) (i:TypeInfo) (ht:P.underlying t=some (.slice e)) (hu:P.underlying u=some .string) (hi:P.info? e=some i) (hz:i.zero=some (.int .u8 0))
  (hsize:i.size=1) (hby:i.bytes=1)
  (v:Value) (n:Nat) (xs:List Value) (hs:a.eval sl=v) (hown:w.ownsRow base e 1 v n xs) (s:ByteArray) (hx:a.eval x=.string s)
  (h63:n+s.size<=maxLen) (hbytes:n+s.size<=140737488355328) (hbase:base<=w.heap.size)
  (h:∀v' w',w'.ownsRow base e 1 v' (n+s.size) (xs++strCells s)->w.grownBy w' v.ownBlock->(v'.ownBlock=v.ownBlock\/v'.ownBlock=some w.heap.size)->wpList P ops Q rest (a.put o.dst v') w'):wpList P ops Q (o :: rest) a w:=by
 refine DK hgd fun K hK=>?_
 obtain ⟨v',w',hr,h2,h3,h4⟩:=ep (P:=P) w base t u o.type e i ht hu hi hz hsize hby v n xs hown s h63 hbytes hbase;unfold Oper.wp execOp;simp only [ho,resolve,invoke,builtin,DL,DN,Cu,CO,Bj,Cg,hs,hx,hr];exact hK _ _ (h v' w' h2 h3 h4)
structure Kp (S:Nat->Prop) (w w':World):Prop where
 os:w'.os=w.os
 tape:w'.tape=w.tape
 output:w'.output=w.output
 size:w.heap.size<=w'.heap.size
 block:∀k,k<w.heap.size->¬S k->w'.heap[k]?=w.heap[k]?
theorem Kp.refl (S:Nat->Prop) (w:World):Kp S w w:=⟨rfl,rfl,rfl,eq _,fun _ _ _=>rfl⟩
theorem Kp.trans {S:Nat->Prop}{a b c:World}(h:Kp S a b) (k:Kp S b c):Kp S a c:=
 ⟨k.os.trans h.os,k.tape.trans h.tape,k.output.trans h.output,zr h.size k.size,fun j hj hS=>(k.block j (zz hj h.size) hS).trans (h.block j hj hS)⟩
theorem Kp.step {S T:Nat->Prop}{a b c:World}(h:Kp S a b) (k:Kp T b c) (hT:∀j,j<a.heap.size->T j->S j):Kp S a c:=
 ⟨k.os.trans h.os,k.tape.trans h.tape,k.output.trans h.output,zr h.size k.size,fun j hj hS=>(k.block j (zz hj h.size) (fun ht=>hS (hT j hj ht))).trans (h.block j hj hS)⟩
theorem Kp.of_below {S:Nat->Prop}{w w':World}(h:Below w.heap.size w w'):Kp S w w':=⟨h.os,h.tape,h.output,h.size,fun k hk _=>h.block k hk⟩
theorem Kp.of_grown {row:Option Nat}(h:w.grownBy w' row):Kp (fun k=>some k=row) w w':=⟨h.os,h.tape,h.output,h.size,fun k hk hS=>h.block k hk hS⟩
theorem Kp.set (w:World) (g k:Nat) (v:Value):Kp (fun j=>j=g) w (w.setCell ⟨g,k,none⟩ v):=
 ⟨rfl,rfl,rfl,by show _<=(w.heap.modify g _).size;rw [AJ];exact eq _,fun j hj hS=>Cm w ⟨g,k,none⟩ v j hS⟩
theorem Kp.alloc {S:Nat->Prop}{a b:World}(h:Kp S a b) (o:Obj):Kp S a (b.alloc o):=h.step (T:=S) (Kp.of_below ((gt _ _).alloc (eq _) _)) (fun _ _ h=>h)
theorem Kp.same {S:Nat->Prop}{w W W':World}(h:Kp S w W) (h1:W'.heap=W.heap) (h2:W'.os=W.os) (h3:W'.tape=W.tape) (h4:W'.output=W.output):Kp S w W':=
 ⟨h2.trans h.os,h3.trans h.tape,h4.trans h.output,by rw [h1];exact h.size,by rw [h1];exact h.block⟩
theorem Kp.fr {S:Nat->Prop}{i:Nat}{own own':Nat->Nat}(h:Kp S w w') (hS:∀k,k<w.heap.size->S k->own k=i) (ho:∀k,k<w.heap.size->own' k=own k):Fr i own own' w w':=
 ⟨h.os,h.tape,h.output,h.size,fun k hk hi=>h.block k hk (fun hs=>hi (hS k hk hs)),ho⟩
theorem Kp.blk {S:Nat->Prop}{w w':World}(h:Kp S w w') {g:Nat}{o:Obj}(hg:w.heap[g]?=some o) (hS:¬S g):w'.heap[g]?=some o:=(h.block g (ah hg) hS).trans hg
theorem Kp.row {S:Nat->Prop}{w w':World}(h:Kp S w w') {e sz n:Nat}{v:Value}{xs:List Value}(hr:w.ownsRow 0 e sz v n xs) (hS:∀k,v.ownBlock=some k->¬S k):w'.ownsRow 0 e sz v n xs:=by
 refine ⟨hr.1,?_⟩
 rcases hr.2 with h1|⟨g,cap,cur,rfl,h2,h3,h4⟩
 ·exact .inl h1
 ·exact .inr ⟨g,cap,cur,rfl,h2,h.blk h3 (hS g rfl),h4⟩
theorem ay {g:Nat}{cs:Array Value}{T:TypeId}{f:Nat × Nat}(hr:w.ownsRow 0 e sz v n xs) (hg:w.heap[g]?=some (.cells cs T f)) (hT:T≠e):v.ownBlock≠some g:=by
 intro h
 rcases hr.2 with ⟨rfl,_⟩|⟨b,cap,cur,rfl,_,h3,_⟩
 ·cases h
 ·simp only [Value.ownBlock,zL] at h;subst h;rw [hg] at h3;injection h3 with h4
  injection h4 with _ h5
  exact hT h5
theorem av (hr:w.ownsRow 0 e sz v n xs):∃p cap,v=.slice p n cap/\n<=cap/\cap<=maxLen:=by
 rcases hr.2 with ⟨rfl,rfl⟩|⟨b,cap,cur,rfl,_,h3,h4,h5,_⟩
 ·exact ⟨none,0,rfl,eq _,zx _⟩
 ·exact ⟨_,cap,rfl,h4,h5⟩
theorem aE (hr:w.ownsRow 0 e sz v n xs) (hb:Below w.heap.size w w'):w'.ownsRow 0 e sz v n xs:=
 (Kp.of_below (S:=fun _=>False) hb).row hr (fun _ _ h=>h)
def bM:Nat->List (Nat × Nat)->List UInt8->List UInt8
 |f,[],t=>t.drop f
 |f,(a,n) :: r,t=>(t.drop f).take (a-f)++(List.replicate n 32++bM a r t)
def Ups:Nat->List (Nat × Nat)->Nat->Prop
 |f,[],m=>f<=m
 |f,(a,_) :: r,m=>f<=a/\Ups a r m
def bI:List (Nat × Nat)->Nat
 |[]=>0
 | (_,n) :: r=>n+bI r
theorem Ups.le {gs:List (Nat × Nat)}(h:Ups f gs m):f<=m:=by
 induction gs generalizing f with
 |nil=>exact h
 |cons x r ih=>obtain ⟨a,n⟩:=x;exact zr h.1 (ih h.2)
theorem Ups.more {gs:List (Nat × Nat)}{m':Nat}(h:Ups f gs m) (hm:m<=m'):Ups f gs m':=by
 induction gs generalizing f with
 |nil=>exact zr h hm
 |cons x r ih=>obtain ⟨a,n⟩:=x;exact ⟨h.1,ih h.2⟩
theorem Ups.snoc {gs:List (Nat × Nat)}(n:Nat) (h:Ups f gs m):Ups f (gs++[(m,n)]) m:=by
 induction gs generalizing f with
 |nil=>exact ⟨h,eq _⟩
 |cons x r ih=>obtain ⟨a,n⟩:=x;exact ⟨h.1,ih h.2⟩
theorem jm {gs:List (Nat × Nat)}(s:List UInt8) (h:Ups f gs t.length):bM f gs (t++s)=bM f gs t++s:=by
 induction gs generalizing f with
 |nil=>simp only [bM];exact CP h
 |cons x r ih=>
  obtain ⟨a,n⟩:=x;have ha:=h.2.le;simp only [bM];rw [ih h.2,CP (zr h.1 ha),AF (by rw [zN];have:=h.1;omega)];simp [zJ]
theorem oT {gs:List (Nat × Nat)}(n:Nat) (h:Ups f gs t.length):bM f (gs++[(t.length,n)]) t=bM f gs t++List.replicate n 32:=by
 induction gs generalizing f with
 |nil=>simp only [bM,Ay];rw [Ak (by simp),A5];simp
 |cons x r ih=>
  obtain ⟨a,k⟩:=x;simp only [bM,AI];rw [ih h.2];simp [zJ]
theorem fX {gs:List (Nat × Nat)}(h:Ups f gs t.length):(bM f gs t).length=t.length-f+bI gs:=by
 induction gs generalizing f with
 |nil=>simp [bM,bI]
 |cons x r ih=>
  obtain ⟨a,k⟩:=x;have ha:=h.2.le;have h1:=h.1;simp only [bM,bI,zq,Bl,zH,zN,ih h.2];omega
theorem rc (a:List (Nat × Nat)) (x n:Nat):bI (a++[(x,n)])=bI a+n:=by
 induction a with
 |nil=>simp [bI]
 |cons y r ih=>obtain ⟨b,k⟩:=y;simp only [AI,bI,ih];omega
end Go.Proofs.YtpdlohfdjiaegaaGreatDoor
namespace Go.Proofs.YtpdlohfdjiaegaaGreatDoor
open Go.RowKit
variable {W w W':World}{B:Nat}
structure Tv where
 k:Int
 t:ByteArray
 a:Int
 l:Int
 c:Int
 f:Int
deriving DecidableEq
def Tv.v (d:Tv):Value:=.agg #[.int .u8 d.k,.string d.t,.int .i64 d.a,.int .i64 d.l,.int .i64 d.c,.int .i64 d.f]
def Tv.cs (d:Tv):List Value:=[.int .u8 d.k,.string d.t,.int .i64 d.a,.int .i64 d.l,.int .i64 d.c,.int .i64 d.f]
theorem Tv.cs_len (d:Tv):d.cs.length=6:=rfl
theorem Tv.cs_one (d:Tv):∀u∈d.cs,u.oneCell'=true:=by
 intro u hu;simp only [Tv.cs,zK,Av,B6] at hu
 rcases hu with rfl|rfl|rfl|rfl|rfl|rfl <;> rfl
def tcs (l:List Tv):List Value:=aN Tv.cs l
theorem uw (l:List Tv):(tcs l).length=l.length*6:=cN Tv.cs 6 Tv.cs_len l
theorem uv (l:List Tv):∀u∈tcs l,u.oneCell'=true:=by
 intro u hu;obtain ⟨d,_,h⟩:=BG.1 hu;exact d.cs_one u h
theorem ux (a b:List Tv):tcs (a++b)=tcs a++tcs b:=bB Tv.cs a b
def Lt (w:World) (ao:Option Addr) (l:List Tv):Prop:=∀j d,l[j]?=some d->∃b off,ao=some ⟨b,off,none⟩ /\
 w.cell? ⟨b,off+j*6,none⟩=some (.int .u8 d.k)/\w.cell? ⟨b,off+j*6+1,none⟩=some (.string d.t)/\w.cell? ⟨b,off+j*6+2,none⟩=some (.int .i64 d.a)/\w.cell? ⟨b,off+j*6+3,none⟩=some (.int .i64 d.l)/\w.cell? ⟨b,off+j*6+4,none⟩=some (.int .i64 d.c)/\w.cell? ⟨b,off+j*6+5,none⟩=some (.int .i64 d.f)
def Rt (B:Nat) (w:World) (v:Value) (l:List Tv):Prop:=w.ownsRow B 37 6 v l.length (tcs l)
theorem xj (B:Nat) (w:World):Rt B w (.slice none 0 0) []:=Ar w B 37 6
theorem Rt.shape {v:Value}{l:List Tv}(h:Rt B w v l):∃p cap,v=.slice p l.length cap/\l.length<=cap/\cap<=maxLen:=by
 rcases h.2 with ⟨rfl,h0⟩|⟨b,cap,cur,rfl,_,h3,h4,h5,_⟩
 ·exact ⟨none,0,by rw [h0],by omega,zx _⟩
 ·exact ⟨_,cap,rfl,h4,h5⟩
theorem Rt.own {v:Value}{l:List Tv}(h:Rt B w v l):∀k,v.ownBlock=some k->B<=k:=by
 intro k hk
 rcases h.2 with ⟨rfl,h0⟩|⟨b,cap,cur,rfl,hb,_⟩
 ·cases hk
 ·simp only [Value.ownBlock,zL] at hk;omega
theorem Rt.below {w':World}{v:Value}{l:List Tv}(h:Rt B w v l) (hb:Below w.heap.size w w'):Rt B w' v l:=by
 refine ⟨h.1,?_⟩
 rcases h.2 with h1|⟨g,cap,cur,rfl,h2,h3,h4⟩
 ·exact .inl h1
 ·exact .inr ⟨g,cap,cur,rfl,h2,ab h3 hb,h4⟩
theorem Rt.kp {B:Nat}{S:Nat->Prop}{w w':World}{v:Value}{l:List Tv}(h:Rt B w v l) (hb:Kp S w w') (hS:∀k,v.ownBlock=some k->¬S k):Rt B w' v l:=by
 refine ⟨h.1,?_⟩
 rcases h.2 with h1|⟨g,cap,cur,rfl,h2,h3,h4⟩
 ·exact .inl h1
 ·exact .inr ⟨g,cap,cur,rfl,h2,hb.blk h3 (hS g rfl),h4⟩
theorem Rt.ne {v:Value}{l:List Tv}(h:Rt B w v l) {g:Nat}{cs:Array Value}{T:TypeId}{f:Nat × Nat}(hg:w.heap[g]?=some (.cells cs T f)) (hT:T≠37):∀k,v.ownBlock=some k->k≠g:=by
 intro k hk e
 rcases h.2 with ⟨rfl,h0⟩|⟨b,cap,cur,rfl,hb,h3,_⟩
 ·cases hk
 ·simp only [Value.ownBlock,zL] at hk;subst hk;subst e;rw [hg] at h3;cases h3;exact hT rfl
theorem Lt.row {w:World}{B:Nat}{v:Value}{l:List Tv}(h:Rt B w v l):∃ao cap,v=.slice ao l.length cap/\Lt w ao l/\(ao=none\/∃g,ao=some ⟨g,0,none⟩/\B<=g/\g<w.heap.size)/\l.length<=cap/\cap<=maxLen:=by
 rcases h.2 with ⟨rfl,h0⟩|⟨g,cap,cur,rfl,hb,hg,h3,h4,h5,h6⟩
 ·have:l=[]:=zI h0;subst this;exact ⟨none,0,rfl,fun j d h=>by simp at h,.inl rfl,zx _,zx _⟩
 ·refine ⟨some ⟨g,0,none⟩,cap,rfl,?_,.inr ⟨g,rfl,hb,ah hg⟩,h3,h4⟩;intro j d hj
  have hc:∀(k:Nat) (u:Value),(tcs l)[k]?=some u->w.cell? ⟨g,k,none⟩=some u:=fun k u hu=>by
   have:=h.cells (g:=g) rfl k u hu;rw [AM,zC] at this;exact this
  refine ⟨g,0,rfl,?_,?_,?_,?_,?_,?_⟩
  ·rw [zC];exact hc _ _ (aD Tv.cs 6 Tv.cs_len l j 0 d _ hj rfl)
  ·rw [zC];exact hc _ _ (aD Tv.cs 6 Tv.cs_len l j 1 d _ hj rfl)
  ·rw [zC];exact hc _ _ (aD Tv.cs 6 Tv.cs_len l j 2 d _ hj rfl)
  ·rw [zC];exact hc _ _ (aD Tv.cs 6 Tv.cs_len l j 3 d _ hj rfl)
  ·rw [zC];exact hc _ _ (aD Tv.cs 6 Tv.cs_len l j 4 d _ hj rfl)
  ·rw [zC];exact hc _ _ (aD Tv.cs 6 Tv.cs_len l j 5 d _ hj rfl)
theorem Tryz.info37:(Tryz.prog.info? 37).map (fun i=>(i.zero,i.size,i.bytes))=some (some (.agg #[.int .u8 0,.string ⟨#[]⟩,.int .i64 0,.int .i64 0,.int .i64 0,.int .i64 0]),6,56):=by kernel_rfl
theorem ag (w:World) (o:Obj):(w.alloc o).heap[w.heap.size]?=some o:=by show (w.heap.push o)[w.heap.size]?=_;simp
theorem aB {g:Nat}{o:Obj}(h:W.heap[g]?=some o) (o':Obj):(W.alloc o').heap[g]?=some o:=ab h ((gt _ _).alloc (eq _) _)
theorem Kp.sub {S T:Nat->Prop}{w w':World}(h:Kp T w w') (hs:∀k,T k->S k):Kp S w w':=⟨h.os,h.tape,h.output,h.size,fun k hk hS=>h.block k hk (fun ht=>hS (hs k ht))⟩
structure Ev where
 k:Int
 n:Int
 d:Tv
deriving DecidableEq
def Ev.v (e:Ev):Value:=.agg #[.int .u8 e.k,.int .u8 e.n,.int .u8 e.d.k,.string e.d.t,.int .i64 e.d.a,.int .i64 e.d.l,.int .i64 e.d.c,.int .i64 e.d.f]
def Ev.cs (e:Ev):List Value:=[.int .u8 e.k,.int .u8 e.n,.int .u8 e.d.k,.string e.d.t,.int .i64 e.d.a,.int .i64 e.d.l,.int .i64 e.d.c,.int .i64 e.d.f]
theorem Ev.cs_len (e:Ev):e.cs.length=8:=rfl
theorem Ev.cs_one (e:Ev):∀u∈e.cs,u.oneCell'=true:=by
 intro u hu;simp only [Ev.cs,zK,Av,B6] at hu
 rcases hu with rfl|rfl|rfl|rfl|rfl|rfl|rfl|rfl <;> rfl
def ecs (l:List Ev):List Value:=aN Ev.cs l
theorem oI (l:List Ev):(ecs l).length=l.length*8:=cN Ev.cs 8 Ev.cs_len l
theorem oH (l:List Ev):∀u∈ecs l,u.oneCell'=true:=by
 intro u hu;obtain ⟨d,_,h⟩:=BG.1 hu;exact d.cs_one u h
theorem oJ (a b:List Ev):ecs (a++b)=ecs a++ecs b:=bB Ev.cs a b
def tv0:Tv:=⟨0,⟨#[]⟩,0,0,0,0⟩
def Nb (W:World) (v v':Value):Prop:=v'.ownBlock=v.ownBlock\/∃k,v'.ownBlock=some k/\W.heap.size<=k
theorem Nb.refl (W:World) (v:Value):Nb W v v:=.inl rfl
theorem Nb.trans {a b c:Value}(h:Nb W a b) (h':Nb W' b c) (hs:W.heap.size<=W'.heap.size):Nb W a c:=by
 rcases h' with h'|⟨k,h',hk⟩
 ·rcases h with h|⟨k,h,hk⟩
  ·exact .inl (h'.trans h)
  ·exact .inr ⟨k,h'.trans h,hk⟩
 ·exact .inr ⟨k,h',zr hs hk⟩
def Re (W:World) (v:Value) (l:List Ev):Prop:=W.ownsRow 0 39 8 v l.length (ecs l)
theorem jX (W:World):Re W (.slice none 0 0) []:=Ar W 0 39 8
theorem Re.kp {S:Nat->Prop}{W W':World}{v:Value}{l:List Ev}(h:Re W v l) (hk:Kp S W W') (hS:∀k,v.ownBlock=some k->¬S k):Re W' v l:=hk.row h hS
theorem Re.below {v:Value}{l:List Ev}(h:Re W v l) (hb:Below W.heap.size W W'):Re W' v l:=aE h hb
theorem Re.shape {v:Value}{l:List Ev}(h:Re W v l):∃p cap,v=.slice p l.length cap/\l.length<=cap/\cap<=maxLen:=av h
theorem Re.ne {v:Value}{l:List Ev}(h:Re W v l) {g:Nat}{cs:Array Value}{T:TypeId}{f:Nat × Nat}(hg:W.heap[g]?=some (.cells cs T f)) (hT:T≠39):∀k,v.ownBlock=some k->k≠g:=fun k hk e=>ay h hg hT (by rw [hk,e])
theorem Re.lt {v:Value}{l:List Ev}(h:Re W v l):∀k,v.ownBlock=some k->k<W.heap.size:=by
 intro k hk
 rcases h.2 with ⟨rfl,_⟩|⟨b,cap,cur,rfl,_,h3,_⟩
 ·cases hk
 ·simp only [Value.ownBlock,zL] at hk;subst hk;exact ah h3
theorem Tryz.info39:(Tryz.prog.info? 39).map (fun i=>(i.zero,i.size,i.bytes))=some (some (.agg #[.int .u8 0,.int .u8 0,.int .u8 0,.string ⟨#[]⟩,.int .i64 0,.int .i64 0,.int .i64 0,.int .i64 0]),8,64):=by kernel_rfl
def Rs (W:World) (v:Value) (l:List Value):Prop:=W.ownsRow 0 153 1 v l.length l
theorem xk (W:World):Rs W (.slice none 0 0) []:=Ar W 0 153 1
theorem Rs.kp {S:Nat->Prop}{W W':World}{v:Value}{l:List Value}(h:Rs W v l) (hk:Kp S W W') (hS:∀k,v.ownBlock=some k->¬S k):Rs W' v l:=hk.row h hS
theorem Rs.below {v:Value}{l:List Value}(h:Rs W v l) (hb:Below W.heap.size W W'):Rs W' v l:=aE h hb
theorem Rs.shape {v:Value}{l:List Value}(h:Rs W v l):∃p cap,v=.slice p l.length cap/\l.length<=cap/\cap<=maxLen:=av h
theorem Rs.ne {v:Value}{l:List Value}(h:Rs W v l) {g:Nat}{cs:Array Value}{T:TypeId}{f:Nat × Nat}(hg:W.heap[g]?=some (.cells cs T f)) (hT:T≠153):∀k,v.ownBlock=some k->k≠g:=fun k hk e=>ay h hg hT (by rw [hk,e])
theorem Rs.lt {v:Value}{l:List Value}(h:Rs W v l):∀k,v.ownBlock=some k->k<W.heap.size:=by
 intro k hk
 rcases h.2 with ⟨rfl,_⟩|⟨b,cap,cur,rfl,_,h3,_⟩
 ·cases hk
 ·simp only [Value.ownBlock,zL] at hk;subst hk;exact ah h3
theorem Tryz.info153:(Tryz.prog.info? 153).map (fun i=>(i.zero,i.size,i.bytes))=some (some .nilFunc,1,8):=by kernel_rfl
end Go.Proofs.YtpdlohfdjiaegaaGreatDoor
