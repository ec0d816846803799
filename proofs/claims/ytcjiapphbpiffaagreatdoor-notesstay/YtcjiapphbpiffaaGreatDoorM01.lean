import Derived.Test.YtcjiapphbpiffaaGreatDoorRows
import Derived.WalkKit
import Derived.WalkSpells
import Derived.WalkLawsBesides
import Derived.WalkSmall
import Derived.Laws.CopyOwn
import Derived.Deep.RegionLaw
import Derived.Maps.AppendAt
import Derived.Lib.AppendStr
import Derived.Deep.AppendLies
import Derived.ProofKit
import Derived.OpenShut
import Derived.Lay
import Derived.Deep.Strs
import Derived.Stop.Joined
import Derived.MakeChecks
set_option linter.unusedVariables false
set_option linter.unusedSimpArgs false
namespace Go.Proofs.YtcjiapphbpiffaaGreatDoor
open Go.RowKit
variable {W w w':World}{i g:Nat}{o:Obj}
abbrev gt:=@Nat.le_refl
abbrev hH:=@Go.RowKit.Below.refl
abbrev Eq:=@if_neg
abbrev IO:=@if_pos
abbrev Or:=@List.length_append
abbrev Pi:=@List.getElem?_eq_getElem
abbrev SW:=@Nat.zero_le
abbrev SX:=@Go.World.size_alloc
abbrev SY:=@Nat.le_trans
abbrev SZ:=@List.mem_cons_of_mem
abbrev S4:=@List.mem_cons_self
abbrev S5:=@List.append_assoc
abbrev S8:=@Go.World.cell?_of_block
abbrev S9:=@Go.World.block_lt_of_cell?
abbrev Tc:=@Bool.and_eq_true
abbrev Td:=@Nat.zero_add
abbrev Te:=@List.getElem?_eq_some_iff
abbrev Tf:=@decide_eq_true
abbrev Tg:=@decide_eq_false
abbrev Th:=@Bool.or_eq_true
abbrev Ti:=@Go.bodyPost_ret
abbrev Tl:=@List.eq_nil_of_length_eq_zero
abbrev Tm:=@congrArg
abbrev Tn:=@Nat.lt_of_lt_of_le
abbrev To:=@List.mem_append
abbrev Tp:=@Option.some.injEq
abbrev Tq:=@beq_eq_false_iff_ne
abbrev Tr:=@List.cons_append
abbrev Ts:=@Option.map_eq_some_iff
abbrev Tt:=@List.mem_cons
abbrev Tu:=@Bool.false_eq_true
abbrev Tw:=@List.length_drop
abbrev Ty:=@List.length_take
abbrev Tz:=@decide_eq_true_eq
abbrev TB:=@List.nil_append
abbrev TC:=@List.any_append
abbrev TD:=@List.drop_eq_getElem_cons
abbrev TE:=@Option.some.inj
abbrev TF:=@Classical.byContradiction
abbrev TG:=@List.append_nil
abbrev TH:=@Go.Proofs.Tryz.underlying9
abbrev TI:=@of_decide_eq_true
abbrev TJ:=@Go.IntKind.wrap_i64
abbrev TK:=@List.getElem?_drop
abbrev TM:=@Go.Proofs.Tryz.underlying56
abbrev TO:=@Go.Proofs.Tryz.underlying3
abbrev TQ:=@Array.length_toList
abbrev TR:=@List.take_append_drop
abbrev TS:=@Nat.add_zero
abbrev TT:=@List.take_append_of_le_length
abbrev TU:=@Go.World.ownsRow_nil
abbrev TV:=@List.getElem?_take
abbrev TW:=@Go.callsIn_wide
abbrev TX:=@Go.World.news_of_block
abbrev TY:=@beq_iff_eq
abbrev TZ:=@List.take_of_length_le
abbrev T1:=@List.map_cons
abbrev T2:=@Go.wpList_append_own_at
abbrev T3:=@List.mem_of_getElem?
abbrev T4:=@List.take_length
abbrev T5:=@Nat.le_of_lt
abbrev T6:=@Bool.true_and
abbrev T7:=@Go.info_parts
abbrev T8:=@List.getElem?_map
abbrev T9:=@Go.World.cell?_alloc_lt
abbrev Ua:=@List.drop_eq_nil_of_le
abbrev Ub:=@List.mem_append_right
abbrev Uc:=@List.countP_cons
abbrev Ud:=@List.getElem?_cons_succ
abbrev Ue:=@Go.Proofs.Tryz.underlying39
abbrev Uf:=@decide_eq_false_iff_not
abbrev Ug:=@List.append_cancel_left
abbrev Uh:=@Array.getElem?_eq_some_iff
abbrev Ui:=@if_false
abbrev Uj:=@ByteArray.size_extract
abbrev Uk:=@Array.getElem?_eq_getElem
abbrev Ul:=@List.prefix_rfl
abbrev Um:=@Nat.add_assoc
abbrev Un:=@List.any_eq_true
abbrev Uo:=@ByteArray.size_append
abbrev Up:=@Bool.eq_iff_iff
abbrev Uq:=@Int.le_refl
abbrev Ur:=@Array.replicate_succ
abbrev Us:=@Array.replicate_zero
abbrev Ut:=@Go.Proofs.Tryz.underlying5
abbrev Uu:=@ByteArray.append_assoc
abbrev Uv:=@Array.size_modify
abbrev Uw:=@List.drop_succ_cons
abbrev Ux:=@List.size_toArray
abbrev Uy:=@List.append_toArray
abbrev Uz:=@Bool.and_false
abbrev UA:=@Go.Addr.add_lit
abbrev UB:=@List.map_append
abbrev UC:=@List.length_map
abbrev UD:=@Go.Proofs.Tryz.zeroValue5
abbrev UE:=@List.mem_singleton
abbrev UF:=@decide_eq_decide
abbrev UG:=@Go.Proofs.Tryz.underlying4
abbrev UH:=@Go.Proofs.Tryz.ntmps79
abbrev UI:=@List.push_toArray
abbrev UJ:=@List.reverse_cons
abbrev UK:=@List.take_add_one
abbrev UL:=@Bool.not_eq_true'
abbrev UM:=@Option.map_some
abbrev UN:=@Array.getD_eq_getD_getElem?
abbrev UO:=@Go.Proofs.Tryz.zeroValue3
abbrev UP:=@Go.Proofs.Tryz.zeroValue9
abbrev UQ:=@List.length_reverse
abbrev UR:=@List.getD_eq_getElem?_getD
abbrev US:=@List.drop_length
abbrev UT:=@List.not_mem_nil
abbrev UU:=@Array.toList_inj
abbrev UV:=@List.mem_map
abbrev UW:=@List.length_replicate
abbrev UX:=@List.length_singleton
abbrev UY:=@Array.getElem_modify_self
abbrev UZ:=@Go.MakeChecks.laidMetH_plain
abbrev U1:=@List.mem_of_find?_eq_some
abbrev U2:=@Go.Proofs.Tryz.func79
abbrev U3:=@Bool.or_eq_false_iff
abbrev U4:=@Go.Proofs.Tryz.zeroValue4
abbrev U5:=@Go.Proofs.Tryz.underlying38
abbrev U6:=@List.takeWhile_append_dropWhile
abbrev U7:=@Go.Proofs.Tryz.sizeOf5
abbrev U8:=@Go.Proofs.Tryz.ntmps26
abbrev U9:=@Prod.mk.inj
abbrev Va:=@Go.ByteArray.toList_eq
abbrev Vb:=@if_true
abbrev Vc:=@Go.World.frozen?_alloc_old
abbrev Vd:=@Go.World.ownsRow.cells
abbrev Ve:=@List.mem_flatMap
abbrev Vf:=@Go.Proofs.Tryz.underlying0
abbrev Vg:=@Go.wp_scope_jumps
abbrev Vh:=@Array.getElem?_toList
abbrev Vi:=@Go.Proofs.Tryz.zeroValue0
abbrev Vj:=@Go.Proofs.Tryz.sizeOf3
abbrev Vk:=@Go.Proofs.Tryz.isAgg5
abbrev Vl:=@Go.Proofs.Tryz.sizeOf9
abbrev Vm:=@Go.Exit.noGoto_ret
abbrev Vn:=@Go.Proofs.Tryz.func26
abbrev Vo:=@Int.toNat_natCast
abbrev Vp:=@List.getElem?_append_right
abbrev Vq:=@Go.DataW.trod_int
abbrev Vr:=@Bool.false_and
abbrev Vs:=@List.append_inj'
abbrev Vt:=@Go.step_append_lies
abbrev Vu:=@List.all_eq_true
abbrev Vv:=@Go.Proofs.Tryz.isAgg3
abbrev Vw:=@Go.Proofs.Tryz.isAgg9
abbrev Vx:=@Go.leaves_cons
abbrev Vy:=@Nat.lt_or_ge
abbrev Vz:=@Go.RowKit.Below.size
abbrev VA:=@Go.Proofs.Tryz.sizeOf4
abbrev VB:=@Nat.sub_self
abbrev VC:=@Bool.true_or
abbrev VD:=@Go.RowKit.Below.heap_setCell
abbrev VE:=@Go.World.var?_cell
abbrev VF:=@Go.Proofs.Tryz.underlying176
abbrev VG:=@Nat.add_le_add_iff_left
abbrev VH:=@Nat.add_sub_cancel
abbrev VI:=@Go.RowKit.Below.setCell
abbrev VJ:=@Nat.add_sub_cancel_left
abbrev VK:=@of_decide_eq_false
abbrev VL:=@Array.getElem!_eq_getD
abbrev VM:=@Go.run_convert_int_string
abbrev VN:=@Go.World.ownsRow.frozenAt
abbrev VO:=@List.any_eq_false
abbrev VP:=@Go.Proofs.Tryz.isAgg4
abbrev VQ:=@Go.Proofs.Tryz.zeroValue176
abbrev VR:=@List.find?_append
abbrev VS:=@Go.Proofs.Tryz.underlying96
abbrev VT:=@Go.setRow_heap
abbrev VU:=@Prod.ext
abbrev VV:=@List.take_take
abbrev VW:=@List.drop_zero
abbrev VX:=@Go.Sem.run_bind
abbrev VY:=@ByteArray.data_append
abbrev VZ:=@getElem!_pos
abbrev V0:=@Go.Proofs.Tryz.sizeOf0
abbrev V2:=@Go.Proofs.Tryz.ntmps86
abbrev V5:=@Go.Proofs.Tryz.ntmps39
abbrev V6:=@List.drop_append
abbrev V8:=@List.drop_append_of_le_length
abbrev V9:=@Go.DataW.trod_array
abbrev Wa:=@Option.getD_some
abbrev Wb:=@Go.Proofs.Tryz.zeroValue39
abbrev Wc:=@Go.Lib.byteCells_length
abbrev Wd:=@List.mem_of_mem_take
abbrev We:=@List.mem_append_left
abbrev Wf:=@Go.Proofs.Tryz.ntmps149
abbrev Wg:=@Go.Proofs.Tryz.ntmps139
abbrev Wh:=@Bool.and_true
abbrev Wi:=@List.any_cons
abbrev Wj:=@Go.RowKit.Below.drew
abbrev Wk:=@List.flatMap_append
abbrev Wl:=@List.take_succ_cons
abbrev Wn:=@Go.DataW.lit.injEq
abbrev Wo:=@UInt8.toNat_inj
abbrev Wp:=@Go.Proofs.Tryz.isAgg0
abbrev Wq:=@Go.RowKit.Below.alloc
abbrev Wr:=@Go.results_tmp
abbrev Ws:=@Go.Proofs.Tryz.func86
abbrev Wt:=@List.dropWhile_cons
abbrev Wu:=@Go.run_loadVar_row
abbrev Wv:=@Go.Proofs.Tryz.func39
abbrev Ww:=@Nat.succ_mul
abbrev Wx:=@List.map_nil
abbrev Wy:=@Go.Proofs.Tryz.underlying106
abbrev Wz:=@Go.run_next_any
abbrev WA:=@List.find?_eq_none
abbrev WB:=@Nat.sub_zero
abbrev WC:=@Go.Proofs.Tryz.func149
abbrev WD:=@Go.Proofs.Tryz.func139
abbrev WE:=@Go.Proofs.Tryz.underlying227
abbrev WF:=@List.countP_append
abbrev WG:=@Go.Proofs.Tryz.sizeOf176
abbrev WH:=@Go.run_storeCells_at
abbrev WI:=@Go.Proofs.Tryz.underlying21
abbrev WJ:=@Go.Proofs.Tryz.underlying68
abbrev WK:=@Go.Proofs.Tryz.underlying41
abbrev WL:=@Go.DataW.agg.inj
abbrev WM:=@ByteArray.ext
abbrev WN:=@Go.Proofs.Tryz.isAgg176
abbrev WO:=@Go.Proofs.Tryz.sizeOf39
abbrev WQ:=@Bool.false_or
abbrev WR:=@Go.Proofs.Tryz.ntmps138
abbrev WS:=@Go.Proofs.Tryz.ntmps131
abbrev WT:=@Go.Proofs.Tryz.ntmps125
abbrev WU:=@Go.Proofs.Tryz.zeroValue21
abbrev WV:=@Go.Proofs.Tryz.zeroValue68
abbrev WW:=@Go.Proofs.Tryz.zeroValue38
abbrev WX:=@Go.Proofs.Tryz.zeroValue41
abbrev WY:=@List.cons_ne_nil
abbrev WZ:=@Go.run_next_end
abbrev W4:=@Go.Oper.upon_value
abbrev W6:=@Go.Proofs.Tryz.ntmps29
abbrev W8:=@Int.natCast_add
abbrev W9:=@Go.Proofs.Tryz.isAgg39
abbrev Xa:=@List.map_map
abbrev Xb:=@Nat.min_eq_left
abbrev Xc:=@List.sum_append
abbrev Xd:=@Go.Proofs.Tryz.ntmps16
abbrev Xe:=@List.take_left'
abbrev Xf:=@Go.Proofs.Tryz.func138
abbrev Xg:=@Go.Proofs.Tryz.func131
abbrev Xh:=@Go.Proofs.Tryz.func125
abbrev Xi:=@or_false
abbrev Xj:=@Go.Proofs.Tryz.func29
abbrev Xk:=@Go.Proofs.Tryz.func16
abbrev Xl:=@Ne.symm
theorem mkfn:∀(C:Fn) (first cap:Array Value) (w:World),(Instr.makeFunc C first cap).run Tryz.prog w=.ok (.func C first cap) w:=fun _ _ _ _=>rfl
abbrev Ta:=Calls Tryz.prog
abbrev Tb (W V:World):Prop:=Below W.heap.size W V
theorem ai{p:Prop}(h:p):Hid p:=h
structure Fr (i:Nat) (own own':Nat->Nat) (w w':World):Prop where
 os:w'.os=w.os
 tape:w'.tape=w.tape
 output:w'.output=w.output
 size:w.heap.size<=w'.heap.size
 block:∀k,k<w.heap.size->own k≠i->w'.heap[k]?=w.heap[k]?
 old:∀k,k<w.heap.size->own' k=own k
def Nf (own:Nat->Nat) (w:World):Prop:=∀k,w.heap.size<=k->own k=0
theorem Fr.refl (i:Nat) (own:Nat->Nat) (w:World):Fr i own own w w:=⟨rfl,rfl,rfl,gt _,fun _ _ _=>rfl,fun _ _=>rfl⟩
theorem Fr.of_below {i:Nat}{own:Nat->Nat}{w w':World}(h:Below w.heap.size w w'):Fr i own own w w':=
 ⟨h.os,h.tape,h.output,h.size,fun k C _=>h.block k C,fun _ _=>rfl⟩
theorem Fr.below {B:Nat}{own C:Nat->Nat}(h:Fr i own C w w') (H:B<=w.heap.size) (G:∀k,k<B->own k=0) (I:i≠0):Below B w w':=
 ⟨h.os,h.tape,h.output,h.size,fun k F=>h.block k (by omega) (by rw [G k F];omega)⟩
theorem Fr.cell {i:Nat}{own C:Nat->Nat}{w w':World}(h:Fr i own C w w') {a:Addr}{v:Value}(hc:w.cell? a=some v) (F:own a.block≠i):w'.cell? a=some v:=
 (S8 (h.block a.block (S9 w a hc) F)).trans hc
theorem Nf.below {own:Nat->Nat}(h:Nf own w) (C:w.heap.size<=w'.heap.size):Nf own w':=fun k F=>h k (by omega)
theorem af {W:World}{g k:Nat}{cs:Array Value}{T:TypeId}{v:Value}(h:W.heap[g]?=some (.cells cs T (0,0))) (C:cs[k]?=some v):W.cell? ⟨g,k,none⟩=some v:=by simp [World.cell?,h,C]
theorem am {W:World}{g k:Nat}{cs:Array Value}{T:TypeId}(h:W.heap[g]?=some (.cells cs T (0,0))):W.frozen? ⟨g,k,none⟩=false:=by simp [World.frozen?,h]
theorem aj {cs:Array Value}{T:TypeId}(h:W.heap[g]?=some (.cells cs T (0,0))) (k:Nat) (v:Value):(W.setCell ⟨g,k,none⟩ v).heap[g]?=some (.cells (cs.setIfInBounds k v) T (0,0)):=by
 obtain ⟨C,F⟩:=Uh.1 h;show (W.heap.modify g _)[g]?=_;rw [Uk (by rw [Uv];exact C),UY,F];rfl
theorem bh {b k:Nat}(h:W.heap[g]?=some o) (C:g≠b) (v:Value):(W.setCell ⟨b,k,none⟩ v).heap[g]?=some o:=
 (VD W ⟨b,k,none⟩ v g C).trans h
theorem au (h:W.heap[g]?=some o):g<W.heap.size:=(Uh.1 h).1
theorem ag {W W':World}{g:Nat}{o:Obj}(h:W.heap[g]?=some o) (C:Below W.heap.size W W'):W'.heap[g]?=some o:=(C.block g (au h)).trans h
theorem Fr.set {own C:Nat->Nat}(h:Fr i own C w W) {g:Nat}(I:C g=i) (k:Nat) (v:Value) (H:∀j,j<w.heap.size->own j≠i->j≠g):Fr i own C w (W.setCell ⟨g,k,none⟩ v):=
 ⟨h.os,h.tape,h.output,by show _<=(W.heap.modify g _).size;rw [Uv];exact h.size,
 fun j G F=>(VD W ⟨g,k,none⟩ v j (H j G F)).trans (h.block j G F),h.old⟩
theorem Fr.set' {own:Nat->Nat}(h:Fr i own own w W) {g:Nat}(C:own g=i) (k:Nat) (v:Value):Fr i own own w (W.setCell ⟨g,k,none⟩ v):=
 h.set C k v (fun j _ F e=>F (by rw [e];exact C))
section
variable {β:Type} (enc:β->List Value) (sz:Nat)
def bB (zs:List β):List Value:=zs.flatMap enc
theorem ie (x:β) (C:List β):bB enc (x :: C)=enc x++bB enc C:=rfl
theorem cz (xs C:List β):bB enc (xs++C)=bB enc xs++bB enc C:=by unfold bB;exact Wk
variable (hsz:∀x,(enc x).length=sz)
include hsz
theorem fC (C:List β):(bB enc C).length=C.length*sz:=by
 induction C with
 |nil=>simp [bB]
 |cons x r ih=>rw [ie,Or,ih,hsz,List.length_cons,Ww];omega
theorem mh:∀(k:Nat) (C:List β),(bB enc C).drop (k*sz)=bB enc (C.drop k)
 |0,C=>by simp
 |k+1,[]=>by simp [bB]
 |k+1,x :: r=>by
  rw [ie,V6,hsz,Uw,<-mh k r,Ua (by rw [hsz,Ww];omega),TB]
  congr 1;rw [Ww];omega
theorem rN:∀(k:Nat) (C:List β),(bB enc C).take (k*sz)=bB enc (C.take k)
 |0,C=>by simp [bB]
 |k+1,[]=>by simp [bB]
 |k+1,x :: r=>by
  rw [ie,List.take_append,hsz,Wl,ie,<-rN k r,TZ (by rw [hsz,Ww];omega)]
  congr 2;rw [Ww];omega
theorem aR (C:List β) (k j:Nat) (x:β) (v:Value) (I:C[k]?=some x) (F:(enc x)[j]?=some v):(bB enc C)[k*sz+j]?=some v:=by
 have G:(bB enc C)[k*sz+j]?=((bB enc C).drop (k*sz))[j]?:=by rw [TK]
 rw [G,mh enc sz hsz];obtain ⟨J,H⟩:=Te.1 I;rw [TD J,H,ie];rw [List.getElem?_append_left (Te.1 F).1];exact F
omit hsz in
end
theorem eL {P:Program}(w:World) (dT sT ty F:TypeId) (sz g o C H:Nat) (a:Addr) (G M:Nat) (cur:Array Value) (t:TypeId) (cs:List Value)
  (hu:P.underlying dT=some (.slice F)) (S:(P.info? F).map (·.size)=some sz)
  (Y:w.heap[g]?=some (.cells cur t (0,0))) (hn:cs.length=Nat.min G C*sz)
  (J:∀j v,cs[j]?=some v->w.cell? (a.add j)=some v) (I:o+cs.length<=cur.size) (U:∀v∈cs,v.oneCell'=true) :
  (Builtin.copy_ #[dT,sT] ty #[.slice (some ⟨g,o,none⟩) C H,.slice (some a) G M]).run P w =
   .ok (goInt (Nat.min G C)) (w.setRow g (cur.toList.take o++cs++cur.toList.drop (o+cs.length)).toArray):=by
 have hl:=run_loadCells_list (P:=P) w a cs J;have Q:=WH P g o t cs 0 cur w Y (by simpa using I) U;cases O:P.info? F with
 |none=>simp [O] at S
 |some i=>
  have Z:i.size=sz:=by simpa [O] using S
  simp [Builtin.copy_,run_underlying hu,Builtin.lenOf,Builtin.firstCells,sizeOf,typeInfo,O,Z,<-hn,hl,Q]
end Go.Proofs.YtcjiapphbpiffaaGreatDoor
namespace Go.Proofs.YtcjiapphbpiffaaGreatDoor
open Go.RowKit
open Go.Lib (strCells strCells_length)
variable {w w':World}{f e sz n m:Nat}{v:Value}{xs:List Value}{t:List UInt8}
def bc (l:List UInt8):List Value:=l.map fun b=>Value.int .u8 b.toNat
theorem OZ (l:List UInt8):(bc l).length=l.length:=by simp [bc]
theorem zp (a b:List UInt8):bc (a++b)=bc a++bc b:=by simp [bc]
theorem OY (l:List UInt8):∀u∈bc l,u.oneCell'=true:=by
 intro u C;simp only [bc,UV] at C;obtain ⟨x,_,rfl⟩:=C;rfl
theorem LX (l:List UInt8) (k:Nat):(bc l).drop k=bc (l.drop k):=by simp [bc]
theorem LW (l:List UInt8) (k:Nat):(bc l).take k=bc (l.take k):=by simp [bc]
theorem iJ {P:Program}(w:World) (base:Nat) (t u S e:TypeId) (i:TypeInfo) (ht:P.underlying t=some (.slice e)) (hu:P.underlying u=some .string) (Z:P.info? e=some i) (hz:i.zero=some (.int .u8 0))
  (C:i.size=1) (J:i.bytes=1) (v:Value) (n:Nat) (xs:List Value) (F:w.ownsRow base e 1 v n xs) (s:ByteArray)
  (Y:n+s.size<=maxLen) (H:n+s.size<=140737488355328) (M:base<=w.heap.size) :
  ∃v' w',(Builtin.append_ #[t,u] S #[v,.string s]).run P w=.ok v' w'/\w'.ownsRow base e 1 v' (n+s.size) (xs++strCells s)/\w.grownBy w' v.ownBlock/\(v'.ownBlock=v.ownBlock\/v'.ownBlock=some w.heap.size):=by
 obtain ⟨v',w',I,h1,h2,h3⟩:=Lib.run_append_own_string (P:=P) w base t u S e i ht hu Z hz C J v n xs F s Y H M;refine ⟨v',w',I,h1,h2,?_⟩;have aa:n+s.size<=9223372036854775807:=by simp only [maxLen] at Y;omega
 have ac:xs.length=n:=by simpa using F.1
 rcases F.2 with ⟨rfl,rfl⟩|⟨g,cap,U,rfl,af,hg,ah,ag,ab,ad⟩
 ·by_cases hm:s.size=0
  ·left;rw [h3.2 ⟨rfl,hm⟩]
  ·have G:=run_append_nil_string (P:=P) w t u S e i (.int .u8 0) ht hu Z hz s (by omega) (by omega) (by rw [J];omega);rw [G] at I;injection I with e1 e2
   right;rw [<-e1];rfl
 ·by_cases Q:n+s.size<=cap
  ·have ae:U.size=cap:=by simpa using ab
   have G:=Lib.run_append_room_string (P:=P) w t u S e i ht hu Z C g n cap U hg s Q (by omega);rw [G] at I;injection I with e1 e2
   left;rw [<-e1];rfl
  ·have O:∀j u,xs[j]?=some u->w.cell? ((⟨g,0,none⟩:Addr).add j)=some u:=F.cells (g:=g) rfl;have G:=Lib.run_append_grow_string (P:=P) w t u S e i (.int .u8 0) ht hu Z hz ⟨g,0,none⟩ n cap xs (by rw [C];simpa using ac) O s (by omega) (by omega) (by rw [J];exact growslice_fits (by omega) (by omega));rw [G] at I;injection I with e1 e2
   right;rw [<-e1];rfl
theorem cO {P:Program}{w:World}{H:Array Oper}{rest:List Oper}{o:Oper}{a:Act}{Q:Exit->Act->World->Prop}(O:o.guard=none) (S x:Operand) (t u:TypeId)
  (ho:o.op=.call { callee:=.builtin .append,args:=#[S,x],argTypes:=#[t,u] })
  (base:Nat) (e:TypeId) (i:TypeInfo) (ht:P.underlying t=some (.slice e)) (hu:P.underlying u=some .string) (hi:P.info? e=some i) (hz:i.zero=some (.int .u8 0))
  (G:i.size=1) (M:i.bytes=1)
  (v:Value) (n:Nat) (xs:List Value) (hs:a.eval S=v) (I:w.ownsRow base e 1 v n xs) (s:ByteArray) (hx:a.eval x=.string s)
  (J:n+s.size<=maxLen) (C:n+s.size<=140737488355328) (F:base<=w.heap.size)
  (h:∀v' w',w'.ownsRow base e 1 v' (n+s.size) (xs++strCells s)->w.grownBy w' v.ownBlock->(v'.ownBlock=v.ownBlock\/v'.ownBlock=some w.heap.size)->wpList P H Q rest (a.put o.dst v') w'):wpList P H Q (o :: rest) a w:=by
 refine wpList_plain O fun K hK=>?_
 obtain ⟨v',w',hr,U,Y,Z⟩:=iJ (P:=P) w base t u o.type e i ht hu hi hz G M v n xs I s J C F;unfold Oper.wp execOp;simp only [ho,resolve,invoke,builtin,VX,Sem.run_pure,Result.andThen_ok,List.map_toArray,T1,Wx,hs,hx,hr];exact hK _ _ (h v' w' U Y Z)
structure Kp (S:Nat->Prop) (w w':World):Prop where
 os:w'.os=w.os
 tape:w'.tape=w.tape
 output:w'.output=w.output
 size:w.heap.size<=w'.heap.size
 block:∀k,k<w.heap.size->¬S k->w'.heap[k]?=w.heap[k]?
theorem Kp.refl (S:Nat->Prop) (w:World):Kp S w w:=⟨rfl,rfl,rfl,gt _,fun _ _ _=>rfl⟩
theorem Kp.trans {S:Nat->Prop}{a b c:World}(h:Kp S a b) (k:Kp S b c):Kp S a c:=
 ⟨k.os.trans h.os,k.tape.trans h.tape,k.output.trans h.output,SY h.size k.size,fun j F C=>(k.block j (Tn F h.size) C).trans (h.block j F C)⟩
theorem Kp.step {S T:Nat->Prop}{a b c:World}(h:Kp S a b) (k:Kp T b c) (G:∀j,j<a.heap.size->T j->S j):Kp S a c:=
 ⟨k.os.trans h.os,k.tape.trans h.tape,k.output.trans h.output,SY h.size k.size,fun j C F=>(k.block j (Tn C h.size) (fun ht=>F (G j C ht))).trans (h.block j C F)⟩
theorem Kp.of_below {S:Nat->Prop}{w w':World}(h:Below w.heap.size w w'):Kp S w w':=⟨h.os,h.tape,h.output,h.size,fun k C _=>h.block k C⟩
theorem Kp.of_grown {row:Option Nat}(h:w.grownBy w' row):Kp (fun k=>some k=row) w w':=⟨h.os,h.tape,h.output,h.size,fun k F C=>h.block k F C⟩
theorem Kp.set (w:World) (g k:Nat) (v:Value):Kp (fun j=>j=g) w (w.setCell ⟨g,k,none⟩ v):=
 ⟨rfl,rfl,rfl,by show _<=(w.heap.modify g _).size;rw [Uv];exact gt _,fun j F C=>VD w ⟨g,k,none⟩ v j C⟩
theorem Kp.alloc {S:Nat->Prop}{a b:World}(h:Kp S a b) (o:Obj):Kp S a (b.alloc o):=h.step (T:=S) (Kp.of_below ((hH _ _).alloc (gt _) _)) (fun _ _ h=>h)
theorem Kp.same {S:Nat->Prop}{w W W':World}(h:Kp S w W) (C:W'.heap=W.heap) (F:W'.os=W.os) (G:W'.tape=W.tape) (H:W'.output=W.output):Kp S w W':=
 ⟨F.trans h.os,G.trans h.tape,H.trans h.output,by rw [C];exact h.size,by rw [C];exact h.block⟩
theorem Kp.fr {S:Nat->Prop}{i:Nat}{own C:Nat->Nat}(h:Kp S w w') (G:∀k,k<w.heap.size->S k->own k=i) (I:∀k,k<w.heap.size->C k=own k):Fr i own C w w':=
 ⟨h.os,h.tape,h.output,h.size,fun k F H=>h.block k F (fun J=>H (G k F J)),I⟩
theorem Kp.blk {S:Nat->Prop}{w w':World}(h:Kp S w w') {g:Nat}{o:Obj}(C:w.heap[g]?=some o) (F:¬S g):w'.heap[g]?=some o:=(h.block g (au C) F).trans C
theorem Kp.row {S:Nat->Prop}(h:Kp S w w') {e sz n:Nat}{v:Value}{xs:List Value}(F:w.ownsRow 0 e sz v n xs) (M:∀k,v.ownBlock=some k->¬S k):w'.ownsRow 0 e sz v n xs:=by
 refine ⟨F.1,?_⟩
 rcases F.2 with G|⟨g,cap,C,rfl,H,I,J⟩
 ·exact .inl G
 ·exact .inr ⟨g,cap,C,rfl,H,h.blk I (M g rfl),J⟩
theorem aN {g:Nat}{cs:Array Value}{T:TypeId}{f:Nat × Nat}(H:w.ownsRow 0 e sz v n xs) (G:w.heap[g]?=some (.cells cs T f)) (F:T≠e):v.ownBlock≠some g:=by
 intro h
 rcases H.2 with ⟨rfl,_⟩|⟨b,cap,I,rfl,_,C,_⟩
 ·cases h
 ·simp only [Value.ownBlock,Tp] at h;subst h;rw [G] at C;injection C with h4
  injection h4 with _ h5
  exact F h5
theorem aK (G:w.ownsRow 0 e sz v n xs):∃p cap,v=.slice p n cap/\n<=cap/\cap<=maxLen:=by
 rcases G.2 with ⟨rfl,rfl⟩|⟨b,cap,H,rfl,_,I,C,F,_⟩
 ·exact ⟨none,0,rfl,gt _,SW _⟩
 ·exact ⟨_,cap,rfl,C,F⟩
theorem bv (F:w.ownsRow 0 e sz v n xs) (C:Below w.heap.size w w'):w'.ownsRow 0 e sz v n xs:=
 (Kp.of_below (S:=fun _=>False) C).row F (fun _ _ h=>h)
def dj:Nat->List (Nat × Nat)->List UInt8->List UInt8
 |f,[],t=>t.drop f
 |f,(a,n) :: r,t=>(t.drop f).take (a-f)++(List.replicate n 32++dj a r t)
def oz:Nat->List (Nat × Nat)->Nat->Prop
 |f,[],m=>f<=m
 |f,(a,_) :: r,m=>f<=a/\oz a r m
def dd:List (Nat × Nat)->Nat
 |[]=>0
 | (_,n) :: r=>n+dd r
theorem oz.le {gs:List (Nat × Nat)}(h:oz f gs m):f<=m:=by
 induction gs generalizing f with
 |nil=>exact h
 |cons x r ih=>obtain ⟨a,n⟩:=x;exact SY h.1 (ih h.2)
theorem oz.more {gs:List (Nat × Nat)}{C:Nat}(h:oz f gs m) (F:m<=C):oz f gs C:=by
 induction gs generalizing f with
 |nil=>exact SY h F
 |cons x r ih=>obtain ⟨a,n⟩:=x;exact ⟨h.1,ih h.2⟩
theorem oz.snoc {gs:List (Nat × Nat)}(n:Nat) (h:oz f gs m):oz f (gs++[(m,n)]) m:=by
 induction gs generalizing f with
 |nil=>exact ⟨h,gt _⟩
 |cons x r ih=>obtain ⟨a,n⟩:=x;exact ⟨h.1,ih h.2⟩
theorem qW {gs:List (Nat × Nat)}(s:List UInt8) (h:oz f gs t.length):dj f gs (t++s)=dj f gs t++s:=by
 induction gs generalizing f with
 |nil=>simp only [dj];exact V8 h
 |cons x r ih=>
  obtain ⟨a,n⟩:=x;have C:=h.2.le;simp only [dj];rw [ih h.2,V8 (SY h.1 C),TT (by rw [Tw];have:=h.1;omega)];simp [S5]
theorem BK {gs:List (Nat × Nat)}(n:Nat) (h:oz f gs t.length):dj f (gs++[(t.length,n)]) t=dj f gs t++List.replicate n 32:=by
 induction gs generalizing f with
 |nil=>simp only [dj,TB];rw [TZ (by simp),US];simp
 |cons x r ih=>
  obtain ⟨a,k⟩:=x;simp only [dj,Tr];rw [ih h.2];simp [S5]
theorem lE {gs:List (Nat × Nat)}(h:oz f gs t.length):(dj f gs t).length=t.length-f+dd gs:=by
 induction gs generalizing f with
 |nil=>simp [dj,dd]
 |cons x r ih=>
  obtain ⟨a,k⟩:=x;have F:=h.2.le;have C:=h.1;simp only [dj,dd,Or,UW,Ty,Tw,ih h.2];omega
theorem El (a:List (Nat × Nat)) (x n:Nat):dd (a++[(x,n)])=dd a+n:=by
 induction a with
 |nil=>simp [dd]
 |cons y r ih=>obtain ⟨b,k⟩:=y;simp only [Tr,dd,ih];omega
end Go.Proofs.YtcjiapphbpiffaaGreatDoor
namespace Go.Proofs.YtcjiapphbpiffaaGreatDoor
open Go.RowKit
variable {w W w':World}{B:Nat}
structure Tv where
 k:Int
 t:ByteArray
 a:Int
 l:Int
 c:Int
 f:Int
deriving DecidableEq
def Tv.v (d:Tv):Value:=.agg #[.int .u8 d.k,.string d.t,.int .i64 d.a,.int .i64 d.l,.int .i64 d.c,.int .i64 d.f]
def Tv.cs (d:Tv):List Value:=[.int .u8 d.k,.string d.t,.int .i64 d.a,.int .i64 d.l,.int .i64 d.c,.int .i64 d.f]
theorem Tv.cs_len (d:Tv):d.cs.length=6:=rfl
theorem Tv.cs_one (d:Tv):∀u∈d.cs,u.oneCell'=true:=by
 intro u C;simp only [Tv.cs,Tt,UT,Xi] at C
 rcases C with rfl|rfl|rfl|rfl|rfl|rfl <;> rfl
def IG (l:List Tv):List Value:=bB Tv.cs l
theorem Jj (l:List Tv):(IG l).length=l.length*6:=fC Tv.cs 6 Tv.cs_len l
theorem Ji (l:List Tv):∀u∈IG l,u.oneCell'=true:=by
 intro u C;obtain ⟨d,_,h⟩:=Ve.1 C;exact d.cs_one u h
theorem Jk (a b:List Tv):IG (a++b)=IG a++IG b:=cz Tv.cs a b
def Lt (w:World) (ao:Option Addr) (l:List Tv):Prop:=∀j d,l[j]?=some d->∃b off,ao=some ⟨b,off,none⟩ /\
 w.cell? ⟨b,off+j*6,none⟩=some (.int .u8 d.k)/\w.cell? ⟨b,off+j*6+1,none⟩=some (.string d.t)/\w.cell? ⟨b,off+j*6+2,none⟩=some (.int .i64 d.a)/\w.cell? ⟨b,off+j*6+3,none⟩=some (.int .i64 d.l)/\w.cell? ⟨b,off+j*6+4,none⟩=some (.int .i64 d.c)/\w.cell? ⟨b,off+j*6+5,none⟩=some (.int .i64 d.f)
theorem Lt.kp {S:Nat->Prop}{w w':World}{ao:Option Addr}{l:List Tv}(h:Lt w ao l) (M:Kp S w w') (I:∀a,ao=some a->¬S a.block):Lt w' ao l:=by
 intro j a J;obtain ⟨b,F,G,c0,c1,c2,c3,c4,H⟩:=h j a J;have C:=S9 _ _ c0;have e:w'.heap[b]?=w.heap[b]?:=M.block b C (I _ G);exact ⟨b,F,G,(S8 (a:=⟨b,_,none⟩) e).trans c0,(S8 (a:=⟨b,_,none⟩) e).trans c1,(S8 (a:=⟨b,_,none⟩) e).trans c2,(S8 (a:=⟨b,_,none⟩) e).trans c3,(S8 (a:=⟨b,_,none⟩) e).trans c4,(S8 (a:=⟨b,_,none⟩) e).trans H⟩
theorem Lt.below {ao:Option Addr}{l:List Tv}(h:Lt w ao l) (C:Below w.heap.size w w'):Lt w' ao l:=h.kp (Kp.of_below (S:=fun _=>False) C) (fun _ _ h=>h)
def Rt (B:Nat) (w:World) (v:Value) (l:List Tv):Prop:=w.ownsRow B 49 6 v l.length (IG l)
theorem Nq (B:Nat) (w:World):Rt B w (.slice none 0 0) []:=TU w B 49 6
theorem Rt.shape {v:Value}{l:List Tv}(h:Rt B w v l):∃p cap,v=.slice p l.length cap/\l.length<=cap/\cap<=maxLen:=by
 rcases h.2 with ⟨rfl,C⟩|⟨b,cap,H,rfl,_,I,F,G,_⟩
 ·exact ⟨none,0,by rw [C],by omega,SW _⟩
 ·exact ⟨_,cap,rfl,F,G⟩
theorem Rt.own {v:Value}{l:List Tv}(h:Rt B w v l):∀k,v.ownBlock=some k->B<=k:=by
 intro k C
 rcases h.2 with ⟨rfl,G⟩|⟨b,cap,F,rfl,H,_⟩
 ·cases C
 ·simp only [Value.ownBlock,Tp] at C;omega
theorem Rt.below {v:Value}{l:List Tv}(h:Rt B w v l) (J:Below w.heap.size w w'):Rt B w' v l:=by
 refine ⟨h.1,?_⟩
 rcases h.2 with F|⟨g,cap,C,rfl,G,H,I⟩
 ·exact .inl F
 ·exact .inr ⟨g,cap,C,rfl,G,ag H J,I⟩
theorem Rt.kp {B:Nat}{S:Nat->Prop}{w w':World}{v:Value}{l:List Tv}(h:Rt B w v l) (M:Kp S w w') (J:∀k,v.ownBlock=some k->¬S k):Rt B w' v l:=by
 refine ⟨h.1,?_⟩
 rcases h.2 with F|⟨g,cap,C,rfl,G,H,I⟩
 ·exact .inl F
 ·exact .inr ⟨g,cap,C,rfl,G,M.blk H (J g rfl),I⟩
theorem Rt.ne {v:Value}{l:List Tv}(h:Rt B w v l) {g:Nat}{cs:Array Value}{T:TypeId}{f:Nat × Nat}(H:w.heap[g]?=some (.cells cs T f)) (G:T≠49):∀k,v.ownBlock=some k->k≠g:=by
 intro k C e
 rcases h.2 with ⟨rfl,J⟩|⟨b,cap,I,rfl,M,F,_⟩
 ·cases C
 ·simp only [Value.ownBlock,Tp] at C;subst C;subst e;rw [H] at F;cases F;exact G rfl
theorem Lt.row {v:Value}{l:List Tv}(h:Rt B w v l):∃ao cap,v=.slice ao l.length cap/\Lt w ao l/\(ao=none\/∃g,ao=some ⟨g,0,none⟩/\B<=g/\g<w.heap.size)/\l.length<=cap/\cap<=maxLen:=by
 rcases h.2 with ⟨rfl,G⟩|⟨g,cap,Q,rfl,J,M,H,I,S,U⟩
 ·have:l=[]:=Tl G;subst this;exact ⟨none,0,rfl,fun j d h=>by simp at h,.inl rfl,SW _,SW _⟩
 ·refine ⟨some ⟨g,0,none⟩,cap,rfl,?_,.inr ⟨g,rfl,J,au M⟩,H,I⟩;intro j d F
  have C:∀(k:Nat) (u:Value),(IG l)[k]?=some u->w.cell? ⟨g,k,none⟩=some u:=fun k u O=>by
   have:=h.cells (g:=g) rfl k u O;rw [UA,Td] at this;exact this
  refine ⟨g,0,rfl,?_,?_,?_,?_,?_,?_⟩
  ·rw [Td];exact C _ _ (aR Tv.cs 6 Tv.cs_len l j 0 d _ F rfl)
  ·rw [Td];exact C _ _ (aR Tv.cs 6 Tv.cs_len l j 1 d _ F rfl)
  ·rw [Td];exact C _ _ (aR Tv.cs 6 Tv.cs_len l j 2 d _ F rfl)
  ·rw [Td];exact C _ _ (aR Tv.cs 6 Tv.cs_len l j 3 d _ F rfl)
  ·rw [Td];exact C _ _ (aR Tv.cs 6 Tv.cs_len l j 4 d _ F rfl)
  ·rw [Td];exact C _ _ (aR Tv.cs 6 Tv.cs_len l j 5 d _ F rfl)
theorem Tryz.info49:(Tryz.prog.info? 49).map (fun i=>(i.zero,i.size,i.bytes))=some (some (.agg #[.int .u8 0,.string ⟨#[]⟩,.int .i64 0,.int .i64 0,.int .i64 0,.int .i64 0]),6,56):=by kernel_rfl
theorem aq (w:World) (o:Obj):(w.alloc o).heap[w.heap.size]?=some o:=by show (w.heap.push o)[w.heap.size]?=_;simp
theorem aD {g:Nat}{o:Obj}(h:W.heap[g]?=some o) (o':Obj):(W.alloc o').heap[g]?=some o:=ag h ((hH _ _).alloc (gt _) _)
theorem Kp.sub {S T:Nat->Prop}{w w':World}(h:Kp T w w') (G:∀k,T k->S k):Kp S w w':=⟨h.os,h.tape,h.output,h.size,fun k F C=>h.block k F (fun ht=>C (G k ht))⟩
structure Ev where
 k:Int
 n:Int
 d:Tv
deriving DecidableEq
def Ev.v (e:Ev):Value:=.agg #[.int .u8 e.k,.int .u8 e.n,.int .u8 e.d.k,.string e.d.t,.int .i64 e.d.a,.int .i64 e.d.l,.int .i64 e.d.c,.int .i64 e.d.f]
def Ev.cs (e:Ev):List Value:=[.int .u8 e.k,.int .u8 e.n,.int .u8 e.d.k,.string e.d.t,.int .i64 e.d.a,.int .i64 e.d.l,.int .i64 e.d.c,.int .i64 e.d.f]
theorem Ev.cs_len (e:Ev):e.cs.length=8:=rfl
theorem Ev.cs_one (e:Ev):∀u∈e.cs,u.oneCell'=true:=by
 intro u C;simp only [Ev.cs,Tt,UT,Xi] at C
 rcases C with rfl|rfl|rfl|rfl|rfl|rfl|rfl|rfl <;> rfl
def xM (l:List Ev):List Value:=bB Ev.cs l
theorem ui (l:List Ev):(xM l).length=l.length*8:=fC Ev.cs 8 Ev.cs_len l
theorem uh (l:List Ev):∀u∈xM l,u.oneCell'=true:=by
 intro u C;obtain ⟨d,_,h⟩:=Ve.1 C;exact d.cs_one u h
theorem uj (a b:List Ev):xM (a++b)=xM a++xM b:=cz Ev.cs a b
def aB:Tv:=⟨0,⟨#[]⟩,0,0,0,0⟩
def Nb (W:World) (v v':Value):Prop:=v'.ownBlock=v.ownBlock\/∃k,v'.ownBlock=some k/\W.heap.size<=k
def Re (W:World) (v:Value) (l:List Ev):Prop:=W.ownsRow 0 110 8 v l.length (xM l)
theorem yq (W:World):Re W (.slice none 0 0) []:=TU W 0 110 8
theorem Re.kp {S:Nat->Prop}{W W':World}{v:Value}{l:List Ev}(h:Re W v l) (F:Kp S W W') (C:∀k,v.ownBlock=some k->¬S k):Re W' v l:=F.row h C
theorem Re.below {W':World}{v:Value}{l:List Ev}(h:Re W v l) (C:Below W.heap.size W W'):Re W' v l:=bv h C
theorem Re.shape {v:Value}{l:List Ev}(h:Re W v l):∃p cap,v=.slice p l.length cap/\l.length<=cap/\cap<=maxLen:=aK h
theorem Re.ne {v:Value}{l:List Ev}(h:Re W v l) {g:Nat}{cs:Array Value}{T:TypeId}{f:Nat × Nat}(F:W.heap[g]?=some (.cells cs T f)) (C:T≠110):∀k,v.ownBlock=some k->k≠g:=fun k G e=>aN h F C (by rw [G,e])
theorem Tryz.info110:(Tryz.prog.info? 110).map (fun i=>(i.zero,i.size,i.bytes))=some (some (.agg #[.int .u8 0,.int .u8 0,.int .u8 0,.string ⟨#[]⟩,.int .i64 0,.int .i64 0,.int .i64 0,.int .i64 0]),8,64):=by kernel_rfl
theorem In {F:Array Oper}{rest:List Oper}{o:Oper}{a:Act}{Q:Exit->Act->World->Prop}(G:o.guard=none) (s x:Operand)
  (Z:o.op=.call { callee:=.builtin .append,args:=#[s,x],argTypes:=#[106,106] }) (v:Value) (l:List Ev) (d:Ev) (hs:a.eval s=v) (hr:Re W v l)
  (g c:Nat) (hx:a.eval x=.slice (some ⟨g,0,none⟩) 1 c) (U:W.heap[g]?=some (.cells #[.int .u8 d.k,.int .u8 d.n,.int .u8 d.d.k,.string d.d.t,.int .i64 d.d.a,.int .i64 d.d.l,.int .i64 d.d.c,.int .i64 d.d.f] 110 (0,0))) (hl:l.length<=1000000000)
  (h:∀v' w',Re w' v' (l++[d])->W.grownBy w' v.ownBlock->Nb W v v'->wpList Tryz.prog F Q rest (a.put o.dst v') w'):wpList Tryz.prog F Q (o :: rest) a W:=by
 obtain ⟨i0,Y,H,I,J⟩:=T7 Tryz.info110;refine T2 (P:=Tryz.prog) (w:=W) G s x 106 Z 0 110 i0 _ 8 64 Wy Y H I J rfl (by decide) v _ _ hs hr ⟨g,0,none⟩ 1 c (xM [d]) hx (by rw [ui];rfl) ?_ (uh [d]) (by unfold maxLen;omega) (by omega) (SW _) ?_
 ·intro j u M;refine TX U j u ?_;have e:xM [d]=[.int .u8 d.k,.int .u8 d.n,.int .u8 d.d.k,.string d.d.t,.int .i64 d.d.a,.int .i64 d.d.l,.int .i64 d.d.c,.int .i64 d.d.f]:=by simp [xM,bB,Ev.cs]
  rw [e] at M
  simpa using M
 ·intro v' w' O S _ C;refine h v' w' ?_ S ?_
  ·unfold Re;rw [Or,uj];exact O
  ·rcases C with C|C
   ·exact .inl C
   ·exact .inr ⟨_,C,gt _⟩
end Go.Proofs.YtcjiapphbpiffaaGreatDoor
namespace Go.Proofs.YtcjiapphbpiffaaGreatDoor.Lx
open Go.ChangeShapes Go.WideShapes Go.ChangeAt Go.RowKit
variable {w w' W:World}
theorem iP {P:Program}:∀(F:List (String × DataW Unit)) (ps:List MemPlace),DataW.LaidVars P w F ps->∀n d,(n,d)∈F ->
  ∃g t cs C p,P.globalNamed n=some g/\(P.globals[g]?).map (·.type)=some t/\w.var? P n=some cs/\DataW.trod (fun _=>()) P w 0 (fun _=>true) false C t cs.toList=some (d,p)
 |[],_,_,n,d,h=>by cases h
 | (m,e) :: r,ps,⟨g,t,cs,C,p,q,h1,h2,h3,h4,h5,_⟩,n,d,h=>by
  rcases Tt.1 h with h|h
  ·cases h;exact ⟨g,t,cs,C,p,h1,h2,h3,h4⟩
  ·exact iP r q h5 n d h
def ig:List (Int × Int × Int):=[(48,57,1),(65,90,2),(95,95,1),(97,122,2),(192,214,2),(216,246,2),(248,591,2),(768,879,1),(913,929,2),(931,974,2),(1024,1119,2),(1488,1514,2),(1568,1610,2),(2308,2361,2),(12353,12438,2),(12449,12538,2),(19968,40959,2),(44032,55203,2),(66560,66639,2),(131072,196607,2)]
def Bi (i:Nat):Int:=(ig.getD i (0,0,0)).1
def DC (i:Nat):Int:=(ig.getD i (0,0,0)).2.1
def Po (i:Nat):Int:=(ig.getD i (0,0,0)).2.2
def xH (w:World):Prop:=∀i,i<20->w.cell? ⟨1,i*3,none⟩=some (.int .i64 (Bi i))/\w.cell? ⟨1,i*3+1,none⟩=some (.int .i64 (DC i))/\w.cell? ⟨1,i*3+2,none⟩=some (.int .i64 (Po i))
theorem xH.below (h:xH w) (C:Below w.heap.size w w'):xH w':=by
 intro i J;obtain ⟨G,H,I⟩:=h i J;have F:=S9 w _ G;exact ⟨(C.cell (p:=⟨1,i*3,none⟩) F).trans G,(C.cell (p:=⟨1,i*3+1,none⟩) F).trans H,(C.cell (p:=⟨1,i*3+2,none⟩) F).trans I⟩
theorem zi:(Rows.laid_colophon_class_spans:DataW Unit)=.agg (ig.map fun x=>.agg [.lit (.int .i64 x.1),.lit (.int .i64 x.2.1),.lit (.int .i64 x.2.2)]):=by kernel_rfl
theorem ur {L:List (String × DataW Unit)}(I:(L.all fun x=>x.2.handleName?.isNone)=true) (hm:("colophon/class.spans",Rows.laid_colophon_class_spans)∈L) (h:laidMetH Tryz.prog L W):xH W:=by
 rw [UZ _ _ _ I] at h;obtain ⟨ps,J,_,_⟩:=h;obtain ⟨g,t,cs,fuel,p,hg,ht,hv,hd⟩:=iP L ps J _ _ hm;obtain rfl:=TE ((show Tryz.prog.globalNamed "colophon/class.spans"=some 1 by kernel_rfl).symm.trans hg);obtain rfl:=TE ((show (Tryz.prog.globals[1]?).map (·.type)=some 245 by kernel_rfl).symm.trans ht);rw [zi] at hd;obtain ⟨xs,m,_,ex,_,hl,hel⟩:=V9 Tryz.underlying245 hd;have c3:Tryz.prog.cellsOf 3=1:=by kernel_rfl
 have H:Tryz.prog.cellsOf 183=1:=by kernel_rfl
 have Z:Tryz.prog.cellsOf 244=3:=by kernel_rfl
 intro i hi;have U:=hel i hi;rw [Z,Pi (by omega)] at U;obtain ⟨y0,y1,y2,n,ey,_,M,O,Q⟩:=Deep.trod_struct3 Tryz.underlying244 U;simp only [c3,H] at M O Q;obtain ⟨z0,a0,b0,_⟩:=Vq TO M;obtain ⟨z1,a1,b1,_⟩:=Vq TO O;obtain ⟨z2,a2,b2,_⟩:=Vq Tryz.underlying183 Q;have Y:ig.length=20:=rfl;have e3:(xs.map (·.1))=ig.map fun x=>(.agg [.lit (.int .i64 x.1),.lit (.int .i64 x.2.1),.lit (.int .i64 x.2.2)]:DataW Unit):=(WL (U9 ex).1).symm
 have F:(xs.map (·.1))[i]?=(ig.map fun x=>(.agg [.lit (.int .i64 x.1),.lit (.int .i64 x.2.1),.lit (.int .i64 x.2.2)]:DataW Unit))[i]?:=by rw [e3]
 rw [T8,T8,Pi (by omega:i<xs.length),Pi (by omega:i<ig.length),ey,b0,b1,b2] at F;simp only [UM,Tp,DataW.agg.injEq,List.cons.injEq,Wn,Lit.int.injEq,true_and,and_true] at F;obtain ⟨f0,f1,f2⟩:=F;have G:ig.getD i (0,0,0)=ig[i]:=by rw [List.getD,Pi (show i<ig.length by omega)];rfl
 have C:∀(o:Nat) (z:Int),o<3->(((cs.toList.drop (i*3)).take 3).drop o).take 1=[.int .i64 z]->W.cell? ⟨1,i*3+o,none⟩=some (.int .i64 z):=by
  intro o z ho hz;rw [VE hg hv (i*3+o)];have S:((((cs.toList.drop (i*3)).take 3).drop o).take 1)[0]?=some (.int .i64 z):=by rw [hz];rfl
  rw [TV,IO (by omega),TK,TV,IO (by omega),TK] at S
  simpa using S
 refine ⟨?_,?_,?_⟩
 ·have:=C 0 z0 (by omega) (by simpa using a0);rw [TS] at this;rw [this,Bi,G,f0];rfl
 ·have:=C 1 z1 (by omega) (by simpa using a1);rw [this,DC,G,f1];rfl
 ·have:=C 2 z2 (by omega) (by simpa using a2);rw [this,Po,G,f2];rfl
def dP:List ByteArray:=[⟨#[97,110,100]⟩,⟨#[97,114,114,97,121]⟩,⟨#[98,101,103,105,110]⟩,⟨#[99,111,110,115,116]⟩,⟨#[100,111]⟩,⟨#[101,108,105,102]⟩,⟨#[101,108,115,101]⟩,⟨#[101,110,100]⟩,⟨#[102,111,114]⟩,⟨#[105,102]⟩,⟨#[110,111,116]⟩,⟨#[111,102]⟩,⟨#[111,114]⟩,⟨#[112,114,111,99]⟩,⟨#[112,114,111,103,114,97,109]⟩,⟨#[114,101,99,111,114,100]⟩,⟨#[114,101,112,101,97,116]⟩,⟨#[114,101,116,117,114,110]⟩,⟨#[115,107,105,112]⟩,⟨#[116,104,101,110]⟩,⟨#[116,111]⟩,⟨#[117,110,116,105,108]⟩,⟨#[118,97,114]⟩,⟨#[119,104,105,108,101]⟩]
def DN (w:World):Prop:=∀i,i<24->w.cell? ⟨4,i,none⟩=some (.string (dP.getD i ByteArray.empty))
theorem DN.below (h:DN w) (F:Below w.heap.size w w'):DN w':=by
 intro i G;have C:=h i G;exact (F.cell (p:=⟨4,i,none⟩) (S9 w _ C)).trans C
theorem xQ:(Rows.laid_colophon_class_words:DataW Unit)=.agg (dP.map fun x=>.lit (.string x.data.toList)):=by kernel_rfl
theorem si {L:List (String × DataW Unit)}(F:(L.all fun x=>x.2.handleName?.isNone)=true) (hm:("colophon/class.words",Rows.laid_colophon_class_words)∈L) (h:laidMetH Tryz.prog L W):DN W:=by
 rw [UZ _ _ _ F] at h;obtain ⟨ps,G,_,_⟩:=h;obtain ⟨g,t,cs,fuel,p,hg,ht,hv,hd⟩:=iP L ps G _ _ hm;obtain rfl:=TE ((show Tryz.prog.globalNamed "colophon/class.words"=some 4 by kernel_rfl).symm.trans hg);obtain rfl:=TE ((show (Tryz.prog.globals[4]?).map (·.type)=some 273 by kernel_rfl).symm.trans ht);rw [xQ] at hd;obtain ⟨xs,m,_,ex,_,hl,hel⟩:=V9 Tryz.underlying273 hd;have S:Tryz.prog.cellsOf 9=1:=by kernel_rfl
 intro i Z;have I:=hel i Z;rw [S,Pi (by omega)] at I;obtain ⟨s,O,Q,_⟩:=DataW.trod_string TH I;have M:dP.length=24:=rfl;have U:(xs.map (·.1))=dP.map fun x=>(.lit (.string x.data.toList):DataW Unit):=(WL (U9 ex).1).symm
 have C:(xs.map (·.1))[i]?=(dP.map fun x=>(.lit (.string x.data.toList):DataW Unit))[i]?:=by rw [U]
 rw [T8,T8,Pi (by omega:i<xs.length),Pi (by omega:i<dP.length),Q] at C;simp only [UM,Tp,Wn,Lit.string.injEq] at C;have Y:dP.getD i ByteArray.empty=dP[i]:=by rw [List.getD,Pi (show i<dP.length by omega)];rfl
 have J:s=dP[i]:=by
  have:=UU.1 C;cases J:s;cases hx:dP[i];simp_all
 rw [VE hg hv i,Y,<-J];have H:(((cs.toList.drop (i*1)).take 1))[0]?=some (.string s):=by rw [O];rfl
 rw [TV,IO (by omega),TK] at H
 simpa using H
def aZ:List ByteArray:=[⟨#[58,61]⟩,⟨#[46,46]⟩,⟨#[60,61]⟩,⟨#[62,61]⟩,⟨#[59]⟩,⟨#[46]⟩,⟨#[44]⟩,⟨#[58]⟩,⟨#[61]⟩,⟨#[35]⟩,⟨#[60]⟩,⟨#[62]⟩,⟨#[40]⟩,⟨#[41]⟩,⟨#[91]⟩,⟨#[93]⟩,⟨#[43]⟩,⟨#[45]⟩,⟨#[42]⟩,⟨#[47]⟩,⟨#[37]⟩]
def DO (w:World):Prop:=∀i,i<21->w.cell? ⟨2,i,none⟩=some (.string (aZ.getD i ByteArray.empty))
theorem DO.below (h:DO w) (F:Below w.heap.size w w'):DO w':=by
 intro i G;have C:=h i G;exact (F.cell (p:=⟨2,i,none⟩) (S9 w _ C)).trans C
theorem ya:(Rows.laid_colophon_class_signs:DataW Unit)=.agg (aZ.map fun x=>.lit (.string x.data.toList)):=by kernel_rfl
theorem sF {L:List (String × DataW Unit)}(F:(L.all fun x=>x.2.handleName?.isNone)=true) (hm:("colophon/class.signs",Rows.laid_colophon_class_signs)∈L) (h:laidMetH Tryz.prog L W):DO W:=by
 rw [UZ _ _ _ F] at h;obtain ⟨ps,G,_,_⟩:=h;obtain ⟨g,t,cs,fuel,p,hg,ht,hv,hd⟩:=iP L ps G _ _ hm;obtain rfl:=TE ((show Tryz.prog.globalNamed "colophon/class.signs"=some 2 by kernel_rfl).symm.trans hg);obtain rfl:=TE ((show (Tryz.prog.globals[2]?).map (·.type)=some 248 by kernel_rfl).symm.trans ht);rw [ya] at hd;obtain ⟨xs,m,_,ex,_,hl,hel⟩:=V9 Tryz.underlying248 hd;have S:Tryz.prog.cellsOf 9=1:=by kernel_rfl
 intro i Z;have I:=hel i Z;rw [S,Pi (by omega)] at I;obtain ⟨s,O,Q,_⟩:=DataW.trod_string TH I;have M:aZ.length=21:=rfl;have U:(xs.map (·.1))=aZ.map fun x=>(.lit (.string x.data.toList):DataW Unit):=(WL (U9 ex).1).symm
 have C:(xs.map (·.1))[i]?=(aZ.map fun x=>(.lit (.string x.data.toList):DataW Unit))[i]?:=by rw [U]
 rw [T8,T8,Pi (by omega:i<xs.length),Pi (by omega:i<aZ.length),Q] at C;simp only [UM,Tp,Wn,Lit.string.injEq] at C;have Y:aZ.getD i ByteArray.empty=aZ[i]:=by rw [List.getD,Pi (show i<aZ.length by omega)];rfl
 have J:s=aZ[i]:=by
  have:=UU.1 C;cases J:s;cases hx:aZ[i];simp_all
 rw [VE hg hv i,Y,<-J];have H:(((cs.toList.drop (i*1)).take 1))[0]?=some (.string s):=by rw [O];rfl
 rw [TV,IO (by omega),TK] at H
 simpa using H
def nt (w:World):Prop:=xH w/\DN w/\DO w
theorem nt.below (h:nt w) (C:Below w.heap.size w w'):nt w':=⟨h.1.below C,h.2.1.below C,h.2.2.below C⟩
theorem ww {L:List (String × DataW Unit)}(C:(L.all fun x=>x.2.handleName?.isNone)=true) (F:("colophon/class.spans",Rows.laid_colophon_class_spans)∈L)
  (G:("colophon/class.words",Rows.laid_colophon_class_words)∈L) (H:("colophon/class.signs",Rows.laid_colophon_class_signs)∈L) (h:laidMetH Tryz.prog L W):nt W:=
 ⟨ur C F h,si C G h,sF C H h⟩
end Go.Proofs.YtcjiapphbpiffaaGreatDoor.Lx
