import Derived.Test.YtcmbkeghnmgbfaaGreatDoorRows
import Derived.WalkKit
import Derived.WalkSpells
import Derived.WalkLawsBesides
import Derived.WalkSmall
import Derived.Laws.CopyOwn
import Derived.Deep.RegionLaw
import Derived.Maps.AppendAt
import Derived.Lib.AppendStr
import Derived.Deep.AppendLies
set_option linter.all false
namespace Go.Proofs.YtcmbkeghnmgbfaaGreatDoor
open Go.RowKit
variable {w W w' W' b:World}{B i g front e m:Nat}{xs:List Value}{T:TypeId}{o:Obj}
abbrev ge:=@Nat.le_refl
abbrev gt:=@Go.RowKit.Below.refl
abbrev Eq:=@Go.World.size_alloc
abbrev IO:=@if_neg
abbrev Kd:=@if_pos
abbrev Ke:=@List.getElem?_eq_getElem
abbrev Kf:=@List.length_append
abbrev Kg:=@Go.World.block_lt_of_cell?
abbrev Kh:=@Nat.le_trans
abbrev Ki:=@Go.IntKind.wrap_i64
abbrev Kj:=@Nat.zero_le
abbrev Kk:=@beq_eq_false_iff_ne
abbrev Kl:=@Nat.lt_of_lt_of_le
abbrev Km:=@Nat.zero_add
abbrev Kn:=@Go.World.cell?_of_block
abbrev Ko:=@List.mem_cons_self
abbrev Kq:=@List.getElem?_eq_some_iff
abbrev Kr:=@decide_eq_false
abbrev Ks:=@List.append_assoc
abbrev Ku:=@decide_eq_true
abbrev Kv:=@Go.bodyPost_ret
abbrev Kw:=@congrArg
abbrev Kx:=@List.eq_nil_of_length_eq_zero
abbrev Ky:=@Option.some.injEq
abbrev Kz:=@List.length_take
abbrev KA:=@List.mem_cons_of_mem
abbrev KB:=@List.length_drop
abbrev KD:=@List.getElem?_drop
abbrev KE:=@Bool.false_eq_true
abbrev KF:=@List.cons_append
abbrev KG:=@Classical.byContradiction
abbrev KH:=@Option.some.inj
abbrev KI:=@List.getElem?_take
abbrev KJ:=@decide_eq_true_eq
abbrev KL:=@List.mem_cons
abbrev KO:=@List.drop_eq_getElem_cons
abbrev KP:=@List.append_nil
abbrev KQ:=@of_decide_eq_true
abbrev KR:=@decide_eq_decide
abbrev KS:=@Bool.eq_iff_iff
abbrev KU:=@List.foldl_cons
abbrev KV:=@Go.Addr.add_lit
abbrev KY:=@Array.length_toList
abbrev KZ:=@List.length_reverse
abbrev K0:=@Nat.add_zero
abbrev K8:=@Array.getElem?_eq_some_iff
abbrev K9:=@List.drop_append_of_le_length
abbrev Lb:=@List.getElem?_map
abbrev Le:=@List.length_replicate
abbrev Lf:=@List.map_append
abbrev Lg:=@List.mem_append
abbrev Lh:=@Array.getElem?_eq_getElem
abbrev Li:=@List.mem_of_find?_eq_some
abbrev Lj:=@List.length_map
abbrev Ll:=@List.reverse_cons
abbrev Lm:=@List.take_append_of_le_length
abbrev Lo:=@Bool.and_eq_true
abbrev Lp:=@Int.toNat_natCast
abbrev Lu:=@List.drop_eq_nil_of_le
abbrev Ly:=@List.take_of_length_le
abbrev LA:=@List.nil_append
abbrev LB:=@List.length_nil
abbrev LD:=@List.getElem?_toArray
abbrev LE:=@Nat.min_eq_left
abbrev LF:=@List.mem_of_getElem?
abbrev LJ:=@Go.info_parts
abbrev LK:=@Array.size_modify
abbrev LL:=@Nat.lt_or_ge
abbrev LM:=@beq_iff_eq
abbrev LO:=@Option.isSome_iff_exists
abbrev LP:=@if_false
abbrev LR:=@List.dropLast_concat
abbrev LS:=@Go.World.cell?_alloc_lt
abbrev LT:=@List.drop_length
abbrev LU:=@Nat.mod_lt
abbrev LV:=@Go.World.ownsRow_nil
abbrev LW:=@Go.World.news_of_block
abbrev LX:=@List.getElem?_append_left
abbrev LY:=@List.length_set
abbrev L0:=@Go.Proofs.Tryz.zeroValue5
abbrev L1:=@Go.Exit.noGoto_ret
abbrev L3:=@List.length_singleton
abbrev L4:=@Array.toList_inj
abbrev L6:=@List.take_length
abbrev L7:=@Go.wpList_append_own_at
abbrev L9:=@List.nodup_append
abbrev Ma:=@Array.getD_eq_getD_getElem?
abbrev Mb:=@Go.ByteArray.toList_eq
abbrev Mc:=@Go.Proofs.Tryz.zeroValue3
abbrev Md:=@Go.Proofs.Tryz.zeroValue9
abbrev Me:=@Array.getElem!_eq_getD
abbrev Mf:=@List.getElem?_append_right
abbrev Mg:=@List.setIfInBounds_toArray
abbrev Mh:=@Nat.add_assoc
abbrev Mi:=@List.mem_map
abbrev Mj:=@Array.getElem?_toList
abbrev Mk:=@List.mem_singleton
abbrev Ml:=@Go.Exit.noGoto_normal
abbrev Mm:=@Array.getElem_modify_self
abbrev Mn:=@Go.leaves_cons
abbrev Mo:=@Go.heap_alloc_new
abbrev Mp:=@List.tail_cons
abbrev Mq:=@Decidable.byContradiction
abbrev Ms:=@List.find?_isSome
abbrev Mt:=@Go.Proofs.Tryz.zeroValue4
abbrev Mu:=@List.nodup_cons
abbrev Mx:=@Go.Proofs.Tryz.sizeOf5
abbrev Mz:=@List.getElem?_cons_succ
abbrev MA:=@Nat.mul_one
abbrev MC:=@Go.World.frozen?_alloc_old
abbrev ME:=@of_decide_eq_false
abbrev MF:=@List.getElem?_eq_none
abbrev MG:=@if_true
abbrev MH:=@List.eq_nil_or_concat
abbrev MI:=@Bool.or_eq_true
abbrev MJ:=@Go.Proofs.Tryz.zeroValue0
abbrev MK:=@Go.Proofs.Tryz.sizeOf3
abbrev ML:=@Go.Proofs.Tryz.isAgg5
abbrev MM:=@Go.Proofs.Tryz.sizeOf9
abbrev MN:=@Ne.symm
abbrev MO:=@List.mem_append_right
abbrev MP:=@Bool.beq_eq_decide_eq
abbrev MT:=@Bool.true_and
abbrev MV:=@List.getD_eq_getElem?_getD
abbrev MW:=@Array.replicate_succ
abbrev MX:=@Array.replicate_zero
abbrev MY:=@List.mem_append_left
abbrev MZ:=@Bool.or_eq_false_iff
abbrev M3:=@Go.DataW.trod_int
abbrev M4:=@List.drop_drop
abbrev M5:=@List.take_take
abbrev M6:=@List.drop_append
abbrev M7:=@List.not_mem_nil
abbrev M8:=@List.mem_flatMap
abbrev M9:=@Nat.lt_succ_self
abbrev Na:=@Go.setRow_heap
abbrev Nc:=@List.append_toArray
abbrev Ng:=@Go.Proofs.Tryz.isAgg3
abbrev Nh:=@Go.Proofs.Tryz.isAgg9
abbrev Ni:=@List.drop_replicate
abbrev Nj:=@Go.callsIn_wide
abbrev Nk:=@Go.Proofs.Tryz.sizeOf4
abbrev No:=@Go.RowKit.Below.heap_setCell
abbrev Np:=@List.map_cons
abbrev Nq:=@Option.map_some
abbrev Nr:=@Go.World.var?_cell
abbrev Nt:=@Go.World.size_setCell
abbrev Nu:=@Nat.eq_zero_or_pos
abbrev Nv:=@Nat.add_sub_cancel_left
abbrev NA:=@Go.run_convert_bytes_back
abbrev NB:=@Go.run_convert_int_string
abbrev ND:=@Go.World.ownsRow.frozenAt
abbrev NE:=@List.size_toArray
abbrev NF:=@List.push_toArray
abbrev NG:=@Go.Proofs.Tryz.isAgg4
abbrev NI:=@Go.Proofs.Tryz.zeroValue283
abbrev NK:=@List.take_add_one
abbrev NL:=@Go.run_underlying
abbrev NM:=@Go.Sem.run_bind
abbrev NN:=@List.concat_eq_append
abbrev NO:=@Go.Proofs.Tryz.sizeOf0
abbrev NR:=@Classical.choose_spec
abbrev NS:=@Option.getD_some
abbrev NT:=@Go.Proofs.Tryz.zeroValue52
abbrev NU:=@Go.step_append_lies
abbrev NV:=@Nat.le_add_right
abbrev NW:=@List.getElem?_set_ne
abbrev NX:=@List.mem_of_mem_tail
abbrev NY:=@List.length_dropLast
abbrev N0:=@Nat.lt_irrefl
abbrev N2:=@Go.RowKit.Below.setCell
abbrev N4:=@Go.RowKit.Below.drew
abbrev N5:=@List.take_succ_cons
abbrev N6:=@List.take_left'
abbrev N7:=@Go.DataW.lit.injEq
abbrev N8:=@UInt8.toNat_inj
abbrev N9:=@Go.Proofs.Tryz.isAgg0
abbrev Oa:=@Go.results_tmp
abbrev Ob:=@List.length_pos_iff
abbrev Oc:=@Go.World.ownsRow.cells
abbrev Od:=@Go.run_loadVar_row
abbrev Of:=@Nat.le_succ
abbrev Og:=@Nat.succ_mul
abbrev Oh:=@Go.run_next_any
abbrev Oi:=@getElem!_pos
abbrev Oj:=@Nat.sub_zero
abbrev Ol:=@Go.results_none
abbrev Oy:=@Bool.false_and
abbrev Oz:=@Go.Proofs.Tryz.sizeOf283
abbrev OA:=@Go.wp_scope_jumps
abbrev OB:=@Nat.lt_trichotomy
abbrev OC:=@Go.run_storeCells_at
abbrev OD:=@List.foldl_append
abbrev OE:=@Go.Proofs.Tryz.zeroValue280
abbrev OF:=@Go.step_scope
abbrev OG:=@Go.Proofs.Tryz.zeroValue296
abbrev OH:=@Go.Proofs.Tryz.zeroValue298
abbrev OI:=@Go.DataW.agg.inj
abbrev OJ:=@Go.Proofs.Tryz.isAgg283
abbrev OK:=@Go.Proofs.Tryz.sizeOf52
abbrev OL:=@Go.RowKit.Below.alloc
abbrev ON:=@Go.length_splice
abbrev OY:=@Nat.mod_eq_of_lt
abbrev OZ:=@Nat.le_of_not_lt
abbrev O0:=@List.any_eq_true
abbrev O1:=@List.append_inj'
abbrev O2:=@Go.Proofs.Tryz.zeroValue21
abbrev O3:=@List.length_tail
abbrev O4:=@Go.Exit.noGoto_exit
abbrev O5:=@Go.run_next_end
abbrev O6:=@Go.Proofs.Tryz.isAgg52
abbrev O7:=@List.map_set
abbrev Pi:=@Prod.mk.inj
theorem mkfn:∀(u:Fn) (first cap:Array Value) (w:World),(Instr.makeFunc u first cap).run Tryz.prog w=.ok (.func u first cap) w:=fun _ _ _ _=>rfl
abbrev Kb:=Calls Tryz.prog
abbrev Kc (W V:World):Prop:=Below W.heap.size W V
theorem ku{p:Prop}(h:p):Hid p:=h
structure Fr (i:Nat) (own own':Nat->Nat) (w w':World):Prop where
 os:w'.os=w.os
 tape:w'.tape=w.tape
 output:w'.output=w.output
 size:w.heap.size<=w'.heap.size
 block:∀k,k<w.heap.size->own k≠i->w'.heap[k]?=w.heap[k]?
 old:∀k,k<w.heap.size->own' k=own k
def Nf (own:Nat->Nat) (w:World):Prop:=∀k,w.heap.size<=k->own k=0
theorem Fr.refl (i:Nat) (own:Nat->Nat) (w:World):Fr i own own w w:=⟨rfl,rfl,rfl,ge _,fun _ _ _=>rfl,fun _ _=>rfl⟩
theorem Fr.trans {G H I:Nat->Nat}{a c:World}(h:Fr i G H a b) (k:Fr i H I b c):Fr i G I a c:=
 ⟨k.os.trans h.os,k.tape.trans h.tape,k.output.trans h.output,Kh h.size k.size,
 fun j u F=>(k.block j (Kl u h.size) (by rw[h.old j u];exact F)).trans (h.block j u F),
 fun j u=>(k.old j (Kl u h.size)).trans (h.old j u)⟩
theorem Fr.of_below {i:Nat}{own:Nat->Nat}{w w':World}(h:Below w.heap.size w w'):Fr i own own w w':=
 ⟨h.os,h.tape,h.output,h.size,fun k u _=>h.block k u,fun _ _=>rfl⟩
theorem Fr.below {own own':Nat->Nat}(h:Fr i own own' w w') (G:B<=w.heap.size) (F:∀k,k<B->own k=0) (H:i≠0):Below B w w':=
 ⟨h.os,h.tape,h.output,h.size,fun k u=>h.block k (by omega) (by rw[F k u];omega)⟩
theorem Fr.cell {i:Nat}{own own':Nat->Nat}{w w':World}(h:Fr i own own' w w') {a:Addr}{v:Value}(hc:w.cell? a=some v) (u:own a.block≠i):w'.cell? a=some v:=
 (Kn (h.block a.block (Kg w a hc) u)).trans hc
theorem Nf.below {own:Nat->Nat}(h:Nf own w) (u:w.heap.size<=w'.heap.size):Nf own w':=fun k F=>h k (by omega)
theorem aa {W:World}{g k:Nat}{cs:Array Value}{T:TypeId}{v:Value}(h:W.heap[g]?=some (.cells cs T (0,0))) (u:cs[k]?=some v):W.cell? ⟨g,k,none⟩=some v:=by simp[World.cell?,h,u]
theorem aj {W:World}{g k:Nat}{cs:Array Value}{T:TypeId}(h:W.heap[g]?=some (.cells cs T (0,0))):W.frozen? ⟨g,k,none⟩=false:=by simp[World.frozen?,h]
theorem ab {cs:Array Value}(h:W.heap[g]?=some (.cells cs T (0,0))) (k:Nat) (v:Value):(W.setCell ⟨g,k,none⟩ v).heap[g]?=some (.cells (cs.setIfInBounds k v) T (0,0)):=by
 obtain⟨u,F⟩:=K8.1 h;show(W.heap.modify g _)[g]?=_;rw[Lh (by rw[LK];exact u),Mm,F];rfl
theorem bf {W:World}{g b k:Nat}{o:Obj}(h:W.heap[g]?=some o) (u:g≠b) (v:Value):(W.setCell ⟨b,k,none⟩ v).heap[g]?=some o:=
 (No W ⟨b,k,none⟩ v g u).trans h
theorem ai (h:W.heap[g]?=some o):g<W.heap.size:=(K8.1 h).1
theorem af {W W':World}{g:Nat}{o:Obj}(h:W.heap[g]?=some o) (u:Below W.heap.size W W'):W'.heap[g]?=some o:=(u.block g (ai h)).trans h
theorem Fr.set {i:Nat}{own own':Nat->Nat}{w W:World}(h:Fr i own own' w W) {g:Nat}(H:own' g=i) (k:Nat) (v:Value) (G:∀j,j<w.heap.size->own j≠i->j≠g):Fr i own own' w (W.setCell ⟨g,k,none⟩ v):=
 ⟨h.os,h.tape,h.output,by show _<=(W.heap.modify g _).size;rw[LK];exact h.size,
 fun j F u=>(No W ⟨g,k,none⟩ v j (G j F u)).trans (h.block j F u),h.old⟩
theorem Fr.set' {own:Nat->Nat}(h:Fr i own own w W) {g:Nat}(u:own g=i) (k:Nat) (v:Value):Fr i own own w (W.setCell ⟨g,k,none⟩ v):=
 h.set u k v (fun j _ F e=>F (by rw[e];exact u))
section
variable {β:Type} (enc:β->List Value) (sz:Nat)
def au (zs:List β):List Value:=zs.flatMap enc
theorem du (x:β) (u:List β):au enc (x :: u)=enc x++au enc u:=rfl
theorem aW (xs u:List β):au enc (xs++u)=au enc xs++au enc u:=by unfold au;exact List.flatMap_append
variable (hsz:∀x,(enc x).length=sz)
include hsz
theorem bo (u:List β):(au enc u).length=u.length*sz:=by
 induction u with
 |nil=>simp[au]
 |cons x r ih=>rw[du,Kf,ih,hsz,List.length_cons,Og];omega
theorem bR:∀(k:Nat) (u:List β),(au enc u).drop (k*sz)=au enc (u.drop k)
 |0,u=>by simp
 |k+1,[]=>by simp[au]
 |k+1,x :: r=>by
  rw[du,M6,hsz,List.drop_succ_cons,<-bR k r,Lu (by rw[hsz,Og];omega),LA]
  congr 1;rw[Og];omega
theorem ez:∀(k:Nat) (u:List β),(au enc u).take (k*sz)=au enc (u.take k)
 |0,u=>by simp[au]
 |k+1,[]=>by simp[au]
 |k+1,x :: r=>by
  rw[du,List.take_append,hsz,N5,du,<-ez k r,Ly (by rw[hsz,Og];omega)]
  congr 2;rw[Og];omega
theorem aO (u:List β) (k j:Nat) (x:β) (v:Value) (I:u[k]?=some x) (F:(enc x)[j]?=some v):(au enc u)[k*sz+j]?=some v:=by
 have G:(au enc u)[k*sz+j]?=((au enc u).drop (k*sz))[j]?:=by rw[KD]
 rw[G,bR enc sz hsz];obtain⟨hl,H⟩:=Kq.1 I;rw[KO hl,H,du];rw[LX (Kq.1 F).1];exact F
omit hsz in
theorem fM {α:Type}(Z A B:List α) (k:Nat) (u:A.length=k) (h:A.length+B.length<=Z.length):splice (splice Z 0 A) k B=A++(B++Z.drop (k+B.length)):=by
 subst u;unfold splice;rw[List.take_zero,LA,Km];rw[N6,M6]
 ·simp_all
 ·rfl
end
def df {β:Type}(zs:List β) (front:Nat) (l:List β):Prop:=l.length<=zs.length/\∀i,i<l.length->l[i]?=zs[(front+i) % zs.length]?
theorem df.widen {β:Type}{u l Z:List β}{front:Nat}(h:df u front l) (I:front<=u.length) (G:l.length=u.length):df (u.drop front++u.take front++Z) 0 l:=by
 have F:(u.drop front++u.take front).length=u.length:=by simp;omega
 refine⟨by rw[Kf,F];omega,fun i H=>?_⟩;rw[h.2 i H,Km,OY (a:=i) (by rw[Kf,F];omega),LX (l₁:=u.drop front++u.take front) (by omega)]
 by_cases hc:front+i<u.length
 ·rw[OY hc,LX (by simp;omega),KD]
 ·rw[Mf (by simp;omega),KI,Kd (by simp;omega)]
  congr 1
  rw[Nat.mod_eq_sub_mod (by omega),OY (by omega)];simp;omega
theorem tB {f n j:Nat}(M:i<n) (O:j<n) (h:i≠j):(f+i) % n≠(f+j) % n:=by
 intro e;have hn:0<n:=by omega
 have H:=Nat.div_add_mod (f+i) n;have J:=Nat.div_add_mod (f+j) n;rw[e]at H;have I:n*((f+i) / n)+j=n*((f+j) / n)+i:=by omega
 rcases OB ((f+i) / n) ((f+j) / n)with G|u|F
 ·have:=Nat.mul_le_mul_left n G;rw[Nat.mul_succ]at this;omega
 ·rw[u]at I;omega
 ·have:=Nat.mul_le_mul_left n F;rw[Nat.mul_succ]at this;omega
theorem df.push {β:Type}{u l:List β}(x:β) (h:df u front l) (G:l.length<u.length):df (u.set ((front+l.length) % u.length) x) front (l++[x]):=by
 have H:(front+l.length) % u.length<u.length:=LU _ (by omega);refine⟨by simp;omega,fun i F=>?_⟩;simp at F;rw[LY]
 by_cases hc:i<l.length
 ·rw[LX hc,NW (tB (by omega) (by omega) (by omega)),h.2 i hc]
 ·grind
theorem df.popBack {β:Type}{u l:List β}(z:β) (h:df u front l) (G:0<l.length):df (u.set ((front+(l.length-1)) % u.length) z) front l.dropLast:=by
 have hl:=h.1;refine⟨by simp;omega,fun j F=>?_⟩;simp at F;rw[LY,NW (tB (by omega) (by omega) (by omega)),<-h.2 j (by omega),List.getElem?_dropLast,Kd (by omega)]
theorem df.popFront {β:Type}{u l:List β}(z:β) (h:df u front l) (G:0<l.length):df (u.set ((front+0) % u.length) z) ((front+1) % u.length) l.tail:=by
 have hl:=h.1;refine⟨by simp;omega,fun j F=>?_⟩;simp at F;rw[LY,Nat.mod_add_mod,List.getElem?_tail,Mh,Nat.add_comm 1 j,NW (tB (by omega) (by omega) (by omega))];exact h.2 (j+1) (by omega)
theorem ci {P:Program}(w:World) (dT sT ty F:TypeId) (sz g o u H:Nat) (a:Addr) (G M:Nat) (cur:Array Value) (t:TypeId) (cs:List Value)
  (hu:P.underlying dT=some (.slice F)) (hs:(P.info? F).map (·.size)=some sz)
  (hg:w.heap[g]?=some (.cells cur t (0,0))) (hn:cs.length=Nat.min G u*sz)
  (J:∀j v,cs[j]?=some v->w.cell? (a.add j)=some v) (I:o+cs.length<=cur.size) (h1:∀v∈cs,v.oneCell'=true) :
  (Builtin.copy_ #[dT,sT] ty #[.slice (some ⟨g,o,none⟩) u H,.slice (some a) G M]).run P w =
   .ok (goInt (Nat.min G u)) (w.setRow g (cur.toList.take o++cs++cur.toList.drop (o+cs.length)).toArray):=by
 have hl:=run_loadCells_list (P:=P) w a cs J;have aa:=OC P g o t cs 0 cur w hg (by simpa using I) h1;cases O:P.info? F with
 |none=>simp[O]at hs
 |some i=>
  have hi:i.size=sz:=by simpa[O]using hs
  simp[Builtin.copy_,NL hu,Builtin.lenOf,Builtin.firstCells,sizeOf,typeInfo,O,hi,<-hn,hl,aa]
theorem gU {P:Program}(w:World) (dT sT ty u:TypeId) (sz:Nat) (d a:Option Addr) (F H G I:Nat) (hu:P.underlying dT=some (.slice u)) (O:(P.info? u).map (·.size)=some sz) (M:Nat.min G F=0) :
  (Builtin.copy_ #[dT,sT] ty #[.slice d F H,.slice a G I]).run P w=.ok (goInt 0) w:=by
 cases J:P.info? u with
 |none=>simp[J]at O
 |some i=>
  have hl:∀(x:Addr),(loadCells x 0).run P w=.ok #[] w:=fun x=>by simpa using run_loadCells_list (P:=P) w x [] (by simp)
  cases d<;>cases a<;>simp[Builtin.copy_,NL hu,Builtin.lenOf,Builtin.firstCells,sizeOf,typeInfo,J,M,storeCells,hl]
theorem aD {P:Program}{M:Array Oper}{o:Oper}{a:Act}{K:Act->World->Prop}{Q:Exit->Act->World->Prop}{E:Prop}(ae:o.guard=none) (d s:Operand) (dT sT:TypeId)
  (ho:o.op=.call { callee:=.builtin .copy,args:=#[d,s],argTypes:=#[dT,sT] }) (F:TypeId) (sz:Nat) (hu:P.underlying dT=some (.slice F)) (hsz:(P.info? F).map (·.size)=some sz)
  (dp sp:Option Addr) (u I H J:Nat) (hd:a.eval d=.slice dp u I) (hs:a.eval s=.slice sp H J)
  (g off:Nat) (cur:List Value) (t:TypeId) (hg:w.heap[g]?=some (.cells cur.toArray t (0,0))) (cs:List Value) (m:Nat) (hm:m=Nat.min H u) (hn:cs.length=m*sz)
  (aa:0<m->dp=some ⟨g,off,none⟩/\∃ad,sp=some ad/\∀j v,cs[j]?=some v->w.cell? (ad.add j)=some v)
  (O:off+cs.length<=cur.length) (h1:∀v∈cs,v.oneCell'=true) (B:Nat) (w0:World) (hb:RowKit.Below B w0 w) (ac:B<=g)
  (h:∀w',RowKit.Hid (w'.heap[g]?=some (.cells (splice cur off cs).toArray t (0,0)))->RowKit.Below B w0 w'->K (a.put o.dst (goInt m)) w') :
  if Region.wanted o (yielded M a.tmps)=true then Oper.wp P o a w K Q else E:=by
 have hw:Region.wanted o (yielded M a.tmps)=true:=by simp[Region.wanted,ae]
 rw[Kd hw]
 by_cases h0:m=0
 ·subst h0;obtain rfl:cs=[]:=Kx (by simpa using hn);have G:=gU (P:=P) w dT sT o.type F sz dp sp u I H J hu hsz hm.symm;unfold Oper.wp;simp[execOp,ho,resolve,invoke,builtin,hd,hs,G,Result.andThen];exact h w (show _=_ by simpa[splice]using hg) hb
 ·obtain⟨rfl,ad,rfl,ab⟩:=aa (by omega);have G:=ci (P:=P) w dT sT o.type F sz g off u I ad H J cur.toArray t cs hu hsz hg (by rw[hn,hm]) ab (by simpa using O) h1;rw[<-hm]at G;unfold Oper.wp;simp[execOp,ho,resolve,invoke,builtin,hd,hs,G,Result.andThen];exact h _ (show _=_ by simpa[splice]using Na w g _ _ t _ hg) (below_setRow hb ac _)
open Go.Lib (strCells strCells_length)
def bc (l:List UInt8):List Value:=l.map fun b=>Value.int .u8 b.toNat
theorem H7 (l:List UInt8):(bc l).length=l.length:=by simp[bc]
theorem uo (a b:List UInt8):bc (a++b)=bc a++bc b:=by simp[bc]
theorem lU (s:ByteArray):strCells s=bc s.data.toList:=rfl
theorem un (l:List UInt8) (j:Nat) (x:UInt8) (h:l[j]?=some x):(bc l)[j]?=some (.int .u8 x.toNat):=by simp[bc,h]
theorem Hz (l:List UInt8):∀u∈bc l,u.oneCell'=true:=by
 intro u F;simp only[bc,Mi]at F;obtain⟨x,_,rfl⟩:=F;rfl
theorem Fq (l:List UInt8) (k:Nat):(bc l).drop k=bc (l.drop k):=by simp[bc]
theorem Fp (l:List UInt8) (k:Nat):(bc l).take k=bc (l.take k):=by simp[bc]
theorem fZ {P:Program}(w:World) (base:Nat) (t u ty e:TypeId) (i:TypeInfo) (ht:P.underlying t=some (.slice e)) (hu:P.underlying u=some .string) (hi:P.info? e=some i) (hz:i.zero=some (.int .u8 0))
  (F:i.size=1) (M:i.bytes=1) (v:Value) (n:Nat) (xs:List Value) (G:w.ownsRow base e 1 v n xs) (s:ByteArray)
  (ad:n+s.size<=maxLen) (I:n+s.size<=140737488355328) (O:base<=w.heap.size) :
  ∃v' w',(Builtin.append_ #[t,u] ty #[v,.string s]).run P w=.ok v' w'/\w'.ownsRow base e 1 v' (n+s.size) (xs++strCells s)/\w.grownBy w' v.ownBlock/\(v'.ownBlock=v.ownBlock\/v'.ownBlock=some w.heap.size):=by
 obtain⟨v',w',J,h1,h2,h3⟩:=Lib.run_append_own_string (P:=P) w base t u ty e i ht hu hi hz F M v n xs G s ad I O;refine⟨v',w',J,h1,h2,?_⟩;have ae:n+s.size<=9223372036854775807:=by simp only[maxLen]at ad;omega
 have ag:xs.length=n:=by simpa using G.1
 rcases G.2 with⟨rfl,rfl⟩|⟨g,cap,ac,rfl,aj,hg,al,ak,af,ah⟩
 ·by_cases hm:s.size=0
  ·left;rw[h3.2 ⟨rfl,hm⟩]
  ·have H:=run_append_nil_string (P:=P) w t u ty e i (.int .u8 0) ht hu hi hz s (by omega) (by omega) (by rw[M];omega);rw[H]at J;injection J with e1 e2
   right;rw[<-e1];rfl
 ·by_cases ab:n+s.size<=cap
  ·have ai:ac.size=cap:=by simpa using af
   have H:=Lib.run_append_room_string (P:=P) w t u ty e i ht hu hi F g n cap ac hg s ab (by omega);rw[H]at J;injection J with e1 e2
   left;rw[<-e1];rfl
  ·have aa:∀j u,xs[j]?=some u->w.cell? ((⟨g,0,none⟩:Addr).add j)=some u:=G.cells (g:=g) rfl;have H:=Lib.run_append_grow_string (P:=P) w t u ty e i (.int .u8 0) ht hu hi hz ⟨g,0,none⟩ n cap xs (by rw[F];simpa using ag) aa s (by omega) (by omega) (by rw[M];exact growslice_fits (by omega) (by omega));rw[H]at J;injection J with e1 e2
   right;rw[<-e1];rfl
theorem bz {P:Program}{w:World}{I:Array Oper}{rest:List Oper}{o:Oper}{a:Act}{Q:Exit->Act->World->Prop}(aa:o.guard=none) (sl x:Operand) (t u:TypeId)
  (ho:o.op=.call { callee:=.builtin .append,args:=#[sl,x],argTypes:=#[t,u] })
  (base:Nat) (e:TypeId) (i:TypeInfo) (ht:P.underlying t=some (.slice e)) (hu:P.underlying u=some .string) (hi:P.info? e=some i) (hz:i.zero=some (.int .u8 0))
  (H:i.size=1) (O:i.bytes=1)
  (v:Value) (n:Nat) (xs:List Value) (hs:a.eval sl=v) (J:w.ownsRow base e 1 v n xs) (s:ByteArray) (hx:a.eval x=.string s)
  (M:n+s.size<=maxLen) (F:n+s.size<=140737488355328) (G:base<=w.heap.size)
  (h:∀v' w',w'.ownsRow base e 1 v' (n+s.size) (xs++strCells s)->w.grownBy w' v.ownBlock->(v'.ownBlock=v.ownBlock\/v'.ownBlock=some w.heap.size)->wpList P I Q rest (a.put o.dst v') w'):wpList P I Q (o :: rest) a w:=by
 refine wpList_plain aa fun K hK=>?_
 obtain⟨v',w',hr,h2,h3,h4⟩:=fZ (P:=P) w base t u o.type e i ht hu hi hz H O v n xs J s M F G;unfold Oper.wp execOp;simp only[ho,resolve,invoke,builtin,NM,Sem.run_pure,Result.andThen_ok,List.map_toArray,Np,List.map_nil,hs,hx,hr];exact hK _ _ (h v' w' h2 h3 h4)
structure Kp (S:Nat->Prop) (w w':World):Prop where
 os:w'.os=w.os
 tape:w'.tape=w.tape
 output:w'.output=w.output
 size:w.heap.size<=w'.heap.size
 block:∀k,k<w.heap.size->¬S k->w'.heap[k]?=w.heap[k]?
theorem Kp.refl (S:Nat->Prop) (w:World):Kp S w w:=⟨rfl,rfl,rfl,ge _,fun _ _ _=>rfl⟩
theorem Kp.trans {S:Nat->Prop}{a c:World}(h:Kp S a b) (k:Kp S b c):Kp S a c:=
 ⟨k.os.trans h.os,k.tape.trans h.tape,k.output.trans h.output,Kh h.size k.size,fun j F u=>(k.block j (Kl F h.size) u).trans (h.block j F u)⟩
theorem Kp.step {S T:Nat->Prop}{a b c:World}(h:Kp S a b) (k:Kp T b c) (G:∀j,j<a.heap.size->T j->S j):Kp S a c:=
 ⟨k.os.trans h.os,k.tape.trans h.tape,k.output.trans h.output,Kh h.size k.size,fun j u F=>(k.block j (Kl u h.size) (fun ht=>F (G j u ht))).trans (h.block j u F)⟩
theorem Kp.of_below {S:Nat->Prop}{w w':World}(h:Below w.heap.size w w'):Kp S w w':=⟨h.os,h.tape,h.output,h.size,fun k u _=>h.block k u⟩
theorem Kp.of_grown {row:Option Nat}(h:w.grownBy w' row):Kp (fun k=>some k=row) w w':=⟨h.os,h.tape,h.output,h.size,fun k F u=>h.block k F u⟩
theorem Kp.set (w:World) (g k:Nat) (v:Value):Kp (fun j=>j=g) w (w.setCell ⟨g,k,none⟩ v):=
 ⟨rfl,rfl,rfl,by show _<=(w.heap.modify g _).size;rw[LK];exact ge _,fun j F u=>No w ⟨g,k,none⟩ v j u⟩
theorem Kp.alloc {S:Nat->Prop}{a b:World}(h:Kp S a b) (o:Obj):Kp S a (b.alloc o):=h.step (T:=S) (Kp.of_below ((gt _ _).alloc (ge _) _)) (fun _ _ h=>h)
theorem Kp.same {S:Nat->Prop}{w W W':World}(h:Kp S w W) (u:W'.heap=W.heap) (F:W'.os=W.os) (G:W'.tape=W.tape) (H:W'.output=W.output):Kp S w W':=
 ⟨F.trans h.os,G.trans h.tape,H.trans h.output,by rw[u];exact h.size,by rw[u];exact h.block⟩
theorem Kp.fr {S:Nat->Prop}{i:Nat}{own own':Nat->Nat}{w w':World}(h:Kp S w w') (F:∀k,k<w.heap.size->S k->own k=i) (H:∀k,k<w.heap.size->own' k=own k):Fr i own own' w w':=
 ⟨h.os,h.tape,h.output,h.size,fun k u G=>h.block k u (fun I=>G (F k u I)),H⟩
theorem Kp.blk {S:Nat->Prop}(h:Kp S w w') {g:Nat}{o:Obj}(u:w.heap[g]?=some o) (F:¬S g):w'.heap[g]?=some o:=(h.block g (ai u) F).trans u
theorem Kp.row {S:Nat->Prop}(h:Kp S w w') {e sz n:Nat}{v:Value}{xs:List Value}(F:w.ownsRow 0 e sz v n xs) (M:∀k,v.ownBlock=some k->¬S k):w'.ownsRow 0 e sz v n xs:=by
 refine⟨F.1,?_⟩
 rcases F.2 with G|⟨g,cap,u,rfl,H,I,J⟩
 ·exact .inl G
 ·exact .inr ⟨g,cap,u,rfl,H,h.blk I (M g rfl),J⟩
theorem aE {sz n:Nat}{v:Value}{cs:Array Value}{f:Nat × Nat}(H:w.ownsRow 0 e sz v n xs) (G:w.heap[g]?=some (.cells cs T f)) (F:T≠e):v.ownBlock≠some g:=by
 intro h
 rcases H.2 with⟨rfl,_⟩|⟨b,cap,I,rfl,_,u,_⟩
 ·cases h
 ·simp only[Value.ownBlock,Ky]at h;subst h;rw[G]at u;injection u with h4
  injection h4 with _ h5
  exact F h5
theorem az {sz n:Nat}{v:Value}(G:w.ownsRow 0 e sz v n xs):∃p cap,v=.slice p n cap/\n<=cap/\cap<=maxLen:=by
 rcases G.2 with⟨rfl,rfl⟩|⟨b,cap,H,rfl,_,I,u,F,_⟩
 ·exact⟨none,0,rfl,ge _,Kj _⟩
 ·exact⟨_,cap,rfl,u,F⟩
theorem bi {sz n:Nat}{v:Value}(F:w.ownsRow 0 e sz v n xs) (u:Below w.heap.size w w'):w'.ownsRow 0 e sz v n xs:=
 (Kp.of_below (S:=fun _=>False) u).row F (fun _ _ h=>h)
def bY:Nat->List (Nat × Nat)->List UInt8->List UInt8
 |f,[],t=>t.drop f
 |f,(a,n) :: r,t=>(t.drop f).take (a-f)++(List.replicate n 32++bY a r t)
def kC:Nat->List (Nat × Nat)->Nat->Prop
 |f,[],m=>f<=m
 |f,(a,_) :: r,m=>f<=a/\kC a r m
def bW:List (Nat × Nat)->Nat
 |[]=>0
 | (_,n) :: r=>n+bW r
theorem kC.le {f:Nat}{gs:List (Nat × Nat)}(h:kC f gs m):f<=m:=by
 induction gs generalizing f with
 |nil=>exact h
 |cons x r ih=>obtain⟨a,n⟩:=x;exact Kh h.1 (ih h.2)
theorem kC.more {f:Nat}{gs:List (Nat × Nat)}{m':Nat}(h:kC f gs m) (u:m<=m'):kC f gs m':=by
 induction gs generalizing f with
 |nil=>exact Kh h u
 |cons x r ih=>obtain⟨a,n⟩:=x;exact⟨h.1,ih h.2⟩
theorem kC.snoc {f:Nat}{gs:List (Nat × Nat)}{m:Nat}(n:Nat) (h:kC f gs m):kC f (gs++[(m,n)]) m:=by
 induction gs generalizing f with
 |nil=>exact⟨h,ge _⟩
 |cons x r ih=>obtain⟨a,n⟩:=x;exact⟨h.1,ih h.2⟩
theorem mH {f:Nat}{gs:List (Nat × Nat)}{t:List UInt8}(s:List UInt8) (h:kC f gs t.length):bY f gs (t++s)=bY f gs t++s:=by
 induction gs generalizing f with
 |nil=>simp only[bY];exact K9 h
 |cons x r ih=>
  obtain⟨a,n⟩:=x;have u:=h.2.le;simp only[bY];rw[ih h.2,K9 (Kh h.1 u),Lm (by rw[KB];have:=h.1;omega)];simp[Ks]
theorem wF {f:Nat}{gs:List (Nat × Nat)}{t:List UInt8}(n:Nat) (h:kC f gs t.length):bY f (gs++[(t.length,n)]) t=bY f gs t++List.replicate n 32:=by
 induction gs generalizing f with
 |nil=>simp only[bY,LA];rw[Ly (by simp),LT];simp
 |cons x r ih=>
  obtain⟨a,k⟩:=x;simp only[bY,KF];rw[ih h.2];simp[Ks]
theorem jh {f:Nat}{gs:List (Nat × Nat)}{t:List UInt8}(h:kC f gs t.length):(bY f gs t).length=t.length-f+bW gs:=by
 induction gs generalizing f with
 |nil=>simp[bY,bW]
 |cons x r ih=>
  obtain⟨a,k⟩:=x;have F:=h.2.le;have u:=h.1;simp only[bY,bW,Kf,Le,Kz,KB,ih h.2];omega
theorem zC (a:List (Nat × Nat)) (x n:Nat):bW (a++[(x,n)])=bW a+n:=by
 induction a with
 |nil=>simp[bW]
 |cons y r ih=>obtain⟨b,k⟩:=y;simp only[KF,bW,ih];omega
structure Tv where
 k:Int
 t:ByteArray
 a:Int
 l:Int
 c:Int
 f:Int
deriving DecidableEq
def Tv.v (d:Tv):Value:=.agg #[.int .u8 d.k,.string d.t,.int .i64 d.a,.int .i64 d.l,.int .i64 d.c,.int .i64 d.f]
def Tv.cs (d:Tv):List Value:=[.int .u8 d.k,.string d.t,.int .i64 d.a,.int .i64 d.l,.int .i64 d.c,.int .i64 d.f]
theorem Tv.cs_len (d:Tv):d.cs.length=6:=rfl
theorem Tv.cs_one (d:Tv):∀u∈d.cs,u.oneCell'=true:=by
 intro u F;simp only[Tv.cs,KL,M7,or_false]at F
 rcases F with rfl|rfl|rfl|rfl|rfl|rfl<;>rfl
def CD (l:List Tv):List Value:=au Tv.cs l
theorem Dq (l:List Tv):(CD l).length=l.length*6:=bo Tv.cs 6 Tv.cs_len l
theorem Dp (l:List Tv):∀u∈CD l,u.oneCell'=true:=by
 intro u F;obtain⟨d,_,h⟩:=M8.1 F;exact d.cs_one u h
theorem Dr (a b:List Tv):CD (a++b)=CD a++CD b:=aW Tv.cs a b
def Lt (w:World) (ao:Option Addr) (l:List Tv):Prop:=∀j d,l[j]?=some d->∃b off,ao=some ⟨b,off,none⟩ /\
 w.cell? ⟨b,off+j*6,none⟩=some (.int .u8 d.k)/\w.cell? ⟨b,off+j*6+1,none⟩=some (.string d.t)/\w.cell? ⟨b,off+j*6+2,none⟩=some (.int .i64 d.a)/\w.cell? ⟨b,off+j*6+3,none⟩=some (.int .i64 d.l)/\w.cell? ⟨b,off+j*6+4,none⟩=some (.int .i64 d.c)/\w.cell? ⟨b,off+j*6+5,none⟩=some (.int .i64 d.f)
theorem Lt.kp {S:Nat->Prop}{w w':World}{ao:Option Addr}{l:List Tv}(h:Lt w ao l) (J:Kp S w w') (H:∀a,ao=some a->¬S a.block):Lt w' ao l:=by
 intro j a I;obtain⟨b,F,G,c0,c1,c2,c3,c4,c5⟩:=h j a I;have u:=Kg _ _ c0;have e:w'.heap[b]?=w.heap[b]?:=J.block b u (H _ G);exact⟨b,F,G,(Kn (a:=⟨b,_,none⟩) e).trans c0,(Kn (a:=⟨b,_,none⟩) e).trans c1,(Kn (a:=⟨b,_,none⟩) e).trans c2,(Kn (a:=⟨b,_,none⟩) e).trans c3,(Kn (a:=⟨b,_,none⟩) e).trans c4,(Kn (a:=⟨b,_,none⟩) e).trans c5⟩
theorem Lt.below {ao:Option Addr}{l:List Tv}(h:Lt w ao l) (u:Below w.heap.size w w'):Lt w' ao l:=h.kp (Kp.of_below (S:=fun _=>False) u) (fun _ _ h=>h)
def Rt (B:Nat) (w:World) (v:Value) (l:List Tv):Prop:=w.ownsRow B 76 6 v l.length (CD l)
theorem kV (B:Nat) (w:World):Rt B w (.slice none 0 0) []:=LV w B 76 6
theorem Rt.shape {v:Value}{l:List Tv}(h:Rt B w v l):∃p cap,v=.slice p l.length cap/\l.length<=cap/\cap<=maxLen:=by
 rcases h.2 with⟨rfl,u⟩|⟨b,cap,H,rfl,_,I,F,G,_⟩
 ·exact⟨none,0,by rw[u],by omega,Kj _⟩
 ·exact⟨_,cap,rfl,F,G⟩
theorem Rt.own {v:Value}{l:List Tv}(h:Rt B w v l):∀k,v.ownBlock=some k->B<=k:=by
 intro k u
 rcases h.2 with⟨rfl,G⟩|⟨b,cap,F,rfl,H,_⟩
 ·cases u
 ·simp only[Value.ownBlock,Ky]at u;omega
theorem Rt.below {v:Value}{l:List Tv}(h:Rt B w v l) (J:Below w.heap.size w w'):Rt B w' v l:=by
 refine⟨h.1,?_⟩
 rcases h.2 with F|⟨g,cap,u,rfl,G,H,I⟩
 ·exact .inl F
 ·exact .inr ⟨g,cap,u,rfl,G,af H J,I⟩
theorem Rt.kp {B:Nat}{S:Nat->Prop}{w w':World}{v:Value}{l:List Tv}(h:Rt B w v l) (M:Kp S w w') (J:∀k,v.ownBlock=some k->¬S k):Rt B w' v l:=by
 refine⟨h.1,?_⟩
 rcases h.2 with F|⟨g,cap,u,rfl,G,H,I⟩
 ·exact .inl F
 ·exact .inr ⟨g,cap,u,rfl,G,M.blk H (J g rfl),I⟩
theorem Rt.ne {v:Value}{l:List Tv}(h:Rt B w v l) {g:Nat}{cs:Array Value}{T:TypeId}{f:Nat × Nat}(H:w.heap[g]?=some (.cells cs T f)) (G:T≠76):∀k,v.ownBlock=some k->k≠g:=by
 intro k u e
 rcases h.2 with⟨rfl,J⟩|⟨b,cap,I,rfl,M,F,_⟩
 ·cases u
 ·simp only[Value.ownBlock,Ky]at u;subst u;subst e;rw[H]at F;cases F;exact G rfl
theorem Lt.row {v:Value}{l:List Tv}(h:Rt B w v l):∃ao cap,v=.slice ao l.length cap/\Lt w ao l/\(ao=none\/∃g,ao=some ⟨g,0,none⟩/\B<=g/\g<w.heap.size)/\l.length<=cap/\cap<=maxLen:=by
 rcases h.2 with⟨rfl,G⟩|⟨g,cap,aa,rfl,J,M,H,I,h5,h6⟩
 ·have:l=[]:=Kx G;subst this;exact⟨none,0,rfl,fun j d h=>by simp at h,.inl rfl,Kj _,Kj _⟩
 ·refine⟨some ⟨g,0,none⟩,cap,rfl,?_,.inr ⟨g,rfl,J,ai M⟩,H,I⟩;intro j d F
  have hc:∀(k:Nat) (u:Value),(CD l)[k]?=some u->w.cell? ⟨g,k,none⟩=some u:=fun k u O=>by
   have:=h.cells (g:=g) rfl k u O;rw[KV,Km]at this;exact this
  refine⟨g,0,rfl,?_,?_,?_,?_,?_,?_⟩
  ·rw[Km];exact hc _ _ (aO Tv.cs 6 Tv.cs_len l j 0 d _ F rfl)
  ·rw[Km];exact hc _ _ (aO Tv.cs 6 Tv.cs_len l j 1 d _ F rfl)
  ·rw[Km];exact hc _ _ (aO Tv.cs 6 Tv.cs_len l j 2 d _ F rfl)
  ·rw[Km];exact hc _ _ (aO Tv.cs 6 Tv.cs_len l j 3 d _ F rfl)
  ·rw[Km];exact hc _ _ (aO Tv.cs 6 Tv.cs_len l j 4 d _ F rfl)
  ·rw[Km];exact hc _ _ (aO Tv.cs 6 Tv.cs_len l j 5 d _ F rfl)
theorem Tryz.info76:(Tryz.prog.info? 76).map (fun i=>(i.zero,i.size,i.bytes))=some (some (.agg #[.int .u8 0,.string ⟨#[]⟩,.int .i64 0,.int .i64 0,.int .i64 0,.int .i64 0]),6,56):=by kernel_rfl
theorem am (w:World) (o:Obj):(w.alloc o).heap[w.heap.size]?=some o:=by show(w.heap.push o)[w.heap.size]?=_;simp
theorem bB (h:W.heap[g]?=some o) (o':Obj):(W.alloc o').heap[g]?=some o:=af h ((gt _ _).alloc (ge _) _)
theorem Kp.sub {S T:Nat->Prop}{w w':World}(h:Kp T w w') (G:∀k,T k->S k):Kp S w w':=⟨h.os,h.tape,h.output,h.size,fun k F u=>h.block k F (fun ht=>u (G k ht))⟩
structure Ev where
 k:Int
 n:Int
 d:Tv
deriving DecidableEq
def Ev.v (e:Ev):Value:=.agg #[.int .u8 e.k,.int .u8 e.n,.int .u8 e.d.k,.string e.d.t,.int .i64 e.d.a,.int .i64 e.d.l,.int .i64 e.d.c,.int .i64 e.d.f]
def Ev.cs (e:Ev):List Value:=[.int .u8 e.k,.int .u8 e.n,.int .u8 e.d.k,.string e.d.t,.int .i64 e.d.a,.int .i64 e.d.l,.int .i64 e.d.c,.int .i64 e.d.f]
theorem Ev.cs_len (e:Ev):e.cs.length=8:=rfl
theorem Ev.cs_one (e:Ev):∀u∈e.cs,u.oneCell'=true:=by
 intro u F;simp only[Ev.cs,KL,M7,or_false]at F
 rcases F with rfl|rfl|rfl|rfl|rfl|rfl|rfl|rfl<;>rfl
def BO (l:List Ev):List Value:=au Ev.cs l
theorem EP (l:List Ev):(BO l).length=l.length*8:=bo Ev.cs 8 Ev.cs_len l
theorem EO (l:List Ev):∀u∈BO l,u.oneCell'=true:=by
 intro u F;obtain⟨d,_,h⟩:=M8.1 F;exact d.cs_one u h
theorem EQ (a b:List Ev):BO (a++b)=BO a++BO b:=aW Ev.cs a b
def cD:Tv:=⟨0,⟨#[]⟩,0,0,0,0⟩
def Nb (W:World) (v v':Value):Prop:=v'.ownBlock=v.ownBlock\/∃k,v'.ownBlock=some k/\W.heap.size<=k
theorem Nb.refl (W:World) (v:Value):Nb W v v:=.inl rfl
theorem Nb.trans {a b c:Value}(h:Nb W a b) (u:Nb W' b c) (G:W.heap.size<=W'.heap.size):Nb W a c:=by
 rcases u with u|⟨k,u,F⟩
 ·rcases h with h|⟨k,h,F⟩
  ·exact .inl (u.trans h)
  ·exact .inr ⟨k,u.trans h,F⟩
 ·exact .inr ⟨k,u,Kh G F⟩
def Re (W:World) (v:Value) (l:List Ev):Prop:=W.ownsRow 0 135 8 v l.length (BO l)
theorem sX (W:World):Re W (.slice none 0 0) []:=LV W 0 135 8
theorem Re.kp {S:Nat->Prop}{W W':World}{v:Value}{l:List Ev}(h:Re W v l) (F:Kp S W W') (u:∀k,v.ownBlock=some k->¬S k):Re W' v l:=F.row h u
theorem Re.below {v:Value}{l:List Ev}(h:Re W v l) (u:Below W.heap.size W W'):Re W' v l:=bi h u
theorem Re.shape {v:Value}{l:List Ev}(h:Re W v l):∃p cap,v=.slice p l.length cap/\l.length<=cap/\cap<=maxLen:=az h
theorem Re.ne {v:Value}{l:List Ev}(h:Re W v l) {g:Nat}{cs:Array Value}{T:TypeId}{f:Nat × Nat}(F:W.heap[g]?=some (.cells cs T f)) (u:T≠135):∀k,v.ownBlock=some k->k≠g:=fun k G e=>aE h F u (by rw[G,e])
theorem Re.lt {W:World}{v:Value}{l:List Ev}(h:Re W v l):∀k,v.ownBlock=some k->k<W.heap.size:=by
 intro k u
 rcases h.2 with⟨rfl,_⟩|⟨b,cap,G,rfl,_,F,_⟩
 ·cases u
 ·simp only[Value.ownBlock,Ky]at u;subst u;exact ai F
theorem Tryz.info135:(Tryz.prog.info? 135).map (fun i=>(i.zero,i.size,i.bytes))=some (some (.agg #[.int .u8 0,.int .u8 0,.int .u8 0,.string ⟨#[]⟩,.int .i64 0,.int .i64 0,.int .i64 0,.int .i64 0]),8,64):=by kernel_rfl
def Rs (W:World) (v:Value) (l:List Value):Prop:=W.ownsRow 0 184 1 v l.length l
theorem GD (W:World):Rs W (.slice none 0 0) []:=LV W 0 184 1
theorem Rs.kp {S:Nat->Prop}{W W':World}{v:Value}{l:List Value}(h:Rs W v l) (F:Kp S W W') (u:∀k,v.ownBlock=some k->¬S k):Rs W' v l:=F.row h u
theorem Rs.below {v:Value}{l:List Value}(h:Rs W v l) (u:Below W.heap.size W W'):Rs W' v l:=bi h u
theorem Rs.shape {v:Value}{l:List Value}(h:Rs W v l):∃p cap,v=.slice p l.length cap/\l.length<=cap/\cap<=maxLen:=az h
theorem Rs.ne {v:Value}{l:List Value}(h:Rs W v l) {g:Nat}{cs:Array Value}{T:TypeId}{f:Nat × Nat}(F:W.heap[g]?=some (.cells cs T f)) (u:T≠184):∀k,v.ownBlock=some k->k≠g:=fun k G e=>aE h F u (by rw[G,e])
theorem Rs.lt {W:World}{v:Value}{l:List Value}(h:Rs W v l):∀k,v.ownBlock=some k->k<W.heap.size:=by
 intro k u
 rcases h.2 with⟨rfl,_⟩|⟨b,cap,G,rfl,_,F,_⟩
 ·cases u
 ·simp only[Value.ownBlock,Ky]at u;subst u;exact ai F
theorem Tryz.info184:(Tryz.prog.info? 184).map (fun i=>(i.zero,i.size,i.bytes))=some (some .nilFunc,1,8):=by kernel_rfl
