import Derived.Test.YtpdlohfdjiaegaaGreatDoorRows
import Derived.WalkKit
import Derived.WalkSpells
import Derived.WalkLawsBesides
import Derived.WalkSmall
import Derived.Laws.CopyOwn
import Derived.Deep.RegionLaw
import Derived.Maps.AppendAt
import Derived.Lib.AppendStr
import Derived.Deep.AppendLies
import Derived.ProofKit
import Derived.OpenShut
import Derived.Lay
import Derived.Deep.Strs
import Derived.Stop.Joined
import Derived.MakeChecks
set_option linter.unusedVariables false
set_option linter.unusedSimpArgs false
namespace Go.Proofs.YtpdlohfdjiaegaaGreatDoor
open Go.RowKit
variable {W w w':World}{i g:Nat}{o:Obj}
theorem mkfn:∀(fn:Fn) (first cap:Array Value) (w:World),(Instr.makeFunc fn first cap).run Tryz.prog w=.ok (.func fn first cap) w:=fun _ _ _ _=>rfl
abbrev Da:=Calls Tryz.prog
abbrev Db (W V:World):Prop:=Below W.heap.size W V
theorem hid{p:Prop}(h:p):Hid p:=h
structure Fr (i:Nat) (own own':Nat->Nat) (w w':World):Prop where
 os:w'.os=w.os
 tape:w'.tape=w.tape
 output:w'.output=w.output
 size:w.heap.size<=w'.heap.size
 block:∀k,k<w.heap.size->own k≠i->w'.heap[k]?=w.heap[k]?
 old:∀k,k<w.heap.size->own' k=own k
def Nf (own:Nat->Nat) (w:World):Prop:=∀k,w.heap.size<=k->own k=0
theorem Fr.refl (i:Nat) (own:Nat->Nat) (w:World):Fr i own own w w:=⟨rfl,rfl,rfl,Nat.le_refl _,fun _ _ _=>rfl,fun _ _=>rfl⟩
theorem Fr.of_below {i:Nat}{own:Nat->Nat}{w w':World}(h:Below w.heap.size w w'):Fr i own own w w':=
 ⟨h.os,h.tape,h.output,h.size,fun k hk _=>h.block k hk,fun _ _=>rfl⟩
theorem Fr.below {B:Nat}{own own':Nat->Nat}(h:Fr i own own' w w') (hB:B<=w.heap.size) (ho:∀k,k<B->own k=0) (hi:i≠0):Below B w w':=
 ⟨h.os,h.tape,h.output,h.size,fun k hk=>h.block k (by omega) (by rw [ho k hk];omega)⟩
theorem Fr.cell {i:Nat}{own own':Nat->Nat}{w w':World}(h:Fr i own own' w w') {a:Addr}{v:Value}(hc:w.cell? a=some v) (hi:own a.block≠i):w'.cell? a=some v:=
 (World.cell?_of_block (h.block a.block (World.block_lt_of_cell? w a hc) hi)).trans hc
theorem Nf.below {own:Nat->Nat}(h:Nf own w) (hb:w.heap.size<=w'.heap.size):Nf own w':=fun k hk=>h k (by omega)
theorem aa {W:World}{g k:Nat}{cs:Array Value}{T:TypeId}{v:Value}(h:W.heap[g]?=some (.cells cs T (0,0))) (hk:cs[k]?=some v):W.cell? ⟨g,k,none⟩=some v:=by simp [World.cell?,h,hk]
theorem ak {W:World}{g k:Nat}{cs:Array Value}{T:TypeId}(h:W.heap[g]?=some (.cells cs T (0,0))):W.frozen? ⟨g,k,none⟩=false:=by simp [World.frozen?,h]
theorem af {cs:Array Value}{T:TypeId}(h:W.heap[g]?=some (.cells cs T (0,0))) (k:Nat) (v:Value):(W.setCell ⟨g,k,none⟩ v).heap[g]?=some (.cells (cs.setIfInBounds k v) T (0,0)):=by
 obtain ⟨hlt,hk⟩:=Array.getElem?_eq_some_iff.1 h;show (W.heap.modify g _)[g]?=_;rw [Array.getElem?_eq_getElem (by rw [Array.size_modify];exact hlt),Array.getElem_modify_self,hk];rfl
theorem aU {b k:Nat}(h:W.heap[g]?=some o) (hne:g≠b) (v:Value):(W.setCell ⟨b,k,none⟩ v).heap[g]?=some o:=
 (Below.heap_setCell W ⟨b,k,none⟩ v g hne).trans h
theorem ap (h:W.heap[g]?=some o):g<W.heap.size:=(Array.getElem?_eq_some_iff.1 h).1
theorem ab {W W':World}{g:Nat}{o:Obj}(h:W.heap[g]?=some o) (hb:Below W.heap.size W W'):W'.heap[g]?=some o:=(hb.block g (ap h)).trans h
theorem Fr.set {own own':Nat->Nat}(h:Fr i own own' w W) {g:Nat}(hg:own' g=i) (k:Nat) (v:Value) (hN:∀j,j<w.heap.size->own j≠i->j≠g):Fr i own own' w (W.setCell ⟨g,k,none⟩ v):=
 ⟨h.os,h.tape,h.output,by show _<=(W.heap.modify g _).size;rw [Array.size_modify];exact h.size,
 fun j hj hi=>(Below.heap_setCell W ⟨g,k,none⟩ v j (hN j hj hi)).trans (h.block j hj hi),h.old⟩
theorem Fr.set' {own:Nat->Nat}(h:Fr i own own w W) {g:Nat}(hg:own g=i) (k:Nat) (v:Value):Fr i own own w (W.setCell ⟨g,k,none⟩ v):=
 h.set hg k v (fun j _ hj e=>hj (by rw [e];exact hg))
section
variable {β:Type} (enc:β->List Value) (sz:Nat)
def aW (zs:List β):List Value:=zs.flatMap enc
theorem eC (x:β) (zs:List β):aW enc (x :: zs)=enc x++aW enc zs:=rfl
theorem bQ (xs zs:List β):aW enc (xs++zs)=aW enc xs++aW enc zs:=by unfold aW;exact List.flatMap_append
variable (hsz:∀x,(enc x).length=sz)
include hsz
theorem dQ (zs:List β):(aW enc zs).length=zs.length*sz:=by
 induction zs with
 |nil=>simp [aW]
 |cons x r ih=>rw [eC,List.length_append,ih,hsz,List.length_cons,Nat.succ_mul];omega
theorem ip:∀(k:Nat) (zs:List β),(aW enc zs).drop (k*sz)=aW enc (zs.drop k)
 |0,zs=>by simp
 |k+1,[]=>by simp [aW]
 |k+1,x :: r=>by
  rw [eC,List.drop_append,hsz,List.drop_succ_cons,<-ip k r,List.drop_eq_nil_of_le (by rw [hsz,Nat.succ_mul];omega),List.nil_append]
  congr 1;rw [Nat.succ_mul];omega
theorem kP:∀(k:Nat) (zs:List β),(aW enc zs).take (k*sz)=aW enc (zs.take k)
 |0,zs=>by simp [aW]
 |k+1,[]=>by simp [aW]
 |k+1,x :: r=>by
  rw [eC,List.take_append,hsz,List.take_succ_cons,eC,<-kP k r,List.take_of_length_le (by rw [hsz,Nat.succ_mul];omega)]
  congr 2;rw [Nat.succ_mul];omega
theorem aH (zs:List β) (k j:Nat) (x:β) (v:Value) (hk:zs[k]?=some x) (hv:(enc x)[j]?=some v):(aW enc zs)[k*sz+j]?=some v:=by
 have h1:(aW enc zs)[k*sz+j]?=((aW enc zs).drop (k*sz))[j]?:=by rw [List.getElem?_drop]
 rw [h1,ip enc sz hsz];obtain ⟨hl,he⟩:=List.getElem?_eq_some_iff.1 hk;rw [List.drop_eq_getElem_cons hl,he,eC];rw [List.getElem?_append_left (List.getElem?_eq_some_iff.1 hv).1];exact hv
omit hsz in
end
theorem cH {P:Program}(w:World) (dT sT ty elem:TypeId) (sz g o dLen dCap:Nat) (a:Addr) (sLen sCap:Nat) (cur:Array Value) (t:TypeId) (cs:List Value)
  (hu:P.underlying dT=some (.slice elem)) (hs:(P.info? elem).map (·.size)=some sz)
  (hg:w.heap[g]?=some (.cells cur t (0,0))) (hn:cs.length=Nat.min sLen dLen*sz)
  (hsrc:∀j v,cs[j]?=some v->w.cell? (a.add j)=some v) (hfit:o+cs.length<=cur.size) (h1:∀v∈cs,v.oneCell'=true) :
  (Builtin.copy_ #[dT,sT] ty #[.slice (some ⟨g,o,none⟩) dLen dCap,.slice (some a) sLen sCap]).run P w =
   .ok (goInt (Nat.min sLen dLen)) (w.setRow g (cur.toList.take o++cs++cur.toList.drop (o+cs.length)).toArray):=by
 have hl:=run_loadCells_list (P:=P) w a cs hsrc;have hst:=run_storeCells_at P g o t cs 0 cur w hg (by simpa using hfit) h1;cases hq:P.info? elem with
 |none=>simp [hq] at hs
 |some i=>
  have hi:i.size=sz:=by simpa [hq] using hs
  simp [Builtin.copy_,run_underlying hu,Builtin.lenOf,Builtin.firstCells,sizeOf,typeInfo,hq,hi,<-hn,hl,hst]
end Go.Proofs.YtpdlohfdjiaegaaGreatDoor
namespace Go.Proofs.YtpdlohfdjiaegaaGreatDoor
open Go.RowKit
open Go.Lib (strCells strCells_length)
variable {w w' a b:World}{f e sz n m:Nat}{v:Value}{xs:List Value}{t:List UInt8}
def bc (l:List UInt8):List Value:=l.map fun b=>Value.int .u8 b.toNat
theorem BA (l:List UInt8):(bc l).length=l.length:=by simp [bc]
theorem wT (a b:List UInt8):bc (a++b)=bc a++bc b:=by simp [bc]
theorem By (l:List UInt8):∀u∈bc l,u.oneCell'=true:=by
 intro u hu;simp only [bc,List.mem_map] at hu;obtain ⟨x,_,rfl⟩:=hu;rfl
theorem zw (l:List UInt8) (k:Nat):(bc l).drop k=bc (l.drop k):=by simp [bc]
theorem zv (l:List UInt8) (k:Nat):(bc l).take k=bc (l.take k):=by simp [bc]
theorem fh {P:Program}(w:World) (base:Nat) (t u ty e:TypeId) (i:TypeInfo) (ht:P.underlying t=some (.slice e)) (hu:P.underlying u=some .string) (hi:P.info? e=some i) (hz:i.zero=some (.int .u8 0))
  (hsize:i.size=1) (hby:i.bytes=1) (v:Value) (n:Nat) (xs:List Value) (hown:w.ownsRow base e 1 v n xs) (s:ByteArray)
  (h63:n+s.size<=maxLen) (hbytes:n+s.size<=140737488355328) (hbase:base<=w.heap.size) :
  ∃v' w',(Builtin.append_ #[t,u] ty #[v,.string s]).run P w=.ok v' w'/\w'.ownsRow base e 1 v' (n+s.size) (xs++strCells s)/\w.grownBy w' v.ownBlock/\(v'.ownBlock=v.ownBlock\/v'.ownBlock=some w.heap.size):=by
 obtain ⟨v',w',hr,h1,h2,h3⟩:=Lib.run_append_own_string (P:=P) w base t u ty e i ht hu hi hz hsize hby v n xs hown s h63 hbytes hbase;refine ⟨v',w',hr,h1,h2,?_⟩;have hsmall:n+s.size<=9223372036854775807:=by simp only [maxLen] at h63;omega
 have hxl:xs.length=n:=by simpa using hown.1
 rcases hown.2 with ⟨rfl,rfl⟩|⟨g,cap,cur,rfl,hbg,hg,hnc,hcm,hcs,htake⟩
 ·by_cases hm:s.size=0
  ·left;rw [h3.2 ⟨rfl,hm⟩]
  ·have hr2:=run_append_nil_string (P:=P) w t u ty e i (.int .u8 0) ht hu hi hz s (by omega) (by omega) (by rw [hby];omega);rw [hr2] at hr;injection hr with e1 e2
   right;rw [<-e1];rfl
 ·by_cases hroom:n+s.size<=cap
  ·have hcs':cur.size=cap:=by simpa using hcs
   have hr2:=Lib.run_append_room_string (P:=P) w t u ty e i ht hu hi hsize g n cap cur hg s hroom (by omega);rw [hr2] at hr;injection hr with e1 e2
   left;rw [<-e1];rfl
  ·have holds:∀j u,xs[j]?=some u->w.cell? ((⟨g,0,none⟩:Addr).add j)=some u:=hown.cells (g:=g) rfl;have hr2:=Lib.run_append_grow_string (P:=P) w t u ty e i (.int .u8 0) ht hu hi hz ⟨g,0,none⟩ n cap xs (by rw [hsize];simpa using hxl) holds s (by omega) (by omega) (by rw [hby];exact growslice_fits (by omega) (by omega));rw [hr2] at hr;injection hr with e1 e2
   right;rw [<-e1];rfl
theorem cy {P:Program}{w:World}{ops:Array Oper}{rest:List Oper}{o:Oper}{a:Act}{Q:Exit->Act->World->Prop}(hgd:o.guard=none) (sl x:Operand) (t u:TypeId)
  (ho:o.op=.call { callee:=.builtin .append,args:=#[sl,x],argTypes:=#[t,u] })
  (base:Nat) (e:TypeId) (i:TypeInfo) (ht:P.underlying t=some (.slice e)) (hu:P.underlying u=some .string) (hi:P.info? e=some i) (hz:i.zero=some (.int .u8 0))
  (hsize:i.size=1) (hby:i.bytes=1)
  (v:Value) (n:Nat) (xs:List Value) (hs:a.eval sl=v) (hown:w.ownsRow base e 1 v n xs) (s:ByteArray) (hx:a.eval x=.string s)
  (h63:n+s.size<=maxLen) (hbytes:n+s.size<=140737488355328) (hbase:base<=w.heap.size)
  (h:∀v' w',w'.ownsRow base e 1 v' (n+s.size) (xs++strCells s)->w.grownBy w' v.ownBlock->(v'.ownBlock=v.ownBlock\/v'.ownBlock=some w.heap.size)->wpList P ops Q rest (a.put o.dst v') w'):wpList P ops Q (o :: rest) a w:=by
 refine wpList_plain hgd fun K hK=>?_
 obtain ⟨v',w',hr,h2,h3,h4⟩:=fh (P:=P) w base t u o.type e i ht hu hi hz hsize hby v n xs hown s h63 hbytes hbase;unfold Oper.wp execOp;simp only [ho,resolve,invoke,builtin,Sem.run_bind,Sem.run_pure,Result.andThen_ok,List.map_toArray,List.map_cons,List.map_nil,hs,hx,hr];exact hK _ _ (h v' w' h2 h3 h4)
structure Kp (S:Nat->Prop) (w w':World):Prop where
 os:w'.os=w.os
 tape:w'.tape=w.tape
 output:w'.output=w.output
 size:w.heap.size<=w'.heap.size
 block:∀k,k<w.heap.size->¬S k->w'.heap[k]?=w.heap[k]?
theorem Kp.refl (S:Nat->Prop) (w:World):Kp S w w:=⟨rfl,rfl,rfl,Nat.le_refl _,fun _ _ _=>rfl⟩
theorem Kp.trans {S:Nat->Prop}{c:World}(h:Kp S a b) (k:Kp S b c):Kp S a c:=
 ⟨k.os.trans h.os,k.tape.trans h.tape,k.output.trans h.output,Nat.le_trans h.size k.size,fun j hj hS=>(k.block j (Nat.lt_of_lt_of_le hj h.size) hS).trans (h.block j hj hS)⟩
theorem Kp.step {S T:Nat->Prop}{a b c:World}(h:Kp S a b) (k:Kp T b c) (hT:∀j,j<a.heap.size->T j->S j):Kp S a c:=
 ⟨k.os.trans h.os,k.tape.trans h.tape,k.output.trans h.output,Nat.le_trans h.size k.size,fun j hj hS=>(k.block j (Nat.lt_of_lt_of_le hj h.size) (fun ht=>hS (hT j hj ht))).trans (h.block j hj hS)⟩
theorem Kp.of_below {S:Nat->Prop}{w w':World}(h:Below w.heap.size w w'):Kp S w w':=⟨h.os,h.tape,h.output,h.size,fun k hk _=>h.block k hk⟩
theorem Kp.of_grown {row:Option Nat}(h:w.grownBy w' row):Kp (fun k=>some k=row) w w':=⟨h.os,h.tape,h.output,h.size,fun k hk hS=>h.block k hk hS⟩
theorem Kp.set (w:World) (g k:Nat) (v:Value):Kp (fun j=>j=g) w (w.setCell ⟨g,k,none⟩ v):=
 ⟨rfl,rfl,rfl,by show _<=(w.heap.modify g _).size;rw [Array.size_modify];exact Nat.le_refl _,fun j hj hS=>Below.heap_setCell w ⟨g,k,none⟩ v j hS⟩
theorem Kp.alloc {S:Nat->Prop}(h:Kp S a b) (o:Obj):Kp S a (b.alloc o):=h.step (T:=S) (Kp.of_below ((Below.refl _ _).alloc (Nat.le_refl _) _)) (fun _ _ h=>h)
theorem Kp.same {S:Nat->Prop}{w W W':World}(h:Kp S w W) (h1:W'.heap=W.heap) (h2:W'.os=W.os) (h3:W'.tape=W.tape) (h4:W'.output=W.output):Kp S w W':=
 ⟨h2.trans h.os,h3.trans h.tape,h4.trans h.output,by rw [h1];exact h.size,by rw [h1];exact h.block⟩
theorem Kp.fr {S:Nat->Prop}{i:Nat}{own own':Nat->Nat}(h:Kp S w w') (hS:∀k,k<w.heap.size->S k->own k=i) (ho:∀k,k<w.heap.size->own' k=own k):Fr i own own' w w':=
 ⟨h.os,h.tape,h.output,h.size,fun k hk hi=>h.block k hk (fun hs=>hi (hS k hk hs)),ho⟩
theorem Kp.blk {S:Nat->Prop}{w w':World}(h:Kp S w w') {g:Nat}{o:Obj}(hg:w.heap[g]?=some o) (hS:¬S g):w'.heap[g]?=some o:=(h.block g (ap hg) hS).trans hg
theorem Kp.row {S:Nat->Prop}(h:Kp S w w') {e sz n:Nat}{v:Value}{xs:List Value}(hr:w.ownsRow 0 e sz v n xs) (hS:∀k,v.ownBlock=some k->¬S k):w'.ownsRow 0 e sz v n xs:=by
 refine ⟨hr.1,?_⟩
 rcases hr.2 with h1|⟨g,cap,cur,rfl,h2,h3,h4⟩
 ·exact .inl h1
 ·exact .inr ⟨g,cap,cur,rfl,h2,h.blk h3 (hS g rfl),h4⟩
theorem aA {g:Nat}{cs:Array Value}{T:TypeId}{f:Nat × Nat}(hr:w.ownsRow 0 e sz v n xs) (hg:w.heap[g]?=some (.cells cs T f)) (hT:T≠e):v.ownBlock≠some g:=by
 intro h
 rcases hr.2 with ⟨rfl,_⟩|⟨b,cap,cur,rfl,_,h3,_⟩
 ·cases h
 ·simp only [Value.ownBlock,Option.some.injEq] at h;subst h;rw [hg] at h3;injection h3 with h4
  injection h4 with _ h5
  exact hT h5
theorem av (hr:w.ownsRow 0 e sz v n xs):∃p cap,v=.slice p n cap/\n<=cap/\cap<=maxLen:=by
 rcases hr.2 with ⟨rfl,rfl⟩|⟨b,cap,cur,rfl,_,h3,h4,h5,_⟩
 ·exact ⟨none,0,rfl,Nat.le_refl _,Nat.zero_le _⟩
 ·exact ⟨_,cap,rfl,h4,h5⟩
theorem aO (hr:w.ownsRow 0 e sz v n xs) (hb:Below w.heap.size w w'):w'.ownsRow 0 e sz v n xs:=
 (Kp.of_below (S:=fun _=>False) hb).row hr (fun _ _ h=>h)
def bW:Nat->List (Nat × Nat)->List UInt8->List UInt8
 |f,[],t=>t.drop f
 |f,(a,n) :: r,t=>(t.drop f).take (a-f)++(List.replicate n 32++bW a r t)
def Ups:Nat->List (Nat × Nat)->Nat->Prop
 |f,[],m=>f<=m
 |f,(a,_) :: r,m=>f<=a/\Ups a r m
def bT:List (Nat × Nat)->Nat
 |[]=>0
 | (_,n) :: r=>n+bT r
theorem Ups.le {gs:List (Nat × Nat)}(h:Ups f gs m):f<=m:=by
 induction gs generalizing f with
 |nil=>exact h
 |cons x r ih=>obtain ⟨a,n⟩:=x;exact Nat.le_trans h.1 (ih h.2)
theorem Ups.more {gs:List (Nat × Nat)}{m':Nat}(h:Ups f gs m) (hm:m<=m'):Ups f gs m':=by
 induction gs generalizing f with
 |nil=>exact Nat.le_trans h hm
 |cons x r ih=>obtain ⟨a,n⟩:=x;exact ⟨h.1,ih h.2⟩
theorem Ups.snoc {gs:List (Nat × Nat)}(n:Nat) (h:Ups f gs m):Ups f (gs++[(m,n)]) m:=by
 induction gs generalizing f with
 |nil=>exact ⟨h,Nat.le_refl _⟩
 |cons x r ih=>obtain ⟨a,n⟩:=x;exact ⟨h.1,ih h.2⟩
theorem kj {gs:List (Nat × Nat)}(s:List UInt8) (h:Ups f gs t.length):bW f gs (t++s)=bW f gs t++s:=by
 induction gs generalizing f with
 |nil=>simp only [bW];exact List.drop_append_of_le_length h
 |cons x r ih=>
  obtain ⟨a,n⟩:=x;have ha:=h.2.le;simp only [bW];rw [ih h.2,List.drop_append_of_le_length (Nat.le_trans h.1 ha),List.take_append_of_le_length (by rw [List.length_drop];have:=h.1;omega)];simp [List.append_assoc]
theorem rH {gs:List (Nat × Nat)}(n:Nat) (h:Ups f gs t.length):bW f (gs++[(t.length,n)]) t=bW f gs t++List.replicate n 32:=by
 induction gs generalizing f with
 |nil=>simp only [bW,List.nil_append];rw [List.take_of_length_le (by simp),List.drop_length];simp
 |cons x r ih=>
  obtain ⟨a,k⟩:=x;simp only [bW,List.cons_append];rw [ih h.2];simp [List.append_assoc]
theorem gX {gs:List (Nat × Nat)}(h:Ups f gs t.length):(bW f gs t).length=t.length-f+bT gs:=by
 induction gs generalizing f with
 |nil=>simp [bW,bT]
 |cons x r ih=>
  obtain ⟨a,k⟩:=x;have ha:=h.2.le;have h1:=h.1;simp only [bW,bT,List.length_append,List.length_replicate,List.length_take,List.length_drop,ih h.2];omega
theorem ui (a:List (Nat × Nat)) (x n:Nat):bT (a++[(x,n)])=bT a+n:=by
 induction a with
 |nil=>simp [bT]
 |cons y r ih=>obtain ⟨b,k⟩:=y;simp only [List.cons_append,bT,ih];omega
end Go.Proofs.YtpdlohfdjiaegaaGreatDoor
namespace Go.Proofs.YtpdlohfdjiaegaaGreatDoor
open Go.RowKit
variable {W w W' w':World}{B:Nat}
structure Tv where
 k:Int
 t:ByteArray
 a:Int
 l:Int
 c:Int
 f:Int
deriving DecidableEq
def Tv.v (d:Tv):Value:=.agg #[.int .u8 d.k,.string d.t,.int .i64 d.a,.int .i64 d.l,.int .i64 d.c,.int .i64 d.f]
def Tv.cs (d:Tv):List Value:=[.int .u8 d.k,.string d.t,.int .i64 d.a,.int .i64 d.l,.int .i64 d.c,.int .i64 d.f]
theorem Tv.cs_len (d:Tv):d.cs.length=6:=rfl
theorem Tv.cs_one (d:Tv):∀u∈d.cs,u.oneCell'=true:=by
 intro u hu;simp only [Tv.cs,List.mem_cons,List.not_mem_nil,or_false] at hu
 rcases hu with rfl|rfl|rfl|rfl|rfl|rfl <;> rfl
def tcs (l:List Tv):List Value:=aW Tv.cs l
theorem xu (l:List Tv):(tcs l).length=l.length*6:=dQ Tv.cs 6 Tv.cs_len l
theorem xt (l:List Tv):∀u∈tcs l,u.oneCell'=true:=by
 intro u hu;obtain ⟨d,_,h⟩:=List.mem_flatMap.1 hu;exact d.cs_one u h
theorem xv (a b:List Tv):tcs (a++b)=tcs a++tcs b:=bQ Tv.cs a b
def Lt (w:World) (ao:Option Addr) (l:List Tv):Prop:=∀j d,l[j]?=some d->∃b off,ao=some ⟨b,off,none⟩ /\
 w.cell? ⟨b,off+j*6,none⟩=some (.int .u8 d.k)/\w.cell? ⟨b,off+j*6+1,none⟩=some (.string d.t)/\w.cell? ⟨b,off+j*6+2,none⟩=some (.int .i64 d.a)/\w.cell? ⟨b,off+j*6+3,none⟩=some (.int .i64 d.l)/\w.cell? ⟨b,off+j*6+4,none⟩=some (.int .i64 d.c)/\w.cell? ⟨b,off+j*6+5,none⟩=some (.int .i64 d.f)
theorem Lt.kp {S:Nat->Prop}{w w':World}{ao:Option Addr}{l:List Tv}(h:Lt w ao l) (hb:Kp S w w') (hS:∀a,ao=some a->¬S a.block):Lt w' ao l:=by
 intro j a ha;obtain ⟨b,off,h1,c0,c1,c2,c3,c4,c5⟩:=h j a ha;have hlt:=World.block_lt_of_cell? _ _ c0;have e:w'.heap[b]?=w.heap[b]?:=hb.block b hlt (hS _ h1);exact ⟨b,off,h1,(World.cell?_of_block (a:=⟨b,_,none⟩) e).trans c0,(World.cell?_of_block (a:=⟨b,_,none⟩) e).trans c1,(World.cell?_of_block (a:=⟨b,_,none⟩) e).trans c2,(World.cell?_of_block (a:=⟨b,_,none⟩) e).trans c3,(World.cell?_of_block (a:=⟨b,_,none⟩) e).trans c4,(World.cell?_of_block (a:=⟨b,_,none⟩) e).trans c5⟩
theorem Lt.below {ao:Option Addr}{l:List Tv}(h:Lt w ao l) (hb:Below w.heap.size w w'):Lt w' ao l:=h.kp (Kp.of_below (S:=fun _=>False) hb) (fun _ _ h=>h)
def Rt (B:Nat) (w:World) (v:Value) (l:List Tv):Prop:=w.ownsRow B 37 6 v l.length (tcs l)
theorem AA (B:Nat) (w:World):Rt B w (.slice none 0 0) []:=World.ownsRow_nil w B 37 6
theorem Rt.shape {v:Value}{l:List Tv}(h:Rt B w v l):∃p cap,v=.slice p l.length cap/\l.length<=cap/\cap<=maxLen:=by
 rcases h.2 with ⟨rfl,h0⟩|⟨b,cap,cur,rfl,_,h3,h4,h5,_⟩
 ·exact ⟨none,0,by rw [h0],by omega,Nat.zero_le _⟩
 ·exact ⟨_,cap,rfl,h4,h5⟩
theorem Rt.own {v:Value}{l:List Tv}(h:Rt B w v l):∀k,v.ownBlock=some k->B<=k:=by
 intro k hk
 rcases h.2 with ⟨rfl,h0⟩|⟨b,cap,cur,rfl,hb,_⟩
 ·cases hk
 ·simp only [Value.ownBlock,Option.some.injEq] at hk;omega
theorem Rt.below {v:Value}{l:List Tv}(h:Rt B w v l) (hb:Below w.heap.size w w'):Rt B w' v l:=by
 refine ⟨h.1,?_⟩
 rcases h.2 with h1|⟨g,cap,cur,rfl,h2,h3,h4⟩
 ·exact .inl h1
 ·exact .inr ⟨g,cap,cur,rfl,h2,ab h3 hb,h4⟩
theorem Rt.kp {B:Nat}{S:Nat->Prop}{w w':World}{v:Value}{l:List Tv}(h:Rt B w v l) (hb:Kp S w w') (hS:∀k,v.ownBlock=some k->¬S k):Rt B w' v l:=by
 refine ⟨h.1,?_⟩
 rcases h.2 with h1|⟨g,cap,cur,rfl,h2,h3,h4⟩
 ·exact .inl h1
 ·exact .inr ⟨g,cap,cur,rfl,h2,hb.blk h3 (hS g rfl),h4⟩
theorem Rt.ne {v:Value}{l:List Tv}(h:Rt B w v l) {g:Nat}{cs:Array Value}{T:TypeId}{f:Nat × Nat}(hg:w.heap[g]?=some (.cells cs T f)) (hT:T≠37):∀k,v.ownBlock=some k->k≠g:=by
 intro k hk e
 rcases h.2 with ⟨rfl,h0⟩|⟨b,cap,cur,rfl,hb,h3,_⟩
 ·cases hk
 ·simp only [Value.ownBlock,Option.some.injEq] at hk;subst hk;subst e;rw [hg] at h3;cases h3;exact hT rfl
theorem Lt.row {v:Value}{l:List Tv}(h:Rt B w v l):∃ao cap,v=.slice ao l.length cap/\Lt w ao l/\(ao=none\/∃g,ao=some ⟨g,0,none⟩/\B<=g/\g<w.heap.size)/\l.length<=cap/\cap<=maxLen:=by
 rcases h.2 with ⟨rfl,h0⟩|⟨g,cap,cur,rfl,hb,hg,h3,h4,h5,h6⟩
 ·have:l=[]:=List.eq_nil_of_length_eq_zero h0;subst this;exact ⟨none,0,rfl,fun j d h=>by simp at h,.inl rfl,Nat.zero_le _,Nat.zero_le _⟩
 ·refine ⟨some ⟨g,0,none⟩,cap,rfl,?_,.inr ⟨g,rfl,hb,ap hg⟩,h3,h4⟩;intro j d hj
  have hc:∀(k:Nat) (u:Value),(tcs l)[k]?=some u->w.cell? ⟨g,k,none⟩=some u:=fun k u hu=>by
   have:=h.cells (g:=g) rfl k u hu;rw [Addr.add_lit,Nat.zero_add] at this;exact this
  refine ⟨g,0,rfl,?_,?_,?_,?_,?_,?_⟩
  ·rw [Nat.zero_add];exact hc _ _ (aH Tv.cs 6 Tv.cs_len l j 0 d _ hj rfl)
  ·rw [Nat.zero_add];exact hc _ _ (aH Tv.cs 6 Tv.cs_len l j 1 d _ hj rfl)
  ·rw [Nat.zero_add];exact hc _ _ (aH Tv.cs 6 Tv.cs_len l j 2 d _ hj rfl)
  ·rw [Nat.zero_add];exact hc _ _ (aH Tv.cs 6 Tv.cs_len l j 3 d _ hj rfl)
  ·rw [Nat.zero_add];exact hc _ _ (aH Tv.cs 6 Tv.cs_len l j 4 d _ hj rfl)
  ·rw [Nat.zero_add];exact hc _ _ (aH Tv.cs 6 Tv.cs_len l j 5 d _ hj rfl)
theorem Tryz.info37:(Tryz.prog.info? 37).map (fun i=>(i.zero,i.size,i.bytes))=some (some (.agg #[.int .u8 0,.string ⟨#[]⟩,.int .i64 0,.int .i64 0,.int .i64 0,.int .i64 0]),6,56):=by kernel_rfl
theorem am (w:World) (o:Obj):(w.alloc o).heap[w.heap.size]?=some o:=by show (w.heap.push o)[w.heap.size]?=_;simp
theorem ay {g:Nat}{o:Obj}(h:W.heap[g]?=some o) (o':Obj):(W.alloc o').heap[g]?=some o:=ab h ((Below.refl _ _).alloc (Nat.le_refl _) _)
theorem Kp.sub {S T:Nat->Prop}{w w':World}(h:Kp T w w') (hs:∀k,T k->S k):Kp S w w':=⟨h.os,h.tape,h.output,h.size,fun k hk hS=>h.block k hk (fun ht=>hS (hs k ht))⟩
structure Ev where
 k:Int
 n:Int
 d:Tv
deriving DecidableEq
def Ev.v (e:Ev):Value:=.agg #[.int .u8 e.k,.int .u8 e.n,.int .u8 e.d.k,.string e.d.t,.int .i64 e.d.a,.int .i64 e.d.l,.int .i64 e.d.c,.int .i64 e.d.f]
def Ev.cs (e:Ev):List Value:=[.int .u8 e.k,.int .u8 e.n,.int .u8 e.d.k,.string e.d.t,.int .i64 e.d.a,.int .i64 e.d.l,.int .i64 e.d.c,.int .i64 e.d.f]
theorem Ev.cs_len (e:Ev):e.cs.length=8:=rfl
theorem Ev.cs_one (e:Ev):∀u∈e.cs,u.oneCell'=true:=by
 intro u hu;simp only [Ev.cs,List.mem_cons,List.not_mem_nil,or_false] at hu
 rcases hu with rfl|rfl|rfl|rfl|rfl|rfl|rfl|rfl <;> rfl
def ecs (l:List Ev):List Value:=aW Ev.cs l
theorem ri (l:List Ev):(ecs l).length=l.length*8:=dQ Ev.cs 8 Ev.cs_len l
theorem rf (l:List Ev):∀u∈ecs l,u.oneCell'=true:=by
 intro u hu;obtain ⟨d,_,h⟩:=List.mem_flatMap.1 hu;exact d.cs_one u h
theorem rj (a b:List Ev):ecs (a++b)=ecs a++ecs b:=bQ Ev.cs a b
def tv0:Tv:=⟨0,⟨#[]⟩,0,0,0,0⟩
def Nb (W:World) (v v':Value):Prop:=v'.ownBlock=v.ownBlock\/∃k,v'.ownBlock=some k/\W.heap.size<=k
theorem Nb.refl (W:World) (v:Value):Nb W v v:=.inl rfl
theorem Nb.trans {a b c:Value}(h:Nb W a b) (h':Nb W' b c) (hs:W.heap.size<=W'.heap.size):Nb W a c:=by
 rcases h' with h'|⟨k,h',hk⟩
 ·rcases h with h|⟨k,h,hk⟩
  ·exact .inl (h'.trans h)
  ·exact .inr ⟨k,h'.trans h,hk⟩
 ·exact .inr ⟨k,h',Nat.le_trans hs hk⟩
def Re (W:World) (v:Value) (l:List Ev):Prop:=W.ownsRow 0 39 8 v l.length (ecs l)
theorem lA (W:World):Re W (.slice none 0 0) []:=World.ownsRow_nil W 0 39 8
theorem Re.kp {S:Nat->Prop}{W W':World}{v:Value}{l:List Ev}(h:Re W v l) (hk:Kp S W W') (hS:∀k,v.ownBlock=some k->¬S k):Re W' v l:=hk.row h hS
theorem Re.below {v:Value}{l:List Ev}(h:Re W v l) (hb:Below W.heap.size W W'):Re W' v l:=aO h hb
theorem Re.shape {v:Value}{l:List Ev}(h:Re W v l):∃p cap,v=.slice p l.length cap/\l.length<=cap/\cap<=maxLen:=av h
theorem Re.ne {v:Value}{l:List Ev}(h:Re W v l) {g:Nat}{cs:Array Value}{T:TypeId}{f:Nat × Nat}(hg:W.heap[g]?=some (.cells cs T f)) (hT:T≠39):∀k,v.ownBlock=some k->k≠g:=fun k hk e=>aA h hg hT (by rw [hk,e])
theorem Re.lt {v:Value}{l:List Ev}(h:Re W v l):∀k,v.ownBlock=some k->k<W.heap.size:=by
 intro k hk
 rcases h.2 with ⟨rfl,_⟩|⟨b,cap,cur,rfl,_,h3,_⟩
 ·cases hk
 ·simp only [Value.ownBlock,Option.some.injEq] at hk;subst hk;exact ap h3
theorem Tryz.info39:(Tryz.prog.info? 39).map (fun i=>(i.zero,i.size,i.bytes))=some (some (.agg #[.int .u8 0,.int .u8 0,.int .u8 0,.string ⟨#[]⟩,.int .i64 0,.int .i64 0,.int .i64 0,.int .i64 0]),8,64):=by kernel_rfl
def Rs (W:World) (v:Value) (l:List Value):Prop:=W.ownsRow 0 153 1 v l.length l
theorem AB (W:World):Rs W (.slice none 0 0) []:=World.ownsRow_nil W 0 153 1
theorem Rs.kp {S:Nat->Prop}{W W':World}{v:Value}{l:List Value}(h:Rs W v l) (hk:Kp S W W') (hS:∀k,v.ownBlock=some k->¬S k):Rs W' v l:=hk.row h hS
theorem Rs.below {v:Value}{l:List Value}(h:Rs W v l) (hb:Below W.heap.size W W'):Rs W' v l:=aO h hb
theorem Rs.shape {v:Value}{l:List Value}(h:Rs W v l):∃p cap,v=.slice p l.length cap/\l.length<=cap/\cap<=maxLen:=av h
theorem Rs.ne {v:Value}{l:List Value}(h:Rs W v l) {g:Nat}{cs:Array Value}{T:TypeId}{f:Nat × Nat}(hg:W.heap[g]?=some (.cells cs T f)) (hT:T≠153):∀k,v.ownBlock=some k->k≠g:=fun k hk e=>aA h hg hT (by rw [hk,e])
theorem Rs.lt {v:Value}{l:List Value}(h:Rs W v l):∀k,v.ownBlock=some k->k<W.heap.size:=by
 intro k hk
 rcases h.2 with ⟨rfl,_⟩|⟨b,cap,cur,rfl,_,h3,_⟩
 ·cases hk
 ·simp only [Value.ownBlock,Option.some.injEq] at hk;subst hk;exact ap h3
theorem Tryz.info153:(Tryz.prog.info? 153).map (fun i=>(i.zero,i.size,i.bytes))=some (some .nilFunc,1,8):=by kernel_rfl
end Go.Proofs.YtpdlohfdjiaegaaGreatDoor
namespace Go.Proofs.YtpdlohfdjiaegaaGreatDoor.Lx
open Go.ChangeShapes Go.WideShapes Go.ChangeAt Go.RowKit
variable {w w' W:World}
theorem fm {P:Program}:∀(laid:List (String × DataW Unit)) (ps:List MemPlace),DataW.LaidVars P w laid ps->∀n d,(n,d)∈laid ->
  ∃g t cs fuel p,P.globalNamed n=some g/\(P.globals[g]?).map (·.type)=some t/\w.var? P n=some cs/\DataW.trod (fun _=>()) P w 0 (fun _=>true) false fuel t cs.toList=some (d,p)
 |[],_,_,n,d,h=>by cases h
 | (m,e) :: r,ps,⟨g,t,cs,fuel,p,q,h1,h2,h3,h4,h5,_⟩,n,d,h=>by
  rcases List.mem_cons.1 h with h|h
  ·cases h;exact ⟨g,t,cs,fuel,p,h1,h2,h3,h4⟩
  ·exact fm r q h5 n d h
def eD:List (Int × Int × Int):=[(48,57,1),(65,90,2),(95,95,1),(97,122,2),(192,214,2),(216,246,2),(248,591,2),(768,879,1),(913,929,2),(931,974,2),(1024,1119,2),(1488,1514,2),(1568,1610,2),(2308,2361,2),(12353,12438,2),(12449,12538,2),(19968,40959,2),(44032,55203,2),(66560,66639,2),(131072,196607,2)]
def clo (i:Nat):Int:=(eD.getD i (0,0,0)).1
def chi (i:Nat):Int:=(eD.getD i (0,0,0)).2.1
def cus (i:Nat):Int:=(eD.getD i (0,0,0)).2.2
def oz (w:World):Prop:=∀i,i<20->w.cell? ⟨0,i*3,none⟩=some (.int .i64 (clo i))/\w.cell? ⟨0,i*3+1,none⟩=some (.int .i64 (chi i))/\w.cell? ⟨0,i*3+2,none⟩=some (.int .i64 (cus i))
theorem oz.below (h:oz w) (hb:Below w.heap.size w w'):oz w':=by
 intro i hi;obtain ⟨h0,h1,h2⟩:=h i hi;have hz:=World.block_lt_of_cell? w _ h0;exact ⟨(hb.cell (p:=⟨0,i*3,none⟩) hz).trans h0,(hb.cell (p:=⟨0,i*3+1,none⟩) hz).trans h1,(hb.cell (p:=⟨0,i*3+2,none⟩) hz).trans h2⟩
theorem pO:(Rows.laid_colophon_class_spans:DataW Unit)=.agg (eD.map fun x=>.agg [.lit (.int .i64 x.1),.lit (.int .i64 x.2.1),.lit (.int .i64 x.2.2)]):=by kernel_rfl
theorem mg {L:List (String × DataW Unit)}(hpl:(L.all fun x=>x.2.handleName?.isNone)=true) (hm:("colophon/class.spans",Rows.laid_colophon_class_spans)∈L) (h:laidMetH Tryz.prog L W):oz W:=by
 rw [MakeChecks.laidMetH_plain _ _ _ hpl] at h;obtain ⟨ps,hps,_,_⟩:=h;obtain ⟨g,t,cs,fuel,p,hg,ht,hv,hd⟩:=fm L ps hps _ _ hm;obtain rfl:=Option.some.inj ((show Tryz.prog.globalNamed "colophon/class.spans"=some 0 by kernel_rfl).symm.trans hg);obtain rfl:=Option.some.inj ((show (Tryz.prog.globals[0]?).map (·.type)=some 233 by kernel_rfl).symm.trans ht);rw [pO] at hd;obtain ⟨xs,m,_,ex,_,hl,hel⟩:=DataW.trod_array Tryz.underlying233 hd;have c3:Tryz.prog.cellsOf 3=1:=by kernel_rfl
 have c37:Tryz.prog.cellsOf 199=1:=by kernel_rfl
 have cS:Tryz.prog.cellsOf 232=3:=by kernel_rfl
 intro i hi;have hE:=hel i hi;rw [cS,List.getElem?_eq_getElem (by omega)] at hE;obtain ⟨y0,y1,y2,n,ey,_,g0,g1,g2⟩:=Deep.trod_struct3 Tryz.underlying232 hE;simp only [c3,c37] at g0 g1 g2;obtain ⟨z0,a0,b0,_⟩:=DataW.trod_int Tryz.underlying3 g0;obtain ⟨z1,a1,b1,_⟩:=DataW.trod_int Tryz.underlying3 g1;obtain ⟨z2,a2,b2,_⟩:=DataW.trod_int Tryz.underlying199 g2;have hlen:eD.length=20:=rfl;have e3:(xs.map (·.1))=eD.map fun x=>(.agg [.lit (.int .i64 x.1),.lit (.int .i64 x.2.1),.lit (.int .i64 x.2.2)]:DataW Unit):=(DataW.agg.inj (Prod.mk.inj ex).1).symm
 have e4:(xs.map (·.1))[i]?=(eD.map fun x=>(.agg [.lit (.int .i64 x.1),.lit (.int .i64 x.2.1),.lit (.int .i64 x.2.2)]:DataW Unit))[i]?:=by rw [e3]
 rw [List.getElem?_map,List.getElem?_map,List.getElem?_eq_getElem (by omega:i<xs.length),List.getElem?_eq_getElem (by omega:i<eD.length),ey,b0,b1,b2] at e4;simp only [Option.map_some,Option.some.injEq,DataW.agg.injEq,List.cons.injEq,DataW.lit.injEq,Lit.int.injEq,true_and,and_true] at e4;obtain ⟨f0,f1,f2⟩:=e4;have hT:eD.getD i (0,0,0)=eD[i]:=by rw [List.getD,List.getElem?_eq_getElem (show i<eD.length by omega)];rfl
 have key:∀(o:Nat) (z:Int),o<3->(((cs.toList.drop (i*3)).take 3).drop o).take 1=[.int .i64 z]->W.cell? ⟨0,i*3+o,none⟩=some (.int .i64 z):=by
  intro o z ho hz;rw [World.var?_cell hg hv (i*3+o)];have h0:((((cs.toList.drop (i*3)).take 3).drop o).take 1)[0]?=some (.int .i64 z):=by rw [hz];rfl
  rw [List.getElem?_take,if_pos (by omega),List.getElem?_drop,List.getElem?_take,if_pos (by omega),List.getElem?_drop] at h0
  simpa using h0
 refine ⟨?_,?_,?_⟩
 ·have:=key 0 z0 (by omega) (by simpa using a0);rw [Nat.add_zero] at this;rw [this,clo,hT,f0];rfl
 ·have:=key 1 z1 (by omega) (by simpa using a1);rw [this,chi,hT,f1];rfl
 ·have:=key 2 z2 (by omega) (by simpa using a2);rw [this,cus,hT,f2];rfl
def cj:List ByteArray:=[⟨#[97,110,100]⟩,⟨#[97,114,114,97,121]⟩,⟨#[98,101,103,105,110]⟩,⟨#[99,111,110,115,116]⟩,⟨#[100,111]⟩,⟨#[101,108,105,102]⟩,⟨#[101,108,115,101]⟩,⟨#[101,110,100]⟩,⟨#[102,111,114]⟩,⟨#[105,102]⟩,⟨#[110,111,116]⟩,⟨#[111,102]⟩,⟨#[111,114]⟩,⟨#[112,114,111,99]⟩,⟨#[112,114,111,103,114,97,109]⟩,⟨#[114,101,99,111,114,100]⟩,⟨#[114,101,112,101,97,116]⟩,⟨#[114,101,116,117,114,110]⟩,⟨#[115,107,105,112]⟩,⟨#[116,104,101,110]⟩,⟨#[116,111]⟩,⟨#[117,110,116,105,108]⟩,⟨#[118,97,114]⟩,⟨#[119,104,105,108,101]⟩]
def tR (w:World):Prop:=∀i,i<24->w.cell? ⟨2,i,none⟩=some (.string (cj.getD i ByteArray.empty))
theorem tR.below (h:tR w) (hb:Below w.heap.size w w'):tR w':=by
 intro i hi;have h0:=h i hi;exact (hb.cell (p:=⟨2,i,none⟩) (World.block_lt_of_cell? w _ h0)).trans h0
theorem oE:(Rows.laid_colophon_class_words:DataW Unit)=.agg (cj.map fun x=>.lit (.string x.data.toList)):=by kernel_rfl
theorem kX {L:List (String × DataW Unit)}(hpl:(L.all fun x=>x.2.handleName?.isNone)=true) (hm:("colophon/class.words",Rows.laid_colophon_class_words)∈L) (h:laidMetH Tryz.prog L W):tR W:=by
 rw [MakeChecks.laidMetH_plain _ _ _ hpl] at h;obtain ⟨ps,hps,_,_⟩:=h;obtain ⟨g,t,cs,fuel,p,hg,ht,hv,hd⟩:=fm L ps hps _ _ hm;obtain rfl:=Option.some.inj ((show Tryz.prog.globalNamed "colophon/class.words"=some 2 by kernel_rfl).symm.trans hg);obtain rfl:=Option.some.inj ((show (Tryz.prog.globals[2]?).map (·.type)=some 265 by kernel_rfl).symm.trans ht);rw [oE] at hd;obtain ⟨xs,m,_,ex,_,hl,hel⟩:=DataW.trod_array Tryz.underlying265 hd;have c9:Tryz.prog.cellsOf 9=1:=by kernel_rfl
 intro i hi;have hE:=hel i hi;rw [c9,List.getElem?_eq_getElem (by omega)] at hE;obtain ⟨s,a0,b0,_⟩:=DataW.trod_string Tryz.underlying9 hE;have hlen:cj.length=24:=rfl;have e3:(xs.map (·.1))=cj.map fun x=>(.lit (.string x.data.toList):DataW Unit):=(DataW.agg.inj (Prod.mk.inj ex).1).symm
 have e4:(xs.map (·.1))[i]?=(cj.map fun x=>(.lit (.string x.data.toList):DataW Unit))[i]?:=by rw [e3]
 rw [List.getElem?_map,List.getElem?_map,List.getElem?_eq_getElem (by omega:i<xs.length),List.getElem?_eq_getElem (by omega:i<cj.length),b0] at e4;simp only [Option.map_some,Option.some.injEq,DataW.lit.injEq,Lit.string.injEq] at e4;have hT:cj.getD i ByteArray.empty=cj[i]:=by rw [List.getD,List.getElem?_eq_getElem (show i<cj.length by omega)];rfl
 have hs:s=cj[i]:=by
  have:=Array.toList_inj.1 e4;cases hs:s;cases hx:cj[i];simp_all
 rw [World.var?_cell hg hv i,hT,<-hs];have h0:(((cs.toList.drop (i*1)).take 1))[0]?=some (.string s):=by rw [a0];rfl
 rw [List.getElem?_take,if_pos (by omega),List.getElem?_drop] at h0
 simpa using h0
def aL:List ByteArray:=[⟨#[58,61]⟩,⟨#[46,46]⟩,⟨#[60,61]⟩,⟨#[62,61]⟩,⟨#[59]⟩,⟨#[46]⟩,⟨#[44]⟩,⟨#[58]⟩,⟨#[61]⟩,⟨#[35]⟩,⟨#[60]⟩,⟨#[62]⟩,⟨#[40]⟩,⟨#[41]⟩,⟨#[91]⟩,⟨#[93]⟩,⟨#[43]⟩,⟨#[45]⟩,⟨#[42]⟩,⟨#[47]⟩,⟨#[37]⟩]
def tS (w:World):Prop:=∀i,i<21->w.cell? ⟨1,i,none⟩=some (.string (aL.getD i ByteArray.empty))
theorem tS.below (h:tS w) (hb:Below w.heap.size w w'):tS w':=by
 intro i hi;have h0:=h i hi;exact (hb.cell (p:=⟨1,i,none⟩) (World.block_lt_of_cell? w _ h0)).trans h0
theorem oP:(Rows.laid_colophon_class_signs:DataW Unit)=.agg (aL.map fun x=>.lit (.string x.data.toList)):=by kernel_rfl
theorem lj {L:List (String × DataW Unit)}(hpl:(L.all fun x=>x.2.handleName?.isNone)=true) (hm:("colophon/class.signs",Rows.laid_colophon_class_signs)∈L) (h:laidMetH Tryz.prog L W):tS W:=by
 rw [MakeChecks.laidMetH_plain _ _ _ hpl] at h;obtain ⟨ps,hps,_,_⟩:=h;obtain ⟨g,t,cs,fuel,p,hg,ht,hv,hd⟩:=fm L ps hps _ _ hm;obtain rfl:=Option.some.inj ((show Tryz.prog.globalNamed "colophon/class.signs"=some 1 by kernel_rfl).symm.trans hg);obtain rfl:=Option.some.inj ((show (Tryz.prog.globals[1]?).map (·.type)=some 236 by kernel_rfl).symm.trans ht);rw [oP] at hd;obtain ⟨xs,m,_,ex,_,hl,hel⟩:=DataW.trod_array Tryz.underlying236 hd;have c9:Tryz.prog.cellsOf 9=1:=by kernel_rfl
 intro i hi;have hE:=hel i hi;rw [c9,List.getElem?_eq_getElem (by omega)] at hE;obtain ⟨s,a0,b0,_⟩:=DataW.trod_string Tryz.underlying9 hE;have hlen:aL.length=21:=rfl;have e3:(xs.map (·.1))=aL.map fun x=>(.lit (.string x.data.toList):DataW Unit):=(DataW.agg.inj (Prod.mk.inj ex).1).symm
 have e4:(xs.map (·.1))[i]?=(aL.map fun x=>(.lit (.string x.data.toList):DataW Unit))[i]?:=by rw [e3]
 rw [List.getElem?_map,List.getElem?_map,List.getElem?_eq_getElem (by omega:i<xs.length),List.getElem?_eq_getElem (by omega:i<aL.length),b0] at e4;simp only [Option.map_some,Option.some.injEq,DataW.lit.injEq,Lit.string.injEq] at e4;have hT:aL.getD i ByteArray.empty=aL[i]:=by rw [List.getD,List.getElem?_eq_getElem (show i<aL.length by omega)];rfl
 have hs:s=aL[i]:=by
  have:=Array.toList_inj.1 e4;cases hs:s;cases hx:aL[i];simp_all
 rw [World.var?_cell hg hv i,hT,<-hs];have h0:(((cs.toList.drop (i*1)).take 1))[0]?=some (.string s):=by rw [a0];rfl
 rw [List.getElem?_take,if_pos (by omega),List.getElem?_drop] at h0
 simpa using h0
def Kab (w:World):Prop:=oz w/\tR w/\tS w
theorem Kab.below (h:Kab w) (hb:Below w.heap.size w w'):Kab w':=⟨h.1.below hb,h.2.1.below hb,h.2.2.below hb⟩
theorem nG {L:List (String × DataW Unit)}(hpl:(L.all fun x=>x.2.handleName?.isNone)=true) (h1:("colophon/class.spans",Rows.laid_colophon_class_spans)∈L)
  (h2:("colophon/class.words",Rows.laid_colophon_class_words)∈L) (h3:("colophon/class.signs",Rows.laid_colophon_class_signs)∈L) (h:laidMetH Tryz.prog L W):Kab W:=
 ⟨mg hpl h1 h,kX hpl h2 h,lj hpl h3 h⟩
end Go.Proofs.YtpdlohfdjiaegaaGreatDoor.Lx
