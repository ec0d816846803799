import Derived.Defers
import Derived.Recover
import Derived.Laws.Pointers
import Derived.Test.YtcjiapphbpiffaaGreatDoorM23
import Derived.Test.YtcjiapphbpiffaaGreatDoorM24
set_option linter.unusedVariables false
set_option linter.unusedSimpArgs false
set_option maxHeartbeats 2000000
set_option maxRecDepth 100000
namespace Go.Proofs.YtcjiapphbpiffaaGreatDoor
open Go.RowKit
variable {ao ao':Option Addr}{cap g p b cap' a:Nat}{w0 W V w V':World}{r l r':List Ev}{k k0 ek en:Int}{c:List bQ}{sv s0 s x:Value}{vs:List Value}{d0 d ed:Tv}
theorem Tryz.info72:(Tryz.prog.info? 72).map (fun i=>(i.zero,i.size,i.bytes))=some (some (.agg #[.int .u8 0,.int .u8 0,.string ⟨#[]⟩,.int .i64 0,.int .i64 0,.int .i64 0,.int .i64 0,.slice none 0 0]),8,88):=by kernel_rfl
theorem O3 {F:Array Oper}{rest:List Oper}{o:Oper}{a:Act}{Q:Exit->Act->World->Prop}(J:o.guard=none) (s x:Operand)
  (ho:o.op=.call { callee:=.builtin .append,args:=#[s,x],argTypes:=#[70,70] }) (v:Value) (c:List bQ) (vs:List Value) (n:bQ) (p:Option Addr) (m H:Nat) (hs:a.eval s=v) (I:RN W v c vs)
  (g c1:Nat) (hx:a.eval x=.slice (some ⟨g,0,none⟩) 1 c1) (Z:W.heap[g]?=some (bz n.k n.d (.slice p m H))) (hl:c.length<=1000000000)
  (h:∀v' w',RN w' v' (c++[n]) (vs++[.slice p m H])->W.grownBy w' v.ownBlock->Nb W v v'->wpList Tryz.prog F Q rest (a.put o.dst v') w'):wpList Tryz.prog F Q (o :: rest) a W:=by
 obtain ⟨i0,hi,M,O,S⟩:=T7 Tryz.info72;refine T2 (P:=Tryz.prog) (w:=W) J s x 70 ho 0 72 i0 _ 8 88 Tryz.underlying70 hi M O S rfl (by decide) v _ _ hs I.2 ⟨g,0,none⟩ 1 c1 (nc n (.slice p m H)) hx rfl ?_ ?_ (by unfold maxLen;omega) (by omega) (SW _) ?_
 ·intro j u G;refine TX Z j u ?_
  simpa [nc] using G
 ·intro u G;simp only [nc,Tt,UT,Xi] at G
  rcases G with rfl|rfl|rfl|rfl|rfl|rfl|rfl|rfl <;> rfl
 ·intro v' w' U Y _ C;refine h v' w' ⟨by simp [I.1],?_⟩ Y ?_
  ·rw [Or,FQ c vs I.1];exact U
  ·rcases C with C|C
   ·exact .inl C
   ·exact .inr ⟨_,C,gt _⟩
abbrev mP (g p:Nat):Value:=.func (.func 160) #[] #[.pointer (some ⟨g,0,none⟩),.pointer (some ⟨p,0,none⟩)]
structure RS (w0:World) (g p:Nat) (l:List Ev) (ao:Option Addr) (cap:Nat) (V:World):Prop where
 bel:Below w0.heap.size w0 V
 hg:V.heap[g]?=some (.cells #[.slice ao l.length cap] 106 (0,0))
 hp:V.heap[p]?=some (.cells #[mP g p] 250 (0,0))
 le:Le w0 ao l
 lc:l.length<=cap
 cm:cap<=maxLen
 g0:w0.heap.size<=g
 p0:w0.heap.size<=p
theorem RS.ne (h:RS w0 g p l ao cap V):g≠p:=by
 rintro rfl;have:=h.hg;rw [h.hp] at this;injection this with e
 injection e with _ e
 exact absurd e (by decide)
theorem RS.below (h:RS w0 g p l ao cap V) (C:Below V.heap.size V V'):RS w0 g p l ao cap V':=
 ⟨h.bel.trans (C.mono h.bel.size),ag h.hg C,ag h.hp C,h.le,h.lc,h.cm,h.g0,h.p0⟩
theorem RS.kp {S:Nat->Prop}{w0:World}{g p:Nat}{l:List Ev}{ao:Option Addr}{cap:Nat}{V V':World}(h:RS w0 g p l ao cap V) (F:Kp S V V') (C:∀k,S k->w0.heap.size<=k/\k≠g/\k≠p):RS w0 g p l ao cap V':=
 ⟨Kp.low h.bel F (fun k e=>(C k e).1) h.bel.size,F.blk h.hg (fun e=>(C g e).2.1 rfl),F.blk h.hp (fun e=>(C p e).2.2 rfl),h.le,h.lc,h.cm,h.g0,h.p0⟩
theorem RS.set {l':List Ev}(h:RS w0 g p l ao cap V) (C:Le w0 ao' l') (hc:l'.length<=cap') (F:cap'<=maxLen):RS w0 g p l' ao' cap' (V.setCell ⟨g,0,none⟩ (.slice ao' l'.length cap')):=
 ⟨Kp.low h.bel (Kp.set V g 0 _) (fun k e=>by subst e;exact h.g0) h.bel.size,aj h.hg 0 _,bh h.hp (Xl h.ne) _,C,hc,F,h.g0,h.p0⟩
def QK (w0:World) (g p a:Nat) (l:List Ev) (W:World) (x:Ending) (w':World):Prop:=∃(n:bQ) (sv:Value) (ok:Bool) (r:List Ev) (ao:Option Addr) (cap:Nat),x=.returned (.tuple #[eF n.k n.d sv,.bool ok])/\RS w0 g p r ao cap w'/\Kp (fun k=>k=g) W w'/\r.length<l.length/\TN (fun k=>W.heap.size<=k) w' n sv/\(if ok then QS a l n r else IS a l)
def xF (w0:World) (g p:Nat) (l:List Ev):Prop:=∀(a:Nat) (ao:Option Addr) (cap:Nat) (W:World),a<=1000->(∀e r,l=e :: r->e.k=3->a=0)->RS w0 g p l ao cap W->Ta 160 #[.int .i64 (a:Nat),.pointer (some ⟨g,0,none⟩),.pointer (some ⟨p,0,none⟩)] W (QK w0 g p a l W)
def aJ (w:World) (b:Nat) (k:Int) (d:Tv) (s:Value):World:=(((((((w.setCell ⟨b,0,none⟩ (.int .u8 k)).setCell ⟨b,1,none⟩ (.int .u8 d.k)).setCell ⟨b,2,none⟩ (.string d.t)).setCell ⟨b,3,none⟩ (.int .i64 d.a)).setCell ⟨b,4,none⟩ (.int .i64 d.l)).setCell ⟨b,5,none⟩ (.int .i64 d.c)).setCell ⟨b,6,none⟩ (.int .i64 d.f)).setCell ⟨b,7,none⟩ s
theorem gk (h:w.heap[b]?=some (bz k0 d0 s0)) (k:Int) (d:Tv) (s:Value):(aJ w b k d s).heap[b]?=some (bz k d s):=by
 unfold aJ;have:=aj (aj (aj (aj (aj (aj (aj (aj h 0 (.int .u8 k)) 1 (.int .u8 d.k)) 2 (.string d.t)) 3 (.int .i64 d.a)) 4 (.int .i64 d.l)) 5 (.int .i64 d.c)) 6 (.int .i64 d.f)) 7 s;rw [this];simp
theorem eJ (w:World) (b:Nat) (k:Int) (d:Tv) (s:Value):Kp (fun j=>j=b) w (aJ w b k d s):=by
 unfold aJ;exact (((((((Kp.set _ _ _ _).trans (Kp.set _ _ _ _)).trans (Kp.set _ _ _ _)).trans (Kp.set _ _ _ _)).trans (Kp.set _ _ _ _)).trans (Kp.set _ _ _ _)).trans (Kp.set _ _ _ _)).trans (Kp.set _ _ _ _)
theorem aE (h:w.heap[b]?=some (bz k d s)):(w.cell? ⟨b,0,none⟩=some (.int .u8 k)/\w.cell? ⟨b,1,none⟩=some (.int .u8 d.k)/\w.cell? ⟨b,2,none⟩=some (.string d.t)/\w.cell? ⟨b,3,none⟩=some (.int .i64 d.a)/\w.cell? ⟨b,4,none⟩=some (.int .i64 d.l)/\w.cell? ⟨b,5,none⟩=some (.int .i64 d.c)/\w.cell? ⟨b,6,none⟩=some (.int .i64 d.f)/\w.cell? ⟨b,7,none⟩=some s)/\b<w.heap.size:=
 ⟨⟨af h rfl,af h rfl,af h rfl,af h rfl,af h rfl,af h rfl,af h rfl,af h rfl⟩,au h⟩
theorem bH (h:w.heap[b]?=some (bz k d s)):w.frozen? ⟨b,0,none⟩=false/\w.frozen? ⟨b,1,none⟩=false/\w.frozen? ⟨b,2,none⟩=false/\w.frozen? ⟨b,3,none⟩=false/\w.frozen? ⟨b,4,none⟩=false/\w.frozen? ⟨b,5,none⟩=false/\w.frozen? ⟨b,6,none⟩=false/\w.frozen? ⟨b,7,none⟩=false:=
 ⟨am h,am h,am h,am h,am h,am h,am h,am h⟩
abbrev DT (k n:Int) (d:Tv):Obj:=.cells #[.int .u8 k,.int .u8 n,.int .u8 d.k,.string d.t,.int .i64 d.a,.int .i64 d.l,.int .i64 d.c,.int .i64 d.f] 110
theorem ql {n:Int}(h:w.heap[b]?=some (DT k n d)):(w.cell? ⟨b,0,none⟩=some (.int .u8 k)/\w.cell? ⟨b,1,none⟩=some (.int .u8 n)/\w.cell? ⟨b,2,none⟩=some (.int .u8 d.k)/\w.cell? ⟨b,3,none⟩=some (.string d.t)/\w.cell? ⟨b,4,none⟩=some (.int .i64 d.a)/\w.cell? ⟨b,5,none⟩=some (.int .i64 d.l)/\w.cell? ⟨b,6,none⟩=some (.int .i64 d.c)/\w.cell? ⟨b,7,none⟩=some (.int .i64 d.f))/\b<w.heap.size:=
 ⟨⟨af h rfl,af h rfl,af h rfl,af h rfl,af h rfl,af h rfl,af h rfl,af h rfl⟩,au h⟩
structure R2 (w0 W:World) (g p:Nat) (r:List Ev) (ao:Option Addr) (cap:Nat) (ek en:Int) (ed:Tv) (V:World):Prop where
 rs:RS w0 g p r ao cap V
 kp:Kp (fun k=>k=g) W V
 rb:V.heap[W.heap.size]?=some (bz 0 aB (.slice none 0 0))
 fb:V.heap[W.heap.size+1]?=some (DT ek en ed)
theorem vK {F:Option Addr}{C:Nat}(h:RS w0 g p l ao cap W) (M:Le w0 F r) (hc:r.length<=C) (O:C<=maxLen) (ek en:Int) (ed:Tv) :
  R2 w0 W g p r F C ek en ed (((W.setCell ⟨g,0,none⟩ (.slice F r.length C)).alloc (bz 0 aB (.slice none 0 0))).alloc (DT ek en ed)):=by
 have G:(W.setCell ⟨g,0,none⟩ (.slice F r.length C)).heap.size=W.heap.size:=by show (W.heap.modify g _).size=_;rw [Uv]
 have J:=gA (W.setCell ⟨g,0,none⟩ (.slice F r.length C)) (bz 0 aB (.slice none 0 0));have H:=aP (W.setCell ⟨g,0,none⟩ (.slice F r.length C)) (bz 0 aB (.slice none 0 0));have I:=aP ((W.setCell ⟨g,0,none⟩ (.slice F r.length C)).alloc (bz 0 aB (.slice none 0 0))) (DT ek en ed);refine ⟨((h.set M hc O).below H).below I,((Kp.set _ _ _ _).alloc _).alloc _,?_,?_⟩
 ·refine aD ?_ _;rw [<-G];exact aq _ _
 ·rw [<-G,<-J];exact aq _ _
theorem R2.below (h:R2 w0 W g p r ao cap ek en ed V) (C:Below V.heap.size V V'):R2 w0 W g p r ao cap ek en ed V':=
 ⟨h.rs.below C,h.kp.step (T:=fun _=>False) (Kp.of_below C) (fun _ _ h=>h.elim),ag h.rb C,ag h.fb C⟩
theorem R2.out (h:R2 w0 W g p r ao cap ek en ed V) (G:g<W.heap.size) (H:p<W.heap.size) (k:Int) (d:Tv) (s:Value) :
  RS w0 g p r ao cap (aJ V W.heap.size k d s)/\Kp (fun k=>k=g) W (aJ V W.heap.size k d s)/\(aJ V W.heap.size k d s).heap[W.heap.size]?=some (bz k d s):=by
 have C:=eJ V W.heap.size k d s;have F:w0.heap.size<=W.heap.size:=by have:=h.rs.g0;omega
 refine ⟨h.rs.kp C (fun j e=>by subst e;exact ⟨F,by omega,by omega⟩),h.kp.step C (fun j I e=>by omega),gk h.rb k d s⟩
theorem Cj (w0:World) (g p:Nat) (e:Ev) (r:List Ev) (h1:e.k≠1):xF w0 g p (e :: r):=by
 intro a ao cap W ha h3 F;obtain ⟨b,O,H,C,rfl,ac,⟨c0,c1,c2,c3,c4,c5,c6,c7⟩,al,ad,aj,Q⟩:=F.le.tail (cap:=cap) (by have:=F.lc;simpa using this) F.cm;have HI:Hid (RS w0 g p (e :: r) (some ⟨b,O,none⟩) cap W):=F;have G:∀i u,w0.cell? ⟨b,i,none⟩=some u->W.cell? ⟨b,i,none⟩=some u:=fun i u hu=>(S8 (a:=⟨b,i,none⟩) (F.bel.block b ac)).trans hu
 replace c0:=G _ _ c0;replace c1:=G _ _ c1;replace c2:=G _ _ c2;replace c3:=G _ _ c3;replace c4:=G _ _ c4;replace c5:=G _ _ c5;replace c6:=G _ _ c6;replace c7:=G _ _ c7;have ap:b<W.heap.size:=S9 _ _ c0;have ah:g<W.heap.size:=au F.hg;have ae:W.cell? ⟨g,0,none⟩=some (.slice (some ⟨b,O,none⟩) (r.length+1) cap):=af F.hg rfl;have ag:W.frozen? ⟨g,0,none⟩=false:=am F.hg;have aq:b≠g:=fun e=>by have:=F.g0;omega
 have ar:(e.k == 1)=false:=by simpa using h1
 have an:(e.k != 1)=true:=by simpa using h1
 obtain ⟨⟨ek,en,ed⟩,he⟩:∃x,e=x:=⟨_,rfl⟩;subst he
 dsimp only at *
 have aa:Hid (∀V,Ta 77 #[.agg #[.int .u8 ed.k,.string ed.t,.int .i64 ed.a,.int .i64 ed.l,.int .i64 ed.c,.int .i64 ed.f]] V fun r w'=>r=.returned (.int .u8 (uS ed))/\Tb V w'):=fun V=>pN ed V
 have ak:p<W.heap.size:=au F.hp
 have M:(if (ek == uS ed)=true then QS a (⟨ek,en,ed⟩ :: r) (.mk 0 ed []) r else IS a (⟨ek,en,ed⟩ :: r)):=by
  by_cases Y:ek=uS ed
  ·rw [IO (by simpa using Y)];exact CT (e:=⟨ek,en,ed⟩) Y
  ·rw [Eq (by simpa using Y)];exact F0 (e:=⟨ek,en,ed⟩) h1 Y (h3 _ _ rfl)
 have ab:=ai M;obtain ⟨W2,I⟩:∃W2,((W.setCell ⟨g,0,none⟩ (.slice H r.length C)).alloc (bz 0 aB (.slice none 0 0))).alloc (DT ek en ed)=W2:=⟨_,rfl⟩;have Z:Hid (R2 w0 W g p r H C ek en ed W2):=by rw [<-I];exact vK F Q ad aj ek en ed
 clear F G M
 go_enter Tryz.func160,Tryz.ntmps160
 go_wp2_with fail
 dsimp only [bz,DT,aB] at I
 rw [I];obtain ⟨⟨f0,f1,f2,f3,f4,f5,f6,f7⟩,fl⟩:=ql Z.out.fb;obtain ⟨⟨r0,r1,r2,r3,r4,r5,r6,r7⟩,rl⟩:=aE Z.out.rb;clear I c0 c1 c2 c3 c4 c5 c6 c7 ae ag al
 go_region_law (first|(go_simp;go_at_call 77;refine (aa.out _).mono ?_;rintro x w4 ⟨rfl,J⟩;have S:Hid (R2 w0 W g p r H C ek en ed w4):=Z.out.below ((hH _ _).drew.trans (J.mono (gt _)));obtain ⟨⟨d0,d1,d2,d3,d4,d5,d6,d7⟩,dl⟩:=ql S.out.fb;obtain ⟨⟨s0,s1,s2,s3,s4,s5,s6,s7⟩,sl⟩:=aE S.out.rb;obtain ⟨z0,z1,z2,z3,z4,z5,z6,z7⟩:=bH S.out.rb;clear J))
 all_goals (
  go_wp2_with fail
  have U:=S.out.out ah ak 0 ed (.slice none 0 0);obtain ⟨w9,e9⟩:∃w9,aJ w4 W.heap.size 0 ed (.slice none 0 0)=w9:=⟨_,rfl⟩;rw [e9] at U
  dsimp only [aJ] at e9
  rw [e9];obtain ⟨⟨x0,x1,x2,x3,x4,x5,x6,x7⟩,xl⟩:=aE U.2.2;refine Ti (v:=.tuple #[eF 0 ed (.slice none 0 0),.bool (ek == uS ed)]) (by simp [results,Tryz.f160,go_sem,x0,x1,x2,x3,x4,x5,x6,x7]) rfl ?_;exact ⟨.mk 0 ed [],.slice none 0 0,ek == uS ed,r,H,C,rfl,U.1,U.2.1,by simp,lH _ _ _ _,ab.out⟩)
structure RL (w0 W:World) (g p:Nat) (k:Int) (r:List Ev) (ao:Option Addr) (cap:Nat) (c:List bQ) (sv:Value) (vs:List Value) (V:World):Prop where
 rs:RS w0 g p r ao cap V
 kp:Kp (fun k=>k=g) W V
 gW:g<W.heap.size
 pW:p<W.heap.size
 rb:V.heap[W.heap.size]?=some (bz 0 aB (.slice none 0 0))
 nb:V.heap[W.heap.size+1+1]?=some (bz k aB sv)
 rn:RN V sv c vs
 sB:∀b,sv.ownBlock=some b->W.heap.size+3<=b
 tl:TL (fun b=>W.heap.size+3<=b/\sv.ownBlock≠some b) V c vs
theorem RL.below (h:RL w0 W g p k r ao cap c sv vs V) (C:Below V.heap.size V V'):RL w0 W g p k r ao cap c sv vs V':=by
 have F:Kp (fun _=>False) V V':=Kp.of_below C;exact ⟨h.rs.below C,h.kp.step F (fun _ _ h=>h.elim),h.gW,h.pW,ag h.rb C,ag h.nb C,h.rn.kp F (fun _ _ h=>h),h.sB,TL.kp F (fun _ _ h=>h) _ _ h.tl⟩
theorem RL.call (h:RL w0 W g p k r ao cap c sv vs V) (C:Kp (fun k=>k=g) V V') (F:RS w0 g p r' ao' cap' V'):RL w0 W g p k r' ao' cap' c sv vs V':=by
 have G:=h.gW;exact ⟨F,h.kp.step C (fun _ _ h=>h),h.gW,h.pW,C.blk h.rb (by omega),C.blk h.nb (by omega),h.rn.kp C (fun b e=>by have:=h.sB b e;omega),h.sB,TL.kp C (fun b e=>by have:=e.1;omega) _ _ h.tl⟩
theorem RL.oth {q:Nat}(h:RL w0 W g p k r ao cap c sv vs V) (C:Kp (fun k=>k=q) V V') (M:W.heap.size+3<=q) (G:sv.ownBlock≠some q) (ht:TL (fun b=>(W.heap.size+3<=b/\sv.ownBlock≠some b)/\b≠q) V c vs):RL w0 W g p k r ao cap c sv vs V':=by
 have I:=h.gW;have O:=h.pW;have H:=h.rs.g0;exact ⟨h.rs.kp C (fun b e=>by subst e;exact ⟨by omega,by omega,by omega⟩),h.kp.step C (fun b J e=>by omega),h.gW,h.pW,C.blk h.rb (by omega),C.blk h.nb (by omega),h.rn.kp C (fun b e F=>G (by rw [e,F])),h.sB,TL.sub (fun b _ e=>e.1) _ _ (TL.kp C (fun b e F=>e.2 F) _ _ ht)⟩
theorem RL.push {v':Value}{I F:World}{n:bQ}(h:RL w0 W g p k r ao cap c sv vs V) (hb:Below V.heap.size V I) (hn:TN (fun b=>W.heap.size+3<=b/\sv.ownBlock≠some b) V n x) (hr:RN F v' (c++[n]) (vs++[x])) (hg:I.grownBy F sv.ownBlock) (C:Nb I sv v') :
  (F.cell? ⟨W.heap.size+1+1,7,none⟩=some sv/\F.frozen? ⟨W.heap.size+1+1,7,none⟩=false/\W.heap.size+1+1<F.heap.size)/\RL w0 W g p k r ao cap (c++[n]) v' (vs++[x]) (F.setCell ⟨W.heap.size+1+1,7,none⟩ v'):=by
 have gW:=h.gW;have pW:=h.pW;have g0:=h.rs.g0;have U:=h.below hb;have J:=Kp.of_grown hg;have Y:∀b,some b=sv.ownBlock->W.heap.size+3<=b:=fun b e=>h.sB b e.symm
 have H:=J.blk U.nb (fun e=>by have:=Y _ e;omega);have aa:=J.blk U.rb (fun e=>by have:=Y _ e;omega);have ab:RS w0 g p r ao cap F:=U.rs.kp J (fun b e=>by have:=Y b e;exact ⟨by omega,by omega,by omega⟩);have ks:=Kp.set F (W.heap.size+1+1) 7 v';have hsz:W.heap.size+3<=I.heap.size:=by have:=au U.nb;omega
 have vB:∀b,v'.ownBlock=some b->W.heap.size+3<=b:=by
  intro b e
  rcases C with C|⟨q,M,C⟩
  ·exact h.sB b (by rw [<-C];exact e)
  ·rw [M] at e;simp at e;omega
 have t1:TL (fun b=>W.heap.size+3<=b/\sv.ownBlock≠some b) I (c++[n]) (vs++[x]):=TL.kp (Kp.of_below (S:=fun _=>False) hb) (fun _ _ h=>h) _ _ (TL.app hn h.tl)
 have t2:TL (fun b=>W.heap.size+3<=b/\v'.ownBlock≠some b) I (c++[n]) (vs++[x]):=TL.sub (fun b G e=>⟨e.1,by
  rcases C with C|⟨q,M,C⟩
  ·rw [C];exact e.2
  ·rw [M];intro Z;simp at Z;omega⟩) _ _ t1
 have t3:TL (fun b=>W.heap.size+3<=b/\sv.ownBlock≠some b) F (c++[n]) (vs++[x]):=TL.kp J (fun b e Q=>e.2 Q.symm) _ _ t1
 have t4:TL (fun b=>W.heap.size+3<=b/\v'.ownBlock≠some b) F (c++[n]) (vs++[x]):=by
  rcases C with C|⟨q,M,C⟩
  ·rw [C];exact t3
  ·refine TL.sub (fun b G e=>⟨e.1.1,e.2⟩) _ _ (TL.kp (O:=fun b=>(W.heap.size+3<=b/\sv.ownBlock≠some b)/\v'.ownBlock≠some b) J (fun b e Q=>e.1.2 Q.symm) _ _ (TL.sub (fun b G e=>⟨e,?_⟩) _ _ t1));rw [M];intro Z;simp at Z;omega
 refine ⟨⟨af H rfl,am H,au H⟩,⟨ab.kp ks (fun b e=>by subst e;exact ⟨by omega,by omega,by omega⟩),((U.kp.step J (fun b G e=>by have:=Y b e;omega)).step ks (fun b G e=>by omega)),h.gW,h.pW,bh aa (by omega) _,?_,hr.kp ks (fun b e Q=>by have:=vB b e;omega),vB,TL.kp ks (fun b e Q=>by have:=e.1;omega) _ _ t4⟩⟩;have:=aj H 7 v';rw [this];simp
theorem EX (h:R2 w0 W g p r ao cap ek en ed V) (I:V.heap.size=W.heap.size+1+1) (F:g<W.heap.size) (G:p<W.heap.size) (k:Int):RL w0 W g p k r ao cap [] (.slice none 0 0) [] (V.alloc (bz k aB (.slice none 0 0))):=by
 have H:=aP V (bz k aB (.slice none 0 0));have C:=h.below H;refine ⟨C.rs,C.kp,F,G,C.rb,?_,ET _,(fun b e=>by cases e),by rw [TL]⟩;rw [<-I];exact aq _ _
def AP (w:World) (g:Nat):Nat:=match w.cell? ⟨g,0,none⟩ with
 |some (.slice _ n _)=>n
 |_=>0
theorem RL.len (h:RL w0 W g p k r ao cap c sv vs V):AP V g=r.length:=by
 have:V.cell? ⟨g,0,none⟩=some (.slice ao r.length cap):=af h.rs.hg rfl;simp [AP,this]
theorem RL.out (h:RL w0 W g p k r ao cap c sv vs V) (C:Int) (d:Tv) (s:Value) :
  RS w0 g p r ao cap (aJ V W.heap.size C d s)/\Kp (fun k=>k=g) W (aJ V W.heap.size C d s)/\(aJ V W.heap.size C d s).heap[W.heap.size]?=some (bz C d s)/\TN (fun b=>W.heap.size<=b) (aJ V W.heap.size C d s) (.mk k aB c) sv:=by
 have F:=eJ V W.heap.size C d s;have I:=h.gW;have M:=h.pW;have H:=h.rs.g0;refine ⟨h.rs.kp F (fun j e=>by subst e;exact ⟨by omega,by omega,by omega⟩),h.kp.step F (fun j J e=>by omega),gk h.rb C d s,?_⟩;rw [TN];refine ⟨vs,h.rn.kp F (fun b e G=>by have:=h.sB b e;omega),fun b e=>by have:=h.sB b e;omega,TL.sub (fun b _ e=>by have:=e.1;omega) _ _ (TL.kp F (fun b e G=>by have:=e.1;omega) _ _ h.tl)⟩
structure QP (w0 W:World) (g p a:Nat) (l:List Ev) (k:Int) (good:Bool) (V:World):Prop where
 ex:∃r ao cap c sv vs,RL w0 W g p k r ao cap c sv vs V/\c.length+r.length<l.length/\(if good then DQ a l k c r/\k≠0/\a<1000 else IS a l)
theorem RL.kid {C:World}{n:bQ}(h:RL w0 W g p k r ao cap c sv vs V) (G:Kp (fun k=>k=g) (V.alloc (bz k0 d0 s0)) C) (U:RS w0 g p r' ao' cap' C) (I:TN (fun b=>(V.alloc (bz k0 d0 s0)).heap.size<=b) C n x) :
  RL w0 W g p k r' ao' cap' c sv vs (aJ C V.heap.size n.k n.d x)/\TN (fun b=>W.heap.size+3<=b/\sv.ownBlock≠some b) (aJ C V.heap.size n.k n.d x) n x/\(aJ C V.heap.size n.k n.d x).heap[V.heap.size]?=some (bz n.k n.d x):=by
 have gW:=h.gW;have hsz:W.heap.size+3<=V.heap.size:=by have:=au h.nb;omega
 have Z:g<V.heap.size:=au h.rs.hg;have H:=aP V (bz k0 d0 s0);have Q:=gA V (bz k0 d0 s0);rw [Q] at I;have J:=eJ C V.heap.size n.k n.d x;have O:=(h.below H).call G U
 have Y:TL (fun b=>(W.heap.size+3<=b/\sv.ownBlock≠some b)/\b≠V.heap.size) C c vs:=
  TL.kp G (fun b e F=>by have:=e.1.1;omega) _ _ (TL.kp (Kp.of_below (S:=fun _=>False) H) (fun _ _ h=>h) _ _ (TL.sub (fun b aa e=>⟨e,by omega⟩) _ _ h.tl))
 have M:C.heap[V.heap.size]?=some (bz k0 d0 s0):=G.blk (aq _ _) (by omega);refine ⟨O.oth J hsz (fun e=>by have:=h.rn.lt _ e;omega) Y,TN.sub (fun b _ e=>⟨by omega,fun F=>by have:=h.rn.lt _ F;omega⟩) _ _ (TN.kp J (fun b e F=>by omega) _ _ I),gk M _ _ _⟩
theorem Ci (w0:World) (g p:Nat) (e:Ev) (r:List Ev) (h1:e.k=1) (bh:(e :: r).length<=1000000000) (IH:∀l:List Ev,l.length<(e :: r).length->l≠[]->xF w0 g p l):xF w0 g p (e :: r):=by
 intro a ao cap W ha h3 O;obtain ⟨b,ay,S,I,rfl,bo,⟨c0,c1,c2,c3,c4,c5,c6,c7⟩,cb,bp,bw,bf⟩:=O.le.tail (cap:=cap) (by have:=O.lc;simpa using this) O.cm;have HI:Hid (RS w0 g p (e :: r) (some ⟨b,ay,none⟩) cap W):=O;have tr:∀i u,w0.cell? ⟨b,i,none⟩=some u->W.cell? ⟨b,i,none⟩=some u:=fun i u hu=>(S8 (a:=⟨b,i,none⟩) (O.bel.block b bo)).trans hu
 replace c0:=tr _ _ c0;replace c1:=tr _ _ c1;replace c2:=tr _ _ c2;replace c3:=tr _ _ c3;replace c4:=tr _ _ c4;replace c5:=tr _ _ c5;replace c6:=tr _ _ c6;replace c7:=tr _ _ c7;have cl:b<W.heap.size:=S9 _ _ c0;have bv:g<W.heap.size:=au O.hg;have ca:p<W.heap.size:=au O.hp;have bt:W.cell? ⟨g,0,none⟩=some (.slice (some ⟨b,ay,none⟩) (r.length+1) cap):=af O.hg rfl;have bu:W.frozen? ⟨g,0,none⟩=false:=am O.hg;have cm:b≠g:=fun e=>by have:=O.g0;omega
 obtain ⟨⟨ek,en,ed⟩,he⟩:∃x,e=x:=⟨_,rfl⟩;subst he
 dsimp only at *
 subst h1;have bm:Hid (∀l:List Ev,l.length<((⟨1,en,ed⟩:Ev) :: r).length->l≠[]->xF w0 g p l):=IH;have M:Hid (∀V,Ta 76 #[eF en aB (.slice none 0 0)] V fun r w'=>r=.returned (.bool (en == 0))/\Tb V w'):=fun V=>jy en aB none 0 0 V
 obtain ⟨W2,aa⟩:∃W2,(((W.setCell ⟨g,0,none⟩ (.slice S r.length I)).alloc (bz 0 aB (.slice none 0 0))).alloc (DT 1 en ed)).alloc (bz en aB (.slice none 0 0))=W2:=⟨_,rfl⟩
 have H2:Hid (RL w0 W g p en r S I [] (.slice none 0 0) [] W2):=by
  rw [<-aa];refine EX (vK O bf bp bw 1 en ed) ?_ bv ca en;rw [gA,gA];show (W.heap.modify g _).size+1+1=_;rw [Uv]
 clear O tr IH
 go_enter Tryz.func160,Tryz.ntmps160
 go_upto_region 6 with fail
 dsimp only [bz,DT,aB] at aa
 rw [aa];obtain ⟨⟨n0,n1,n2,n3,n4,n5,n6,n7⟩,nl⟩:=aE H2.out.nb;clear aa c0 c1 c2 c3 c4 c5 c6 c7 bt bu cb
 dsimp only [aB] at n1 n2 n3 n4 n5 n6 M
 go_cut [8] from 30 to 36 (fun t wx=>∃F:Bool,t=.bool F/\Hid (QP w0 W g p a (⟨1,en,ed⟩ :: r) en F wx))
 case first=>
  by_cases hz:en=0
  ·subst hz
   go_wp2_with (go_at_call 76;refine (M.out _).mono ?_;rintro x w3 ⟨rfl,H⟩;have H3:Hid (QP w0 W g p a (⟨1,0,ed⟩ :: r) 0 false w3):=⟨r,S,I,[],_,[],H2.out.below H,by simp,by simp only [Tu,Ui];exact vY rfl (.inl rfl)⟩;clear H)
   go_meet
   exact ⟨false,rfl,H3⟩
  ·have cc:(en == 0)=false:=by simpa using hz
   rw [cc] at M
   by_cases G:a<1000
   ·have ah:(a:Int)<1000:=by omega
    go_wp2_with (go_at_call 76;refine (M.out _).mono ?_;rintro x w3 ⟨rfl,H⟩;have H3:Hid (QP w0 W g p a (⟨1,en,ed⟩ :: r) en true w3):=⟨r,S,I,[],_,[],H2.out.below H,by simp,by simp only [Vb];exact ⟨Fy rfl (fun h=>h.elim hz (fun h=>by omega)),hz,G⟩⟩;clear H)
    go_meet
    exact ⟨true,by first|rfl|simp [ah],H3⟩
   ·have ah:¬((a:Int)<1000):=by omega
    go_wp2_with (go_at_call 76;refine (M.out _).mono ?_;rintro x w3 ⟨rfl,H⟩;have H3:Hid (QP w0 W g p a (⟨1,en,ed⟩ :: r) en false w3):=⟨r,S,I,[],_,[],H2.out.below H,by simp,by simp only [Tu,Ui];exact vY rfl (.inr (by omega))⟩;clear H)
    go_meet
    exact ⟨false,by first|rfl|simp [ah],H3⟩
 case rest=>
  obtain ⟨an,rfl,H3⟩:=hcut;clear H2 n0 n1 n2 n3 n4 n5 n6 n7 nl M
  go_wp2_with fail
  go_loopw [8] (fun gv wr=>∃F:Bool,gv=.bool F/\Hid (QP w0 W g p a (⟨1,en,ed⟩ :: r) en F wr)) (fun _ wr=>AP wr g)
  case atStart=>exact ⟨an,rfl,H3⟩
  case round=>
   obtain ⟨F,rfl,HJ⟩:=hrel;obtain ⟨r3,ao3,cap3,c3,sv3,vs3,hL,hc,hg⟩:=HJ.out.ex;have HL:=ai hL;have ap:=hL.len;obtain ⟨⟨y0,y1,y2,y3,y4,y5,y6,y7⟩,yl⟩:=aE hL.rb;obtain ⟨f0,f1,f2,f3,f4,f5,f6,f7⟩:=bH hL.rb;have zg:wr.cell? ⟨g,0,none⟩=some (.slice ao3 r3.length cap3):=af hL.rs.hg rfl;have zf:wr.frozen? ⟨g,0,none⟩=false:=am hL.rs.hg;have cg:g<wr.heap.size:=au hL.rs.hg;have zn:wr.cell? ⟨W.heap.size+1+1,0,none⟩=some (.int .u8 en):=af hL.nb rfl;have ch:W.heap.size+1+1<wr.heap.size:=au hL.nb
   have HR:Hid (∀V C,Tb wr V->aJ V W.heap.size 0 aB (.slice none 0 0)=C->IS a (⟨1,en,ed⟩ :: r)->QK w0 g p a (⟨1,en,ed⟩ :: r) W (.returned (.tuple #[eF 0 aB (.slice none 0 0),.bool false])) C/\C.heap[W.heap.size]?=some (bz 0 aB (.slice none 0 0))):=fun V C hb e bd=>by
    subst e;obtain ⟨a1,a2,a3,a4⟩:=(hL.below hb).out 0 aB (.slice none 0 0);exact ⟨⟨.mk 0 aB [],_,false,r3,ao3,cap3,rfl,a1,a2,by simp at hc ⊢;omega,lH _ _ _ _,by simp only [Tu,Ui];exact bd⟩,a3⟩
   clear HJ;cases F with
   |false=>
    simp only [Tu,Ui] at hg;have Q:=ai hg;clear hg hL
    go_wp2_with fail
    go_quiet (fail)
    go_wp2_with fail
    obtain ⟨C,J⟩:∃C,aJ (wr.drewN nq) W.heap.size 0 aB (.slice none 0 0)=C:=⟨_,rfl⟩;obtain ⟨hz1,G⟩:=HR.out _ C (ei (hH _ _) nq) J Q.out
    dsimp only [aJ,aB] at J
    rw [J];obtain ⟨⟨x0,x1,x2,x3,x4,x5,x6,x7⟩,xl⟩:=aE G;refine Ti (v:=.tuple #[eF 0 aB (.slice none 0 0),.bool false]) (by simp [results,Tryz.f160,go_sem,x0,x1,x2,x3,x4,x5,x6,x7]) rfl ?_;exact hz1
   |true=>
    simp only [Vb] at hg;have Q:=ai hg;clear hg;cases r3 with
    |nil=>
     clear hL
     go_wp2_with fail
     go_quiet (fail)
     go_wp2_with fail
     obtain ⟨C,J⟩:∃C,aJ (wr.drewN nq) W.heap.size 0 aB (.slice none 0 0)=C:=⟨_,rfl⟩;obtain ⟨hz1,G⟩:=HR.out _ C (ei (hH _ _) nq) J Q.out.1.nil
     dsimp only [aJ,aB] at J
     rw [J];obtain ⟨⟨x0,x1,x2,x3,x4,x5,x6,x7⟩,xl⟩:=aE G;refine Ti (v:=.tuple #[eF 0 aB (.slice none 0 0),.bool false]) (by simp [results,Tryz.f160,go_sem,x0,x1,x2,x3,x4,x5,x6,x7]) rfl ?_;exact hz1
    |cons e3 r4=>
     obtain ⟨b3,bl,ae,Z,rfl,be,⟨k0,k1,k2,k3,k4,k5,k6,k7⟩,bj,bq,bx,bg⟩:=hL.rs.le.tail (cap:=cap3) (by have:=hL.rs.lc;simpa using this) hL.rs.cm;have al:∀i u,w0.cell? ⟨b3,i,none⟩=some u->wr.cell? ⟨b3,i,none⟩=some u:=fun i u hu=>(S8 (a:=⟨b3,i,none⟩) (hL.rs.bel.block b3 be)).trans hu
     replace k0:=al _ _ k0;replace k1:=al _ _ k1;have bc:b3<wr.heap.size:=S9 _ _ k0;have co:(0:Int)<(r4.length:Int)+1:=by omega
     have cq:¬((r4.length:Int)+1=0):=by omega
     have cf:wr.cell? ⟨g,0,none⟩=some (.slice (some ⟨b3,bl,none⟩) (r4.length+1) cap3):=zg;clear al k2 k3 k4 k5 k6 k7 zg
     by_cases U:e3.k=3
     ·have bb:(e3.k != 3)=false:=by simpa using U
      by_cases Y:e3.n=en
      ·have bi:(e3.n != en)=false:=by simpa using Y
       have ci:(e3.n == en)=true:=by simpa using Y
       obtain ⟨ps,cs,ag,_⟩:=hL.rn.shape;subst ag;obtain ⟨⟨m0,m1,m2,m3,m4,m5,m6,m7⟩,ml⟩:=aE hL.nb
       dsimp only [aB] at m1 m2 m3 m4 m5 m6
       have HS:Hid (∀V C,Tb wr V->aJ (V.setCell ⟨g,0,none⟩ (.slice ae r4.length Z)) W.heap.size en aB (.slice ps c3.length cs)=C->QK w0 g p a (⟨1,en,ed⟩ :: r) W (.returned (.tuple #[eF en aB (.slice ps c3.length cs),.bool true])) C/\C.heap[W.heap.size]?=some (bz en aB (.slice ps c3.length cs))):=fun V C hb e=>by
        subst e;have h1:=hL.below hb;obtain ⟨a1,a2,a3,a4⟩:=(h1.call (Kp.set _ _ _ _) (h1.rs.set bg bq bx)).out en aB (.slice ps c3.length cs);exact ⟨⟨.mk en aB c3,_,true,r4,ae,Z,rfl,a1,a2,by simp at hc ⊢;omega,a4,by simp only [Vb];exact Q.out.1.shut U Y Q.out.2.1⟩,a3⟩
       have cn:g≠W.heap.size:=by omega
       have cj:g≠W.heap.size+1+1:=by omega
       clear hL
       go_wp2_with fail
       go_quiet (fail)
       go_wp2_with fail
       obtain ⟨C,J⟩:∃C,aJ ((wr.drewN nq).setCell ⟨g,0,none⟩ (.slice ae r4.length Z)) W.heap.size en aB (.slice ps c3.length cs)=C:=⟨_,rfl⟩;obtain ⟨hz1,G⟩:=HS.out _ C (ei (hH _ _) nq) J
       dsimp only [aJ,aB] at J
       rw [J];obtain ⟨⟨x0,x1,x2,x3,x4,x5,x6,x7⟩,xl⟩:=aE G;refine Ti (v:=.tuple #[eF en aB (.slice ps c3.length cs),.bool true]) (by simp [results,Tryz.f160,go_sem,x0,x1,x2,x3,x4,x5,x6,x7]) rfl ?_;exact hz1
      ·have bi:(e3.n != en)=true:=by simpa using Y
       clear hL
       go_wp2_with fail
       go_quiet (fail)
       go_wp2_with fail
       obtain ⟨C,J⟩:∃C,aJ (wr.drewN nq) W.heap.size 0 aB (.slice none 0 0)=C:=⟨_,rfl⟩;obtain ⟨hz1,G⟩:=HR.out _ C (ei (hH _ _) nq) J (Q.out.1.other U Y)
       dsimp only [aJ,aB] at J
       rw [J];obtain ⟨⟨x0,x1,x2,x3,x4,x5,x6,x7⟩,xl⟩:=aE G;refine Ti (v:=.tuple #[eF 0 aB (.slice none 0 0),.bool false]) (by simp [results,Tryz.f160,go_sem,x0,x1,x2,x3,x4,x5,x6,x7]) rfl ?_;exact hz1
     ·have bb:(e3.k != 3)=true:=by simpa using U
      obtain ⟨ps,cs,ag,_⟩:=hL.rn.shape;subst ag;have yp:wr.cell? ⟨p,0,none⟩=some (mP g p):=af hL.rs.hp rfl;have ce:p<wr.heap.size:=au hL.rs.hp;have HC:Hid (Ta 160 #[.int .i64 ((a:Int)+1),.pointer (some ⟨g,0,none⟩),.pointer (some ⟨p,0,none⟩)] (wr.alloc (bz 0 aB (.slice none 0 0))) (QK w0 g p (a+1) (e3 :: r4) (wr.alloc (bz 0 aB (.slice none 0 0))))):=bm.out (e3 :: r4) (by simp at hc ⊢;omega) (by simp) (a+1) _ _ _ (by have:=Q.out.2.2;omega) (fun e' r' he hk=>by cases he;exact absurd hk U) (hL.rs.below (aP _ _));have ck:(a:Int)<1000:=by have:=Q.out.2.2;omega
      have br:c3.length<=1000000000:=by simp at hc bh;omega
      clear hL
      go_wp2_with fail
      refine HC.out.mono ?_;rintro x w6 ⟨n6,cd,az,r6,av,ac,rfl,ba,aj,aw,ab,ad⟩
      obtain ⟨p6,m6,c6,bk⟩:∃p6 m6 c6,cd=.slice p6 m6 c6:=by
       obtain ⟨nk,ct,cr⟩:=n6;rw [TN] at ab;obtain ⟨vs6,hrn6,_⟩:=ab;obtain ⟨pp,cp,e,_⟩:=hrn6.shape;exact ⟨pp,_,cp,e⟩
      subst bk;have K6:=HL.out.kid aj ba ab;have H6:=ai K6;have b6:w6.heap[wr.heap.size]?=some (bz 0 aB (.slice none 0 0)):=aj.blk (aq _ _) (by omega);obtain ⟨⟨t0,t1,t2,t3,t4,t5,t6,t7⟩,tl⟩:=aE b6;obtain ⟨u0,u1,u2,u3,u4,u5,u6,u7⟩:=bH b6;have ar:=ai ad;clear K6 b6 ad ba aj ab
      go_upto_region 10 with fail
      obtain ⟨w7,e7⟩:∃w7,aJ w6 wr.heap.size n6.k n6.d (.slice p6 m6 c6)=w7:=⟨_,rfl⟩;rw [e7] at H6
      dsimp only [aJ] at e7
      rw [e7];obtain ⟨⟨i0,i1,i2,i3,i4,i5,i6,i7⟩,il⟩:=aE H6.out.2.2;have j7:w7.cell? ⟨W.heap.size+1+1,7,none⟩=some (.slice ps c3.length cs):=af H6.out.1.nb rfl;have jl:W.heap.size+1+1<w7.heap.size:=au H6.out.1.nb;have bn:Hid (∀V,Tb w7 V->RN V (.slice ps c3.length cs) c3 vs3):=fun V hb=>(H6.out.1.below hb).rn
      clear e7 t0 t1 t2 t3 t4 t5 t6 t7 tl u0 u1 u2 u3 u4 u5 u6 u7 HC k0 k1 cf zf cg zn ch y0 y1 y2 y3 y4 y5 y6 y7 yl f0 f1 f2 f3 f4 f5 f6 f7 yp ce bj bc;have HD:Hid (∀ak:List Ev,ak=r6->AP wr g=(e3 :: r4).length/\ak.length<(e3 :: r4).length):=fun ak e=>by subst e;exact ⟨ap,aw⟩
      go_wp2_with (at_builtin;refine O3 (by rfl) _ _ (by rfl) (.slice ps c3.length cs) c3 vs3 n6 p6 m6 c6 (by rfl) (bn.out _ (aP _ _)) w7.heap.size 1 (by rfl) (aq _ _) br ?_;intro v8 w8 h1 h2 h3;obtain ⟨p8,c8,ax,_⟩:=h1.shape;obtain ⟨l8,hl8⟩:∃l8,(c3++[n6]).length=l8:=⟨_,rfl⟩;rw [hl8] at ax;subst ax;obtain ⟨⟨x1,x2,x3⟩,x4⟩:=H6.out.1.push (aP _ _) H6.out.2.1 h1 h2 h3;have H8:Hid (RL w0 W g p en r6 av ac (c3++[n6]) (.slice p8 l8 c8) (vs3++[.slice p6 m6 c6]) (w8.setCell ⟨W.heap.size+1+1,7,none⟩ (.slice p8 l8 c8))):=x4;clear x4 h1 h2 h3 hl8)
      refine ⟨⟨az,rfl,⟨r6,av,ac,c3++[n6],_,_,H8.out,?_,?_⟩⟩,?_⟩
      ·simp at hc aw ⊢;omega
      ·cases az
       ·have:=ar.out;simp only [Tu,Ui] at this ⊢;exact Q.out.1.bad this
       ·have:=ar.out;simp only [Vb] at this ⊢;exact ⟨Q.out.1.kid this,Q.out.2⟩
      ·have h9:=H8.out.len;obtain ⟨d1,d2⟩:=HD.out r6 rfl
       first
        | (rw [h9,d1];exact d2)
        | (simp only [Array.getD];rw [h9,d1];exact d2)
theorem pi (w0:World) (g p:Nat) (l:List Ev) (H:l≠[]) (C:l.length<=1000000000):xF w0 g p l:=by
 obtain ⟨s,J⟩:∃s,l.length=s:=⟨_,rfl⟩
 induction s using Nat.strongRecOn generalizing l with
 |ind s ih=>
  cases l with
  |nil=>exact absurd rfl H
  |cons e r=>
   by_cases G:e.k=1
   ·exact Ci w0 g p e r G C (fun l' I F=>ih l'.length (by omega) l' F (by omega) rfl)
   ·exact Cj w0 g p e r G
def bo (l:List Ev):bQ × Int:=match gx l [] with
 |some n=>(n,0)
 |none=>(.mk 0 aB [],130)
def Q9 (l:List Ev) (W:World) (x:Ending) (w':World):Prop:=∃sv,x=.returned (.tuple #[eF (bo l).1.k (bo l).1.d sv,.int .i64 (bo l).2])/\TN (fun k=>W.heap.size<=k) w' (bo l).1 sv/\Below W.heap.size W w'
theorem EP (h:Le W ao l) (J:l.length<=cap) (M:cap<=maxLen) (o:Obj):RS W (W.heap.size+1) (W.heap.size+1+1) l ao cap (((W.alloc o).alloc (.cells #[.slice ao l.length cap] 106)).alloc (.cells #[mP (W.heap.size+1) (W.heap.size+1+1)] 250)):=by
 have F:=gA W o;have I:=gA (W.alloc o) (.cells #[.slice ao l.length cap] 106);have C:=aP W o;have G:=aP (W.alloc o) (.cells #[.slice ao l.length cap] 106);have H:=aP ((W.alloc o).alloc (.cells #[.slice ao l.length cap] 106)) (.cells #[mP (W.heap.size+1) (W.heap.size+1+1)] 250);refine ⟨(C.trans (G.mono C.size)).trans (H.mono (by omega)),?_,?_,h,J,M,by omega,by omega⟩
 ·refine aD ?_ _;rw [<-F];exact aq _ _
 ·rw [<-F,<-I];exact aq _ _
theorem DE (l:List Ev) (W:World) (ao:Option Addr) (cap:Nat) (h:Le W ao l) (h1:l.length<=cap) (h2:cap<=maxLen) (aw:l.length<=1000000000):Ta 117 #[.slice ao l.length cap] W (Q9 l W):=by
 have bf:=mkfn;obtain ⟨V3,eV⟩:∃V3,((W.alloc (bz 0 aB (.slice none 0 0))).alloc (.cells #[.slice ao l.length cap] 106)).alloc (.cells #[mP (W.heap.size+1) (W.heap.size+1+1)] 250)=V3:=⟨_,rfl⟩
 have H3:Hid (RS W (W.heap.size+1) (W.heap.size+1+1) l ao cap V3/\V3.heap[W.heap.size]?=some (bz 0 aB (.slice none 0 0))):=by
  rw [<-eV];exact ⟨EP h h1 h2 _,aD (aD (aq _ _) _) _⟩
 have HO:Hid (∀V C k d s,Tb W V->V.heap[W.heap.size]?=some (bz 0 aB (.slice none 0 0))->aJ V W.heap.size k d s=C->Tb W C/\C.heap[W.heap.size]?=some (bz k d s)):=fun V C k d s Z hr e=>by
  subst e;exact ⟨Kp.low Z (eJ _ _ _ _ _) (fun j e=>by omega) Z.size,gk hr _ _ _⟩
 cases l with
 |nil=>
  have e:bo []=(.mk 0 aB [],130):=rfl;have hX:∀C,Below W.heap.size W C->Q9 [] W (.returned (.tuple #[eF 0 aB (.slice none 0 0),.int .i64 130])) C:=fun C Z=>⟨.slice none 0 0,rfl,lH _ _ _ _,Z⟩
  have HX:=ai hX;obtain ⟨⟨y0,y1,y2,y3,y4,y5,y6,y7⟩,yl⟩:=aE H3.out.2;obtain ⟨f0,f1,f2,f3,f4,f5,f6,f7⟩:=bH H3.out.2;clear hX e h h1 h2
  dsimp only [bz,aB,mP,List.length_nil] at eV
  go_enter Tryz.func117,Tryz.ntmps117
  go_upto_region 5 with fail
  try rw [eV]
  clear eV
  go_wp2_with fail
  obtain ⟨C,I⟩:∃C,aJ V3 W.heap.size 0 aB (.slice none 0 0)=C:=⟨_,rfl⟩;obtain ⟨G,H⟩:=HO.out _ C _ _ _ H3.out.1.bel H3.out.2 I
  dsimp only [aJ,aB] at I
  rw [I];obtain ⟨⟨x0,x1,x2,x3,x4,x5,x6,x7⟩,xl⟩:=aE H;refine Ti (v:=.tuple #[eF 0 aB (.slice none 0 0),.int .i64 130]) (by simp [results,Tryz.f117,go_sem,x0,x1,x2,x3,x4,x5,x6,x7]) rfl ?_;exact HX.out _ G
 |cons e r=>
  have HC:Hid (Ta 160 #[.int .i64 0,.pointer (some ⟨W.heap.size+1,0,none⟩),.pointer (some ⟨W.heap.size+1+1,0,none⟩)] V3 (QK W (W.heap.size+1) (W.heap.size+1+1) 0 (e :: r) V3)):=pi W _ _ (e :: r) (by simp) aw 0 ao cap V3 (by omega) (fun _ _ _ _=>rfl) H3.out.1;have ay:¬((r.length:Int)+1=0):=by omega
  have bd:((r.length:Int)+1 == 0)=false:=by simpa using ay
  have bg:V3.cell? ⟨W.heap.size+1+1,0,none⟩=some (mP (W.heap.size+1) (W.heap.size+1+1)):=af H3.out.1.hp rfl;have bh:=au H3.out.1.hp;clear h h1 h2
  dsimp only [bz,aB,mP,List.length_cons] at eV
  go_enter Tryz.func117,Tryz.ntmps117
  go_upto_region 6 with fail
  try rw [eV]
  clear eV
  go_wp2_with fail
  refine HC.out.mono ?_;rintro x w6 ⟨F,ba,am,r6,ae,J,rfl,av,ap,bb,ah,ac⟩
  obtain ⟨O,M,c6,ax⟩:∃O M c6,ba=.slice O M c6:=by
   obtain ⟨nk,bj,bi⟩:=F;rw [TN] at ah;obtain ⟨vs6,hrn6,_⟩:=ah;obtain ⟨pp,cp,e,_⟩:=hrn6.shape;exact ⟨pp,_,cp,e⟩
  subst ax;have ad:Hid (∀V,Ta 76 #[eF F.k F.d (.slice O M c6)] V fun r w'=>r=.returned (.bool (F.k == 0))/\Tb V w'):=fun V=>jy F.k F.d O M c6 V
  have ar:w6.heap[W.heap.size]?=some (bz 0 aB (.slice none 0 0)):=ap.blk H3.out.2 (by omega);have H6:Hid (RS W (W.heap.size+1) (W.heap.size+1+1) r6 ae J w6/\w6.heap[W.heap.size]?=some (bz 0 aB (.slice none 0 0))/\TN (fun k=>V3.heap.size<=k) w6 F (.slice O M c6)):=⟨av,ar,ah⟩;have bc:W.heap.size<V3.heap.size:=au H3.out.2
  have ak:Hid (gx (e :: r) []=if am then uM r6 F [] else none):=by
   cases am
   ·exact ac [] rfl
   ·exact ac [] rfl
  clear ac av ap ah ar
  have ab:Hid (gx (e :: r) []=none->∀V C,Tb w6 V->aJ V W.heap.size 0 aB (.slice none 0 0)=C->Q9 (e :: r) W (.returned (.tuple #[eF 0 aB (.slice none 0 0),.int .i64 130])) C/\C.heap[W.heap.size]?=some (bz 0 aB (.slice none 0 0))):=fun Z V C U I=>by
   obtain ⟨G,H⟩:=HO.out V C _ _ _ (H6.out.1.bel.trans (U.mono H6.out.1.bel.size)) (ag H6.out.2.1 U) I;have e:bo (e :: r)=(.mk 0 aB [],130):=by unfold bo;rw [Z]
   refine ⟨⟨.slice none 0 0,?_,?_,G⟩,H⟩
   ·rw [e];rfl
   ·rw [e];exact lH _ _ _ _
  have an:Hid (gx (e :: r) []=some F->∀V C,Tb w6 V->aJ V W.heap.size F.k F.d (.slice O M c6)=C->Q9 (e :: r) W (.returned (.tuple #[eF F.k F.d (.slice O M c6),.int .i64 0])) C/\C.heap[W.heap.size]?=some (bz F.k F.d (.slice O M c6))):=fun Z V C U I=>by
   obtain ⟨G,H⟩:=HO.out V C _ _ _ (H6.out.1.bel.trans (U.mono H6.out.1.bel.size)) (ag H6.out.2.1 U) I;have e:bo (e :: r)=(F,0):=by unfold bo;rw [Z]
   refine ⟨⟨.slice O M c6,?_,?_,G⟩,H⟩
   ·rw [e]
   ·rw [e,<-I];exact TN.sub (fun b _ h=>by omega) _ _ (TN.kp (eJ _ _ _ _ _) (fun b h1 h2=>by omega) _ _ (TN.kp (Kp.of_below (S:=fun _=>False) U) (fun _ _ h=>h) _ _ H6.out.2.2))
  obtain ⟨W7,al⟩:∃W7,w6.alloc (bz F.k F.d (.slice O M c6))=W7:=⟨_,rfl⟩;have H7:Hid (Tb w6 W7/\W7.heap[w6.heap.size]?=some (bz F.k F.d (.slice O M c6))):=by rw [<-al];exact ⟨aP _ _,aq _ _⟩
  go_upto_region 7 with fail
  try rw [al]
  clear al;have aj:Hid (∀V,Tb w6 V->V.heap[W.heap.size]?=some (bz 0 aB (.slice none 0 0))/\V.cell? ⟨W.heap.size+1,0,none⟩=some (.slice ae r6.length J)/\W.heap.size+1<V.heap.size):=fun V Z=>⟨ag H6.out.2.1 Z,af (ag H6.out.1.hg Z) rfl,au (ag H6.out.1.hg Z)⟩
  obtain ⟨⟨i0,i1,i2,i3,i4,i5,i6,i7⟩,il⟩:=aE H7.out.2;cases am with
  |false=>
   obtain ⟨q1,q2,q3⟩:=aj.out W7 H7.out.1;obtain ⟨⟨y0,y1,y2,y3,y4,y5,y6,y7⟩,yl⟩:=aE q1;obtain ⟨f0,f1,f2,f3,f4,f5,f6,f7⟩:=bH q1;have HE:Hid (gx (e :: r) []=none):=by have:=ak.out;unfold Hid;simpa using this
   clear q1 HC
   go_wp2_with fail
   obtain ⟨C,I⟩:∃C,aJ W7 W.heap.size 0 aB (.slice none 0 0)=C:=⟨_,rfl⟩;obtain ⟨G,H⟩:=ab.out HE.out _ C H7.out.1 I
   dsimp only [aJ,aB] at I
   rw [I];obtain ⟨⟨x0,x1,x2,x3,x4,x5,x6,x7⟩,xl⟩:=aE H;refine Ti (v:=.tuple #[eF 0 aB (.slice none 0 0),.int .i64 130]) (by simp [results,Tryz.f117,go_sem,x0,x1,x2,x3,x4,x5,x6,x7]) rfl ?_;exact G
  |true=>
   by_cases Y:F.k=0
   ·have aa:(F.k == 0)=true:=by simpa using Y
    rw [aa] at ad;have HE:Hid (gx (e :: r) []=none):=by have:=ak.out;unfold Hid;simpa [uM,Y] using this
    clear aa Y
    go_wp2_with fail
    refine (ad.out _).mono ?_;rintro x w8 ⟨rfl,Q⟩;have H8:Hid (Tb w6 w8):=H7.out.1.trans (Q.mono H7.out.1.size);obtain ⟨q1,q2,q3⟩:=aj.out w8 H8.out;obtain ⟨⟨y0,y1,y2,y3,y4,y5,y6,y7⟩,yl⟩:=aE q1;obtain ⟨f0,f1,f2,f3,f4,f5,f6,f7⟩:=bH q1;clear q1 HC Q
    go_wp2_with fail
    obtain ⟨C,I⟩:∃C,aJ w8 W.heap.size 0 aB (.slice none 0 0)=C:=⟨_,rfl⟩;obtain ⟨G,H⟩:=ab.out HE.out _ C H8.out I
    dsimp only [aJ,aB] at I
    rw [I];obtain ⟨⟨x0,x1,x2,x3,x4,x5,x6,x7⟩,xl⟩:=aE H;refine Ti (v:=.tuple #[eF 0 aB (.slice none 0 0),.int .i64 130]) (by simp [results,Tryz.f117,go_sem,x0,x1,x2,x3,x4,x5,x6,x7]) rfl ?_;exact G
   ·have aa:(F.k == 0)=false:=by simpa using Y
    rw [aa] at ad;have HE:Hid (gx (e :: r) []=if r6=[] then some F else none):=by have:=ak.out;unfold Hid;simpa [uM,Y] using this
    clear aa Y
    go_wp2_with fail
    refine (ad.out _).mono ?_;rintro x w8 ⟨rfl,Q⟩;have H8:Hid (Tb w6 w8):=H7.out.1.trans (Q.mono H7.out.1.size);obtain ⟨q1,q2,q3⟩:=aj.out w8 H8.out;obtain ⟨⟨y0,y1,y2,y3,y4,y5,y6,y7⟩,yl⟩:=aE q1;obtain ⟨f0,f1,f2,f3,f4,f5,f6,f7⟩:=bH q1;have q4:=ag H7.out.2 Q;obtain ⟨⟨j0,j1,j2,j3,j4,j5,j6,j7⟩,jl⟩:=aE q4;clear q1 q4 HC Q;cases r6 with
    |nil=>
     have az:w8.cell? ⟨W.heap.size+1,0,none⟩=some (.slice ae 0 J):=q2;clear q2
     go_wp2_with fail
     obtain ⟨C,I⟩:∃C,aJ w8 W.heap.size F.k F.d (.slice O M c6)=C:=⟨_,rfl⟩;obtain ⟨G,H⟩:=an.out (by have:=HE.out;simpa using this) _ C H8.out I
     dsimp only [aJ] at I
     rw [I];obtain ⟨⟨x0,x1,x2,x3,x4,x5,x6,x7⟩,xl⟩:=aE H;refine Ti (v:=.tuple #[eF F.k F.d (.slice O M c6),.int .i64 0]) (by simp [results,Tryz.f117,go_sem,x0,x1,x2,x3,x4,x5,x6,x7]) rfl ?_;exact G
    |cons e7 r7=>
     have az:w8.cell? ⟨W.heap.size+1,0,none⟩=some (.slice ae (r7.length+1) J):=q2;have be:(0:Int)<(r7.length:Int)+1:=by omega
     clear q2
     go_wp2_with fail
     obtain ⟨C,I⟩:∃C,aJ w8 W.heap.size 0 aB (.slice none 0 0)=C:=⟨_,rfl⟩;obtain ⟨G,H⟩:=ab.out (by have:=HE.out;simpa using this) _ C H8.out I
     dsimp only [aJ,aB] at I
     rw [I];obtain ⟨⟨x0,x1,x2,x3,x4,x5,x6,x7⟩,xl⟩:=aE H;refine Ti (v:=.tuple #[eF 0 aB (.slice none 0 0),.int .i64 130]) (by simp [results,Tryz.f117,go_sem,x0,x1,x2,x3,x4,x5,x6,x7]) rfl ?_;exact G
theorem Nc (w:World):(Instr.typeAssert .nilIface 20 188 true).run Tryz.prog w=.ok (.tuple #[.agg #[.int .i64 0,.int .i64 0],.bool false]) w:=by kernel_rfl
theorem Jp (c i:Int) (w:World):(Instr.typeAssert (.iface 188 (.agg #[.int .i64 c,.int .i64 i])) 20 188 true).run Tryz.prog w=.ok (.tuple #[.agg #[.int .i64 c,.int .i64 i],.bool true]) w:=by kernel_rfl
theorem zk (a b c:Nat) (w:World) :
  CallsD Tryz.prog 114 #[pg a,pg b,pg c] .returning w fun e H w'=>e=.returned (.tuple #[])/\H=.returning/\Below w.heap.size w w':=by
 have C:Hid (∀o,Tb w (w.alloc o)):=fun o=>(hH _ _).alloc (gt _) _
 refine callsD_of_wpS Tryz.func114 rfl fun F cs G=>?_
 apply wpS_seq
 apply wpS_region
 simp [wpOpsS,go_sem,recoverD,G,Tryz.ntmps114,Exit.thenS,Nc];refine wpS_of_wp ?_
 go_wp2_with fail
 have I:=C.out (.cells #[.int .i64 0,.int .i64 0] 188);clear C;cases F
 simp_all [bodyPostS,results,Tryz.f114,go_sem]
structure Cz (a b c:Nat) (n:Obj) (e i:Int) (w:World):Prop where
 ha:w.heap[a]?=some n
 hb:w.heap[b]?=some (.cells #[.int .i64 e] 55)
 hc:w.heap[c]?=some (.cells #[.int .i64 i] 3)
 ab:a≠b
 ac:a≠c
 bc:b≠c
theorem Cz.below {c:Nat}{n:Obj}{e i:Int}{w':World}(h:Cz a b c n e i w) (C:Below w.heap.size w w'):Cz a b c n e i w':=⟨ag h.ha C,ag h.hb C,ag h.hc C,h.ab,h.ac,h.bc⟩
theorem Cz.set {c:Nat}{M O:Int}(h:Cz a b c (bz k0 d0 s0) M O w) (k:Int) (d:Tv) (s:Value) (e i:Int):Cz a b c (bz k d s) e i (((aJ w a k d s).setCell ⟨b,0,none⟩ (.int .i64 e)).setCell ⟨c,0,none⟩ (.int .i64 i))/\Kp (fun j=>j=a\/j=b\/j=c) w (((aJ w a k d s).setCell ⟨b,0,none⟩ (.int .i64 e)).setCell ⟨c,0,none⟩ (.int .i64 i)):=by
 have F:=eJ w a k d s;have G:=Kp.set (aJ w a k d s) b 0 (.int .i64 e);have H:=Kp.set ((aJ w a k d s).setCell ⟨b,0,none⟩ (.int .i64 e)) c 0 (.int .i64 i);have I:=gk h.ha k d s;have J:=F.blk h.hb (fun x=>h.ab x.symm);have c1:=F.blk h.hc (fun x=>h.ac x.symm);refine ⟨⟨H.blk (G.blk I h.ab) h.ac,H.blk (aj J 0 _) h.bc,aj (G.blk c1 (fun x=>h.bc x.symm)) 0 _,h.ab,h.ac,h.bc⟩,?_⟩;exact ((F.sub (fun j C=>.inl C)).trans (G.sub (fun j C=>.inr (.inl C)))).trans (H.sub (fun j C=>.inr (.inr C)))
theorem M8 (O Q S C F G H I J M:Value):#[O,Q,S]++(((((((Array.replicate 13 undef).setIfInBounds 3 H).setIfInBounds 4 I).setIfInBounds 2 G).setIfInBounds 5 J).setIfInBounds 6 M).setIfInBounds 0 C).setIfInBounds 1 F=#[O,Q,S,C,F,G,H,I,J,M,undef,undef,undef,undef,undef,undef]:=by kernel_rfl
theorem xv (a b c:Nat) (k0:Int) (d0:Tv) (s0:Value) (e0 i0:Int) (e:Int) (i:Nat) (w:World) (h:Cz a b c (bz k0 d0 s0) e0 i0 w) :
  CallsD Tryz.prog 114 #[pg a,pg b,pg c] (.panicking (stop e i)) w fun r u' w'=>r=.returned (.tuple #[])/\u'=.panicking [{ v:=.iface 188 (.agg #[.int .i64 e,.int .i64 (i:Int)]),recovered:=true }]/\Cz a b c (bz 0 aB (.slice none 0 0)) e i w'/\Kp (fun j=>j=a\/j=b\/j=c) w w':=by
 refine callsD_of_wpS Tryz.func114 rfl fun c₀ cs hu=>?_
 apply wpS_seq
 apply wpS_region
 simp [wpOpsS,go_sem,recoverD,hu,Tryz.ntmps114,Exit.thenS,Jp];refine wpS_of_wp ?_;rw [M8];obtain ⟨C,H⟩:∃C,w.alloc (.cells #[.int .i64 e,.int .i64 (i:Int)] 188)=C:=⟨_,rfl⟩;have O:Below w.heap.size w C:=by rw [<-H];exact (hH _ _).alloc (gt _) _
 have J:C.heap[w.heap.size]?=some (.cells #[.int .i64 e,.int .i64 (i:Int)] 188):=by rw [<-H];exact aq _ _
 have F:=h.below O
 have HX:Hid (∃M,(((aJ C a 0 aB (.slice none 0 0)).setCell ⟨b,0,none⟩ (.int .i64 e)).setCell ⟨c,0,none⟩ (.int .i64 i)).drew=M/\Cz a b c (bz 0 aB (.slice none 0 0)) e i M/\Kp (fun j=>j=a\/j=b\/j=c) w M):=by
  obtain ⟨x1,x2⟩:=F.set 0 aB (.slice none 0 0) e i;have G:∀v:World,Below v.heap.size v v.drew:=fun v=>(hH _ _).drew
  exact ⟨_,rfl,x1.below (G _),((Kp.of_below (S:=fun j=>j=a\/j=b\/j=c) O).trans x2).trans (Kp.of_below (G _))⟩
 obtain ⟨⟨n0,n1,n2,n3,n4,n5,n6,n7⟩,nl⟩:=aE F.ha;obtain ⟨f0,f1,f2,f3,f4,f5,f6,f7⟩:=bH F.ha;have y0:C.cell? ⟨w.heap.size,0,none⟩=_:=af J rfl;have y1:C.cell? ⟨w.heap.size,1,none⟩=_:=af J rfl;have Q:=h.ab;have U:=h.ac;have Z:=h.bc;have Y:=h.ab.symm;have aa:=h.ac.symm;have ab:=h.bc.symm;have za:w.heap.size≠a:=fun x=>by have:=au h.ha;omega
 have zb:w.heap.size≠b:=fun x=>by have:=au h.hb;omega
 have zc:w.heap.size≠c:=fun x=>by have:=au h.hc;omega
 have z1:=au J;have b0:C.cell? ⟨b,0,none⟩=_:=af F.hb rfl;have c0:C.cell? ⟨c,0,none⟩=_:=af F.hc rfl;have bl:=au F.hb;have cl:=au F.hc;have fb:C.frozen? ⟨b,0,none⟩=false:=am F.hb;have fc:C.frozen? ⟨c,0,none⟩=false:=am F.hc;rw [H];clear O J F h H
 generalize w.heap.size=q at *
 go_wp2_with fail
 go_region
 obtain ⟨M,I,hz,kz⟩:=HX.out;unfold aJ at I
 dsimp only [aB] at I
 rw [I];clear HX I n0 n1 n2 n3 n4 n5 n6 n7 nl f0 f1 f2 f3 f4 f5 f6 f7 y0 y1 b0 c0 bl cl fb fc Q U Z Y aa ab za zb zc z1
 go_wp2_with fail
 cases c₀
 simp_all [bodyPostS,results,Tryz.f114,go_sem]
end Go.Proofs.YtcjiapphbpiffaaGreatDoor
