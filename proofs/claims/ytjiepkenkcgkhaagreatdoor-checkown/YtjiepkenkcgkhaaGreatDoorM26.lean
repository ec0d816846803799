import Derived.Deep.CutRange
import Derived.Deep.QuietTactic
import Derived.BigQuiet
import Derived.Test.YtjiepkenkcgkhaaGreatDoorM25
set_option linter.unusedVariables false
set_option linter.unusedSimpArgs false
set_option maxHeartbeats 1000000
set_option maxRecDepth 100000
namespace Go.Proofs.YtjiepkenkcgkhaaGreatDoor
open Go.RowKit
variable {ao ao':Option Addr}{cap g p b cap':Nat}{w0 W V V' w:World}{r l r':List Ev}{k ek en k0:Int}{c:List bO}{sv s0 s x:Value}{vs:List Value}{d ed d0:Tv}
theorem Tryz.info54:(Tryz.prog.info? 54).map (fun i=>(i.zero,i.size,i.bytes))=some (some (.agg #[.int .u8 0,.int .u8 0,.string ⟨#[]⟩,.int .i64 0,.int .i64 0,.int .i64 0,.int .i64 0,.slice none 0 0]),8,88):=by kernel_rfl
theorem Nn {ops:Array Oper}{rest:List Oper}{o:Oper}{a:Act}{Q:Exit->Act->World->Prop}(hgd:o.guard=none) (s x:Operand)
  (ho:o.op=.call { callee:=.builtin .append,args:=#[s,x],argTypes:=#[52,52] }) (v:Value) (c:List bO) (vs:List Value) (n:bO) (p:Option Addr) (m cp:Nat) (hs:a.eval s=v) (hr:RN W v c vs)
  (g c1:Nat) (hx:a.eval x=.slice (some ⟨g,0,none⟩) 1 c1) (hg:W.heap[g]?=some (bv n.k n.d (.slice p m cp))) (hl:c.length<=1000000000)
  (h:∀v' w',RN w' v' (c++[n]) (vs++[.slice p m cp])->W.grownBy w' v.ownBlock->Nb W v v'->wpList Tryz.prog ops Q rest (a.put o.dst v') w'):wpList Tryz.prog ops Q (o :: rest) a W:=by
 obtain ⟨i0,hi,hz0,hz1,hz2⟩:=Sa Tryz.info54;refine RT (P:=Tryz.prog) (w:=W) hgd s x 52 ho 0 54 i0 _ 8 88 Tryz.underlying52 hi hz0 hz1 hz2 rfl (by decide) v _ _ hs hr.2 ⟨g,0,none⟩ 1 c1 (nc n (.slice p m cp)) hx rfl ?_ ?_ (by unfold maxLen;omega) (by omega) (QK _) ?_
 ·intro j u hu;refine RW hg j u ?_
  simpa [nc] using hu
 ·intro u hu;simp only [nc,Rg,Tg,Vr] at hu
  rcases hu with rfl|rfl|rfl|rfl|rfl|rfl|rfl|rfl <;> rfl
 ·intro v' w' h1 h2 _ h4;refine h v' w' ⟨by simp [hr.1],?_⟩ h2 ?_
  ·rw [Or,Ep c vs hr.1];exact h1
  ·rcases h4 with h4|h4
   ·exact .inl h4
   ·exact .inr ⟨_,h4,gt _⟩
abbrev mn (g p:Nat):Value:=.func (.func 156) #[] #[.pointer (some ⟨g,0,none⟩),.pointer (some ⟨p,0,none⟩)]
structure RS (w0:World) (g p:Nat) (l:List Ev) (ao:Option Addr) (cap:Nat) (V:World):Prop where
 bel:Below w0.heap.size w0 V
 hg:V.heap[g]?=some (.cells #[.slice ao l.length cap] 90 (0,0))
 hp:V.heap[p]?=some (.cells #[mn g p] 244 (0,0))
 le:Le w0 ao l
 lc:l.length<=cap
 cm:cap<=maxLen
 g0:w0.heap.size<=g
 p0:w0.heap.size<=p
theorem RS.ne (h:RS w0 g p l ao cap V):g≠p:=by
 rintro rfl;have:=h.hg;rw [h.hp] at this;injection this with e
 injection e with _ e
 exact absurd e (by decide)
theorem RS.below (h:RS w0 g p l ao cap V) (hb:Below V.heap.size V V'):RS w0 g p l ao cap V':=
 ⟨h.bel.trans (hb.mono h.bel.size),ag h.hg hb,ag h.hp hb,h.le,h.lc,h.cm,h.g0,h.p0⟩
theorem RS.kp {S:Nat->Prop}{w0:World}{g p:Nat}{l:List Ev}{ao:Option Addr}{cap:Nat}{V V':World}(h:RS w0 g p l ao cap V) (hk:Kp S V V') (hS:∀k,S k->w0.heap.size<=k/\k≠g/\k≠p):RS w0 g p l ao cap V':=
 ⟨Kp.low h.bel hk (fun k e=>(hS k e).1) h.bel.size,hk.blk h.hg (fun e=>(hS g e).2.1 rfl),hk.blk h.hp (fun e=>(hS p e).2.2 rfl),h.le,h.lc,h.cm,h.g0,h.p0⟩
theorem RS.set {l':List Ev}(h:RS w0 g p l ao cap V) (hl:Le w0 ao' l') (hc:l'.length<=cap') (hm:cap'<=maxLen):RS w0 g p l' ao' cap' (V.setCell ⟨g,0,none⟩ (.slice ao' l'.length cap')):=
 ⟨Kp.low h.bel (Kp.set V g 0 _) (fun k e=>by subst e;exact h.g0) h.bel.size,aj h.hg 0 _,aX h.hp (Vs h.ne) _,hl,hc,hm,h.g0,h.p0⟩
def O0 (w0:World) (g p a:Nat) (l:List Ev) (W:World) (x:Ending) (w':World):Prop:=∃(n:bO) (sv:Value) (ok:Bool) (r:List Ev) (ao:Option Addr) (cap:Nat),x=.returned (.tuple #[dY n.k n.d sv,.bool ok])/\RS w0 g p r ao cap w'/\Kp (fun k=>k=g) W w'/\r.length<l.length/\TN (fun k=>W.heap.size<=k) w' n sv/\(if ok then O9 a l n r else GS a l)
def wE (w0:World) (g p:Nat) (l:List Ev):Prop:=∀(a:Nat) (ao:Option Addr) (cap:Nat) (W:World),a<=1000->(∀e r,l=e :: r->e.k=3->a=0)->RS w0 g p l ao cap W->Ra 156 #[.int .i64 (a:Nat),.pointer (some ⟨g,0,none⟩),.pointer (some ⟨p,0,none⟩)] W (O0 w0 g p a l W)
def aH (w:World) (b:Nat) (k:Int) (d:Tv) (s:Value):World:=(((((((w.setCell ⟨b,0,none⟩ (.int .u8 k)).setCell ⟨b,1,none⟩ (.int .u8 d.k)).setCell ⟨b,2,none⟩ (.string d.t)).setCell ⟨b,3,none⟩ (.int .i64 d.a)).setCell ⟨b,4,none⟩ (.int .i64 d.l)).setCell ⟨b,5,none⟩ (.int .i64 d.c)).setCell ⟨b,6,none⟩ (.int .i64 d.f)).setCell ⟨b,7,none⟩ s
theorem fS (h:w.heap[b]?=some (bv k0 d0 s0)) (k:Int) (d:Tv) (s:Value):(aH w b k d s).heap[b]?=some (bv k d s):=by
 unfold aH;have:=aj (aj (aj (aj (aj (aj (aj (aj h 0 (.int .u8 k)) 1 (.int .u8 d.k)) 2 (.string d.t)) 3 (.int .i64 d.a)) 4 (.int .i64 d.l)) 5 (.int .i64 d.c)) 6 (.int .i64 d.f)) 7 s;rw [this];simp
theorem ep (w:World) (b:Nat) (k:Int) (d:Tv) (s:Value):Kp (fun j=>j=b) w (aH w b k d s):=by
 unfold aH;exact (((((((Kp.set _ _ _ _).trans (Kp.set _ _ _ _)).trans (Kp.set _ _ _ _)).trans (Kp.set _ _ _ _)).trans (Kp.set _ _ _ _)).trans (Kp.set _ _ _ _)).trans (Kp.set _ _ _ _)).trans (Kp.set _ _ _ _)
theorem aD (h:w.heap[b]?=some (bv k d s)):(w.cell? ⟨b,0,none⟩=some (.int .u8 k)/\w.cell? ⟨b,1,none⟩=some (.int .u8 d.k)/\w.cell? ⟨b,2,none⟩=some (.string d.t)/\w.cell? ⟨b,3,none⟩=some (.int .i64 d.a)/\w.cell? ⟨b,4,none⟩=some (.int .i64 d.l)/\w.cell? ⟨b,5,none⟩=some (.int .i64 d.c)/\w.cell? ⟨b,6,none⟩=some (.int .i64 d.f)/\w.cell? ⟨b,7,none⟩=some s)/\b<w.heap.size:=
 ⟨⟨af h rfl,af h rfl,af h rfl,af h rfl,af h rfl,af h rfl,af h rfl,af h rfl⟩,aq h⟩
theorem bC (h:w.heap[b]?=some (bv k d s)):w.frozen? ⟨b,0,none⟩=false/\w.frozen? ⟨b,1,none⟩=false/\w.frozen? ⟨b,2,none⟩=false/\w.frozen? ⟨b,3,none⟩=false/\w.frozen? ⟨b,4,none⟩=false/\w.frozen? ⟨b,5,none⟩=false/\w.frozen? ⟨b,6,none⟩=false/\w.frozen? ⟨b,7,none⟩=false:=
 ⟨am h,am h,am h,am h,am h,am h,am h,am h⟩
abbrev CC (k n:Int) (d:Tv):Obj:=.cells #[.int .u8 k,.int .u8 n,.int .u8 d.k,.string d.t,.int .i64 d.a,.int .i64 d.l,.int .i64 d.c,.int .i64 d.f] 94
theorem pN {n:Int}(h:w.heap[b]?=some (CC k n d)):(w.cell? ⟨b,0,none⟩=some (.int .u8 k)/\w.cell? ⟨b,1,none⟩=some (.int .u8 n)/\w.cell? ⟨b,2,none⟩=some (.int .u8 d.k)/\w.cell? ⟨b,3,none⟩=some (.string d.t)/\w.cell? ⟨b,4,none⟩=some (.int .i64 d.a)/\w.cell? ⟨b,5,none⟩=some (.int .i64 d.l)/\w.cell? ⟨b,6,none⟩=some (.int .i64 d.c)/\w.cell? ⟨b,7,none⟩=some (.int .i64 d.f))/\b<w.heap.size:=
 ⟨⟨af h rfl,af h rfl,af h rfl,af h rfl,af h rfl,af h rfl,af h rfl,af h rfl⟩,aq h⟩
structure R2 (w0 W:World) (g p:Nat) (r:List Ev) (ao:Option Addr) (cap:Nat) (ek en:Int) (ed:Tv) (V:World):Prop where
 rs:RS w0 g p r ao cap V
 kp:Kp (fun k=>k=g) W V
 rb:V.heap[W.heap.size]?=some (bv 0 aB (.slice none 0 0))
 fb:V.heap[W.heap.size+1]?=some (CC ek en ed)
theorem uD {ao2:Option Addr}{cap2:Nat}(h:RS w0 g p l ao cap W) (hl:Le w0 ao2 r) (hc:r.length<=cap2) (hm:cap2<=maxLen) (ek en:Int) (ed:Tv) :
  R2 w0 W g p r ao2 cap2 ek en ed (((W.setCell ⟨g,0,none⟩ (.slice ao2 r.length cap2)).alloc (bv 0 aB (.slice none 0 0))).alloc (CC ek en ed)):=by
 have e0:(W.setCell ⟨g,0,none⟩ (.slice ao2 r.length cap2)).heap.size=W.heap.size:=by show (W.heap.modify g _).size=_;rw [Ss]
 have e1:=gk (W.setCell ⟨g,0,none⟩ (.slice ao2 r.length cap2)) (bv 0 aB (.slice none 0 0));have b1:=aO (W.setCell ⟨g,0,none⟩ (.slice ao2 r.length cap2)) (bv 0 aB (.slice none 0 0));have b2:=aO ((W.setCell ⟨g,0,none⟩ (.slice ao2 r.length cap2)).alloc (bv 0 aB (.slice none 0 0))) (CC ek en ed);refine ⟨((h.set hl hc hm).below b1).below b2,((Kp.set _ _ _ _).alloc _).alloc _,?_,?_⟩
 ·refine aI ?_ _;rw [<-e0];exact au _ _
 ·rw [<-e0,<-e1];exact au _ _
theorem R2.below (h:R2 w0 W g p r ao cap ek en ed V) (hb:Below V.heap.size V V'):R2 w0 W g p r ao cap ek en ed V':=
 ⟨h.rs.below hb,h.kp.step (T:=fun _=>False) (Kp.of_below hb) (fun _ _ h=>h.elim),ag h.rb hb,ag h.fb hb⟩
theorem R2.out (h:R2 w0 W g p r ao cap ek en ed V) (hgW:g<W.heap.size) (hpW:p<W.heap.size) (k:Int) (d:Tv) (s:Value) :
  RS w0 g p r ao cap (aH V W.heap.size k d s)/\Kp (fun k=>k=g) W (aH V W.heap.size k d s)/\(aH V W.heap.size k d s).heap[W.heap.size]?=some (bv k d s):=by
 have hk:=ep V W.heap.size k d s;have hw:w0.heap.size<=W.heap.size:=by have:=h.rs.g0;omega
 refine ⟨h.rs.kp hk (fun j e=>by subst e;exact ⟨hw,by omega,by omega⟩),h.kp.step hk (fun j hj e=>by omega),fS h.rb k d s⟩
theorem A6 (w0:World) (g p:Nat) (e:Ev) (r:List Ev) (h1:e.k≠1):wE w0 g p (e :: r):=by
 intro a ao cap W ha h3 hI;obtain ⟨b,off,ao2,cap2,rfl,hbl,⟨c0,c1,c2,c3,c4,c5,c6,c7⟩,hsl,hc2,hm2,hle2⟩:=hI.le.tail (cap:=cap) (by have:=hI.lc;simpa using this) hI.cm;have HI:Hid (RS w0 g p (e :: r) (some ⟨b,off,none⟩) cap W):=hI;have tr:∀i u,w0.cell? ⟨b,i,none⟩=some u->W.cell? ⟨b,i,none⟩=some u:=fun i u hu=>(QS (a:=⟨b,i,none⟩) (hI.bel.block b hbl)).trans hu
 replace c0:=tr _ _ c0;replace c1:=tr _ _ c1;replace c2:=tr _ _ c2;replace c3:=tr _ _ c3;replace c4:=tr _ _ c4;replace c5:=tr _ _ c5;replace c6:=tr _ _ c6;replace c7:=tr _ _ c7;have hbW:b<W.heap.size:=QP _ _ c0;have hgW:g<W.heap.size:=aq hI.hg;have hcg:W.cell? ⟨g,0,none⟩=some (.slice (some ⟨b,off,none⟩) (r.length+1) cap):=af hI.hg rfl;have hfg:W.frozen? ⟨g,0,none⟩=false:=am hI.hg;have hbg:b≠g:=fun e=>by have:=hI.g0;omega
 have hk1:(e.k == 1)=false:=by simpa using h1
 have hk1':(e.k != 1)=true:=by simpa using h1
 obtain ⟨⟨ek,en,ed⟩,he⟩:∃x,e=x:=⟨_,rfl⟩;subst he
 dsimp only at *
 have HKf:Hid (∀V,Ra 71 #[.agg #[.int .u8 ed.k,.string ed.t,.int .i64 ed.a,.int .i64 ed.l,.int .i64 ed.c,.int .i64 ed.f]] V fun r w'=>r=.returned (.int .u8 (tV ed))/\Rc V w'):=fun V=>pi ed V
 have hpW:p<W.heap.size:=aq hI.hp
 have hok:(if (ek == tV ed)=true then O9 a (⟨ek,en,ed⟩ :: r) (.mk 0 ed []) r else GS a (⟨ek,en,ed⟩ :: r)):=by
  by_cases hq:ek=tV ed
  ·rw [IO (by simpa using hq)];exact BC (e:=⟨ek,en,ed⟩) hq
  ·rw [Eq (by simpa using hq)];exact EA (e:=⟨ek,en,ed⟩) h1 hq (h3 _ _ rfl)
 have HOK:=ai hok;obtain ⟨W2,eW2⟩:∃W2,((W.setCell ⟨g,0,none⟩ (.slice ao2 r.length cap2)).alloc (bv 0 aB (.slice none 0 0))).alloc (CC ek en ed)=W2:=⟨_,rfl⟩;have H2:Hid (R2 w0 W g p r ao2 cap2 ek en ed W2):=by rw [<-eW2];exact uD hI hle2 hc2 hm2 ek en ed
 clear hI tr hok
 go_enter Tryz.func156,Tryz.ntmps156
 go_wp2_with fail
 dsimp only [bv,CC,aB] at eW2
 rw [eW2];obtain ⟨⟨f0,f1,f2,f3,f4,f5,f6,f7⟩,fl⟩:=pN H2.out.fb;obtain ⟨⟨r0,r1,r2,r3,r4,r5,r6,r7⟩,rl⟩:=aD H2.out.rb;clear eW2 c0 c1 c2 c3 c4 c5 c6 c7 hcg hfg hsl
 go_region_law (first|(go_simp;go_at_call 71;refine (HKf.out _).mono ?_;rintro x w4 ⟨rfl,hb4⟩;have H4:Hid (R2 w0 W g p r ao2 cap2 ek en ed w4):=H2.out.below ((hH _ _).drew.trans (hb4.mono (gt _)));obtain ⟨⟨d0,d1,d2,d3,d4,d5,d6,d7⟩,dl⟩:=pN H4.out.fb;obtain ⟨⟨s0,s1,s2,s3,s4,s5,s6,s7⟩,sl⟩:=aD H4.out.rb;obtain ⟨z0,z1,z2,z3,z4,z5,z6,z7⟩:=bC H4.out.rb;clear hb4))
 all_goals (
  go_wp2_with fail
  have h9:=H4.out.out hgW hpW 0 ed (.slice none 0 0);obtain ⟨w9,e9⟩:∃w9,aH w4 W.heap.size 0 ed (.slice none 0 0)=w9:=⟨_,rfl⟩;rw [e9] at h9
  dsimp only [aH] at e9
  rw [e9];obtain ⟨⟨x0,x1,x2,x3,x4,x5,x6,x7⟩,xl⟩:=aD h9.2.2;refine QV (v:=.tuple #[dY 0 ed (.slice none 0 0),.bool (ek == tV ed)]) (by simp [results,Tryz.f156,go_sem,x0,x1,x2,x3,x4,x5,x6,x7]) rfl ?_;exact ⟨.mk 0 ed [],.slice none 0 0,ek == tV ed,r,ao2,cap2,rfl,h9.1,h9.2.1,by simp,lk _ _ _ _,HOK.out⟩)
structure RL (w0 W:World) (g p:Nat) (k:Int) (r:List Ev) (ao:Option Addr) (cap:Nat) (c:List bO) (sv:Value) (vs:List Value) (V:World):Prop where
 rs:RS w0 g p r ao cap V
 kp:Kp (fun k=>k=g) W V
 gW:g<W.heap.size
 pW:p<W.heap.size
 rb:V.heap[W.heap.size]?=some (bv 0 aB (.slice none 0 0))
 nb:V.heap[W.heap.size+1+1]?=some (bv k aB sv)
 rn:RN V sv c vs
 sB:∀b,sv.ownBlock=some b->W.heap.size+3<=b
 tl:TL (fun b=>W.heap.size+3<=b/\sv.ownBlock≠some b) V c vs
theorem RL.below (h:RL w0 W g p k r ao cap c sv vs V) (hb:Below V.heap.size V V'):RL w0 W g p k r ao cap c sv vs V':=by
 have hk:Kp (fun _=>False) V V':=Kp.of_below hb;exact ⟨h.rs.below hb,h.kp.step hk (fun _ _ h=>h.elim),h.gW,h.pW,ag h.rb hb,ag h.nb hb,h.rn.kp hk (fun _ _ h=>h),h.sB,TL.kp hk (fun _ _ h=>h) _ _ h.tl⟩
theorem RL.call (h:RL w0 W g p k r ao cap c sv vs V) (hk:Kp (fun k=>k=g) V V') (rs:RS w0 g p r' ao' cap' V'):RL w0 W g p k r' ao' cap' c sv vs V':=by
 have gW:=h.gW;exact ⟨rs,h.kp.step hk (fun _ _ h=>h),h.gW,h.pW,hk.blk h.rb (by omega),hk.blk h.nb (by omega),h.rn.kp hk (fun b e=>by have:=h.sB b e;omega),h.sB,TL.kp hk (fun b e=>by have:=e.1;omega) _ _ h.tl⟩
theorem RL.oth {q:Nat}(h:RL w0 W g p k r ao cap c sv vs V) (hk:Kp (fun k=>k=q) V V') (hq:W.heap.size+3<=q) (h1:sv.ownBlock≠some q) (ht:TL (fun b=>(W.heap.size+3<=b/\sv.ownBlock≠some b)/\b≠q) V c vs):RL w0 W g p k r ao cap c sv vs V':=by
 have gW:=h.gW;have pW:=h.pW;have g0:=h.rs.g0;exact ⟨h.rs.kp hk (fun b e=>by subst e;exact ⟨by omega,by omega,by omega⟩),h.kp.step hk (fun b hb e=>by omega),h.gW,h.pW,hk.blk h.rb (by omega),hk.blk h.nb (by omega),h.rn.kp hk (fun b e e2=>h1 (by rw [e,e2])),h.sB,TL.sub (fun b _ e=>e.1) _ _ (TL.kp hk (fun b e e2=>e.2 e2) _ _ ht)⟩
theorem RL.push {v':Value}{V1 w8:World}{n:bO}(h:RL w0 W g p k r ao cap c sv vs V) (hb:Below V.heap.size V V1) (hn:TN (fun b=>W.heap.size+3<=b/\sv.ownBlock≠some b) V n x) (hr:RN w8 v' (c++[n]) (vs++[x])) (hg:V1.grownBy w8 sv.ownBlock) (hq:Nb V1 sv v') :
  (w8.cell? ⟨W.heap.size+1+1,7,none⟩=some sv/\w8.frozen? ⟨W.heap.size+1+1,7,none⟩=false/\W.heap.size+1+1<w8.heap.size)/\RL w0 W g p k r ao cap (c++[n]) v' (vs++[x]) (w8.setCell ⟨W.heap.size+1+1,7,none⟩ v'):=by
 have gW:=h.gW;have pW:=h.pW;have g0:=h.rs.g0;have h1:=h.below hb;have kg:=Kp.of_grown hg;have hS:∀b,some b=sv.ownBlock->W.heap.size+3<=b:=fun b e=>h.sB b e.symm
 have nb8:=kg.blk h1.nb (fun e=>by have:=hS _ e;omega);have rb8:=kg.blk h1.rb (fun e=>by have:=hS _ e;omega);have rs8:RS w0 g p r ao cap w8:=h1.rs.kp kg (fun b e=>by have:=hS b e;exact ⟨by omega,by omega,by omega⟩);have ks:=Kp.set w8 (W.heap.size+1+1) 7 v';have hsz:W.heap.size+3<=V1.heap.size:=by have:=aq h1.nb;omega
 have vB:∀b,v'.ownBlock=some b->W.heap.size+3<=b:=by
  intro b e
  rcases hq with hq|⟨q,e1,hq⟩
  ·exact h.sB b (by rw [<-hq];exact e)
  ·rw [e1] at e;simp at e;omega
 have t1:TL (fun b=>W.heap.size+3<=b/\sv.ownBlock≠some b) V1 (c++[n]) (vs++[x]):=TL.kp (Kp.of_below (S:=fun _=>False) hb) (fun _ _ h=>h) _ _ (TL.app hn h.tl)
 have t2:TL (fun b=>W.heap.size+3<=b/\v'.ownBlock≠some b) V1 (c++[n]) (vs++[x]):=TL.sub (fun b hb2 e=>⟨e.1,by
  rcases hq with hq|⟨q,e1,hq⟩
  ·rw [hq];exact e.2
  ·rw [e1];intro e3;simp at e3;omega⟩) _ _ t1
 have t3:TL (fun b=>W.heap.size+3<=b/\sv.ownBlock≠some b) w8 (c++[n]) (vs++[x]):=TL.kp kg (fun b e e2=>e.2 e2.symm) _ _ t1
 have t4:TL (fun b=>W.heap.size+3<=b/\v'.ownBlock≠some b) w8 (c++[n]) (vs++[x]):=by
  rcases hq with hq|⟨q,e1,hq⟩
  ·rw [hq];exact t3
  ·refine TL.sub (fun b hb2 e=>⟨e.1.1,e.2⟩) _ _ (TL.kp (O:=fun b=>(W.heap.size+3<=b/\sv.ownBlock≠some b)/\v'.ownBlock≠some b) kg (fun b e e2=>e.1.2 e2.symm) _ _ (TL.sub (fun b hb2 e=>⟨e,?_⟩) _ _ t1));rw [e1];intro e3;simp at e3;omega
 refine ⟨⟨af nb8 rfl,am nb8,aq nb8⟩,⟨rs8.kp ks (fun b e=>by subst e;exact ⟨by omega,by omega,by omega⟩),((h1.kp.step kg (fun b hb2 e=>by have:=hS b e;omega)).step ks (fun b hb2 e=>by omega)),h.gW,h.pW,aX rb8 (by omega) _,?_,hr.kp ks (fun b e e2=>by have:=vB b e;omega),vB,TL.kp ks (fun b e e2=>by have:=e.1;omega) _ _ t4⟩⟩;have:=aj nb8 7 v';rw [this];simp
theorem DI (h:R2 w0 W g p r ao cap ek en ed V) (hs:V.heap.size=W.heap.size+1+1) (hgW:g<W.heap.size) (hpW:p<W.heap.size) (k:Int):RL w0 W g p k r ao cap [] (.slice none 0 0) [] (V.alloc (bv k aB (.slice none 0 0))):=by
 have hb:=aO V (bv k aB (.slice none 0 0));have h':=h.below hb;refine ⟨h'.rs,h'.kp,hgW,hpW,h'.rb,?_,DG _,(fun b e=>by cases e),by rw [TL]⟩;rw [<-hs];exact au _ _
def zx (w:World) (g:Nat):Nat:=match w.cell? ⟨g,0,none⟩ with
 |some (.slice _ n _)=>n
 |_=>0
theorem RL.len (h:RL w0 W g p k r ao cap c sv vs V):zx V g=r.length:=by
 have:V.cell? ⟨g,0,none⟩=some (.slice ao r.length cap):=af h.rs.hg rfl;simp [zx,this]
theorem RL.out (h:RL w0 W g p k r ao cap c sv vs V) (k':Int) (d:Tv) (s:Value) :
  RS w0 g p r ao cap (aH V W.heap.size k' d s)/\Kp (fun k=>k=g) W (aH V W.heap.size k' d s)/\(aH V W.heap.size k' d s).heap[W.heap.size]?=some (bv k' d s)/\TN (fun b=>W.heap.size<=b) (aH V W.heap.size k' d s) (.mk k aB c) sv:=by
 have hk:=ep V W.heap.size k' d s;have gW:=h.gW;have pW:=h.pW;have g0:=h.rs.g0;refine ⟨h.rs.kp hk (fun j e=>by subst e;exact ⟨by omega,by omega,by omega⟩),h.kp.step hk (fun j hj e=>by omega),fS h.rb k' d s,?_⟩;rw [TN];refine ⟨vs,h.rn.kp hk (fun b e e2=>by have:=h.sB b e;omega),fun b e=>by have:=h.sB b e;omega,TL.sub (fun b _ e=>by have:=e.1;omega) _ _ (TL.kp hk (fun b e e2=>by have:=e.1;omega) _ _ h.tl)⟩
structure O5 (w0 W:World) (g p a:Nat) (l:List Ev) (k:Int) (good:Bool) (V:World):Prop where
 ex:∃r ao cap c sv vs,RL w0 W g p k r ao cap c sv vs V/\c.length+r.length<l.length/\(if good then Cx a l k c r/\k≠0/\a<1000 else GS a l)
theorem RL.kid {w6:World}{n:bO}(h:RL w0 W g p k r ao cap c sv vs V) (hk:Kp (fun k=>k=g) (V.alloc (bv k0 d0 s0)) w6) (rs:RS w0 g p r' ao' cap' w6) (hn:TN (fun b=>(V.alloc (bv k0 d0 s0)).heap.size<=b) w6 n x) :
  RL w0 W g p k r' ao' cap' c sv vs (aH w6 V.heap.size n.k n.d x)/\TN (fun b=>W.heap.size+3<=b/\sv.ownBlock≠some b) (aH w6 V.heap.size n.k n.d x) n x/\(aH w6 V.heap.size n.k n.d x).heap[V.heap.size]?=some (bv n.k n.d x):=by
 have gW:=h.gW;have hsz:W.heap.size+3<=V.heap.size:=by have:=aq h.nb;omega
 have hgV:g<V.heap.size:=aq h.rs.hg;have hb:=aO V (bv k0 d0 s0);have hs:=gk V (bv k0 d0 s0);rw [hs] at hn;have k8:=ep w6 V.heap.size n.k n.d x;have h6:=(h.below hb).call hk rs
 have t6:TL (fun b=>(W.heap.size+3<=b/\sv.ownBlock≠some b)/\b≠V.heap.size) w6 c vs:=
  TL.kp hk (fun b e e2=>by have:=e.1.1;omega) _ _ (TL.kp (Kp.of_below (S:=fun _=>False) hb) (fun _ _ h=>h) _ _ (TL.sub (fun b hlt e=>⟨e,by omega⟩) _ _ h.tl))
 have b6:w6.heap[V.heap.size]?=some (bv k0 d0 s0):=hk.blk (au _ _) (by omega);refine ⟨h6.oth k8 hsz (fun e=>by have:=h.rn.lt _ e;omega) t6,TN.sub (fun b _ e=>⟨by omega,fun e2=>by have:=h.rn.lt _ e2;omega⟩) _ _ (TN.kp k8 (fun b e e2=>by omega) _ _ hn),fS b6 _ _ _⟩
theorem A5 (w0:World) (g p:Nat) (e:Ev) (r:List Ev) (h1:e.k=1) (hlen:(e :: r).length<=1000000000) (IH:∀l:List Ev,l.length<(e :: r).length->l≠[]->wE w0 g p l):wE w0 g p (e :: r):=by
 intro a ao cap W ha h3 hI;obtain ⟨b,off,ao2,cap2,rfl,hbl,⟨c0,c1,c2,c3,c4,c5,c6,c7⟩,hsl,hc2,hm2,hle2⟩:=hI.le.tail (cap:=cap) (by have:=hI.lc;simpa using this) hI.cm;have HI:Hid (RS w0 g p (e :: r) (some ⟨b,off,none⟩) cap W):=hI;have tr:∀i u,w0.cell? ⟨b,i,none⟩=some u->W.cell? ⟨b,i,none⟩=some u:=fun i u hu=>(QS (a:=⟨b,i,none⟩) (hI.bel.block b hbl)).trans hu
 replace c0:=tr _ _ c0;replace c1:=tr _ _ c1;replace c2:=tr _ _ c2;replace c3:=tr _ _ c3;replace c4:=tr _ _ c4;replace c5:=tr _ _ c5;replace c6:=tr _ _ c6;replace c7:=tr _ _ c7;have hbW:b<W.heap.size:=QP _ _ c0;have hgW:g<W.heap.size:=aq hI.hg;have hpW:p<W.heap.size:=aq hI.hp;have hcg:W.cell? ⟨g,0,none⟩=some (.slice (some ⟨b,off,none⟩) (r.length+1) cap):=af hI.hg rfl;have hfg:W.frozen? ⟨g,0,none⟩=false:=am hI.hg;have hbg:b≠g:=fun e=>by have:=hI.g0;omega
 obtain ⟨⟨ek,en,ed⟩,he⟩:∃x,e=x:=⟨_,rfl⟩;subst he
 dsimp only at *
 subst h1;have HIH:Hid (∀l:List Ev,l.length<((⟨1,en,ed⟩:Ev) :: r).length->l≠[]->wE w0 g p l):=IH;have HTk:Hid (∀V,Ra 70 #[dY en aB (.slice none 0 0)] V fun r w'=>r=.returned (.bool (en == 0))/\Rc V w'):=fun V=>jk en aB none 0 0 V
 obtain ⟨W2,eW2⟩:∃W2,(((W.setCell ⟨g,0,none⟩ (.slice ao2 r.length cap2)).alloc (bv 0 aB (.slice none 0 0))).alloc (CC 1 en ed)).alloc (bv en aB (.slice none 0 0))=W2:=⟨_,rfl⟩
 have H2:Hid (RL w0 W g p en r ao2 cap2 [] (.slice none 0 0) [] W2):=by
  rw [<-eW2];refine DI (uD hI hle2 hc2 hm2 1 en ed) ?_ hgW hpW en;rw [gk,gk];show (W.heap.modify g _).size+1+1=_;rw [Ss]
 clear hI tr IH
 go_enter Tryz.func156,Tryz.ntmps156
 go_upto_region 6 with fail
 dsimp only [bv,CC,aB] at eW2
 rw [eW2];obtain ⟨⟨n0,n1,n2,n3,n4,n5,n6,n7⟩,nl⟩:=aD H2.out.nb;clear eW2 c0 c1 c2 c3 c4 c5 c6 c7 hcg hfg hsl
 dsimp only [aB] at n1 n2 n3 n4 n5 n6 HTk
 go_cut [8] from 30 to 36 (fun t wx=>∃good:Bool,t=.bool good/\Hid (O5 w0 W g p a (⟨1,en,ed⟩ :: r) en good wx))
 case first=>
  by_cases hz:en=0
  ·subst hz
   go_wp2_with (go_at_call 70;refine (HTk.out _).mono ?_;rintro x w3 ⟨rfl,hb3⟩;have H3:Hid (O5 w0 W g p a (⟨1,0,ed⟩ :: r) 0 false w3):=⟨r,ao2,cap2,[],_,[],H2.out.below hb3,by simp,by simp only [Q8,R8];exact uR rfl (.inl rfl)⟩;clear hb3)
   go_meet
   exact ⟨false,rfl,H3⟩
  ·have hzb:(en == 0)=false:=by simpa using hz
   rw [hzb] at HTk
   by_cases hz2:a<1000
   ·have hz3:(a:Int)<1000:=by omega
    go_wp2_with (go_at_call 70;refine (HTk.out _).mono ?_;rintro x w3 ⟨rfl,hb3⟩;have H3:Hid (O5 w0 W g p a (⟨1,en,ed⟩ :: r) en true w3):=⟨r,ao2,cap2,[],_,[],H2.out.below hb3,by simp,by simp only [Td];exact ⟨D9 rfl (fun h=>h.elim hz (fun h=>by omega)),hz,hz2⟩⟩;clear hb3)
    go_meet
    exact ⟨true,by first|rfl|simp [hz3],H3⟩
   ·have hz3:¬((a:Int)<1000):=by omega
    go_wp2_with (go_at_call 70;refine (HTk.out _).mono ?_;rintro x w3 ⟨rfl,hb3⟩;have H3:Hid (O5 w0 W g p a (⟨1,en,ed⟩ :: r) en false w3):=⟨r,ao2,cap2,[],_,[],H2.out.below hb3,by simp,by simp only [Q8,R8];exact uR rfl (.inr (by omega))⟩;clear hb3)
    go_meet
    exact ⟨false,by first|rfl|simp [hz3],H3⟩
 case rest=>
  obtain ⟨good0,rfl,H3⟩:=hcut;clear H2 n0 n1 n2 n3 n4 n5 n6 n7 nl HTk
  go_wp2_with fail
  go_loopw [8] (fun gv wr=>∃good:Bool,gv=.bool good/\Hid (O5 w0 W g p a (⟨1,en,ed⟩ :: r) en good wr)) (fun _ wr=>zx wr g)
  case atStart=>exact ⟨good0,rfl,H3⟩
  case round=>
   obtain ⟨good,rfl,HJ⟩:=hrel;obtain ⟨r3,ao3,cap3,c3,sv3,vs3,hL,hc,hg⟩:=HJ.out.ex;have HL:=ai hL;have hlen3:=hL.len;obtain ⟨⟨y0,y1,y2,y3,y4,y5,y6,y7⟩,yl⟩:=aD hL.rb;obtain ⟨f0,f1,f2,f3,f4,f5,f6,f7⟩:=bC hL.rb;have zg:wr.cell? ⟨g,0,none⟩=some (.slice ao3 r3.length cap3):=af hL.rs.hg rfl;have zf:wr.frozen? ⟨g,0,none⟩=false:=am hL.rs.hg;have zgl:g<wr.heap.size:=aq hL.rs.hg;have zn:wr.cell? ⟨W.heap.size+1+1,0,none⟩=some (.int .u8 en):=af hL.nb rfl;have znl:W.heap.size+1+1<wr.heap.size:=aq hL.nb
   have HR:Hid (∀V wz,Rc wr V->aH V W.heap.size 0 aB (.slice none 0 0)=wz->GS a (⟨1,en,ed⟩ :: r)->O0 w0 g p a (⟨1,en,ed⟩ :: r) W (.returned (.tuple #[dY 0 aB (.slice none 0 0),.bool false])) wz/\wz.heap[W.heap.size]?=some (bv 0 aB (.slice none 0 0))):=fun V wz hb e hbad=>by
    subst e;obtain ⟨a1,a2,a3,a4⟩:=(hL.below hb).out 0 aB (.slice none 0 0);exact ⟨⟨.mk 0 aB [],_,false,r3,ao3,cap3,rfl,a1,a2,by simp at hc ⊢;omega,lk _ _ _ _,by simp only [Q8,R8];exact hbad⟩,a3⟩
   clear HJ;cases good with
   |false=>
    simp only [Q8,R8] at hg;have Hg:=ai hg;clear hg hL
    go_wp2_with fail
    go_quiet (fail)
    go_wp2_with fail
    obtain ⟨wz,ez⟩:∃wz,aH (wr.drewN nq) W.heap.size 0 aB (.slice none 0 0)=wz:=⟨_,rfl⟩;obtain ⟨hz1,hz2⟩:=HR.out _ wz (dL (hH _ _) nq) ez Hg.out
    dsimp only [aH,aB] at ez
    rw [ez];obtain ⟨⟨x0,x1,x2,x3,x4,x5,x6,x7⟩,xl⟩:=aD hz2;refine QV (v:=.tuple #[dY 0 aB (.slice none 0 0),.bool false]) (by simp [results,Tryz.f156,go_sem,x0,x1,x2,x3,x4,x5,x6,x7]) rfl ?_;exact hz1
   |true=>
    simp only [Td] at hg;have Hg:=ai hg;clear hg;cases r3 with
    |nil=>
     clear hL
     go_wp2_with fail
     go_quiet (fail)
     go_wp2_with fail
     obtain ⟨wz,ez⟩:∃wz,aH (wr.drewN nq) W.heap.size 0 aB (.slice none 0 0)=wz:=⟨_,rfl⟩;obtain ⟨hz1,hz2⟩:=HR.out _ wz (dL (hH _ _) nq) ez Hg.out.1.nil
     dsimp only [aH,aB] at ez
     rw [ez];obtain ⟨⟨x0,x1,x2,x3,x4,x5,x6,x7⟩,xl⟩:=aD hz2;refine QV (v:=.tuple #[dY 0 aB (.slice none 0 0),.bool false]) (by simp [results,Tryz.f156,go_sem,x0,x1,x2,x3,x4,x5,x6,x7]) rfl ?_;exact hz1
    |cons e3 r4=>
     obtain ⟨b3,off3,ao4,cap4,rfl,hbl3,⟨k0,k1,k2,k3,k4,k5,k6,k7⟩,hsl3,hc3,hm3,hle3⟩:=hL.rs.le.tail (cap:=cap3) (by have:=hL.rs.lc;simpa using this) hL.rs.cm;have tr3:∀i u,w0.cell? ⟨b3,i,none⟩=some u->wr.cell? ⟨b3,i,none⟩=some u:=fun i u hu=>(QS (a:=⟨b3,i,none⟩) (hL.rs.bel.block b3 hbl3)).trans hu
     replace k0:=tr3 _ _ k0;replace k1:=tr3 _ _ k1;have hb3W:b3<wr.heap.size:=QP _ _ k0;have hl4:(0:Int)<(r4.length:Int)+1:=by omega
     have hl5:¬((r4.length:Int)+1=0):=by omega
     have zg':wr.cell? ⟨g,0,none⟩=some (.slice (some ⟨b3,off3,none⟩) (r4.length+1) cap3):=zg;clear tr3 k2 k3 k4 k5 k6 k7 zg
     by_cases h33:e3.k=3
     ·have h33b:(e3.k != 3)=false:=by simpa using h33
      by_cases hnn:e3.n=en
      ·have hnnb:(e3.n != en)=false:=by simpa using hnn
       have hnnb2:(e3.n == en)=true:=by simpa using hnn
       obtain ⟨ps,cs,hsv,_⟩:=hL.rn.shape;subst hsv;obtain ⟨⟨m0,m1,m2,m3,m4,m5,m6,m7⟩,ml⟩:=aD hL.nb
       dsimp only [aB] at m1 m2 m3 m4 m5 m6
       have HS:Hid (∀V wz,Rc wr V->aH (V.setCell ⟨g,0,none⟩ (.slice ao4 r4.length cap4)) W.heap.size en aB (.slice ps c3.length cs)=wz->O0 w0 g p a (⟨1,en,ed⟩ :: r) W (.returned (.tuple #[dY en aB (.slice ps c3.length cs),.bool true])) wz/\wz.heap[W.heap.size]?=some (bv en aB (.slice ps c3.length cs))):=fun V wz hb e=>by
        subst e;have h1:=hL.below hb;obtain ⟨a1,a2,a3,a4⟩:=(h1.call (Kp.set _ _ _ _) (h1.rs.set hle3 hc3 hm3)).out en aB (.slice ps c3.length cs);exact ⟨⟨.mk en aB c3,_,true,r4,ao4,cap4,rfl,a1,a2,by simp at hc ⊢;omega,a4,by simp only [Td];exact Hg.out.1.shut h33 hnn Hg.out.2.1⟩,a3⟩
       have hgn:g≠W.heap.size:=by omega
       have hgn2:g≠W.heap.size+1+1:=by omega
       clear hL
       go_wp2_with fail
       go_quiet (fail)
       go_wp2_with fail
       obtain ⟨wz,ez⟩:∃wz,aH ((wr.drewN nq).setCell ⟨g,0,none⟩ (.slice ao4 r4.length cap4)) W.heap.size en aB (.slice ps c3.length cs)=wz:=⟨_,rfl⟩;obtain ⟨hz1,hz2⟩:=HS.out _ wz (dL (hH _ _) nq) ez
       dsimp only [aH,aB] at ez
       rw [ez];obtain ⟨⟨x0,x1,x2,x3,x4,x5,x6,x7⟩,xl⟩:=aD hz2;refine QV (v:=.tuple #[dY en aB (.slice ps c3.length cs),.bool true]) (by simp [results,Tryz.f156,go_sem,x0,x1,x2,x3,x4,x5,x6,x7]) rfl ?_;exact hz1
      ·have hnnb:(e3.n != en)=true:=by simpa using hnn
       clear hL
       go_wp2_with fail
       go_quiet (fail)
       go_wp2_with fail
       obtain ⟨wz,ez⟩:∃wz,aH (wr.drewN nq) W.heap.size 0 aB (.slice none 0 0)=wz:=⟨_,rfl⟩;obtain ⟨hz1,hz2⟩:=HR.out _ wz (dL (hH _ _) nq) ez (Hg.out.1.other h33 hnn)
       dsimp only [aH,aB] at ez
       rw [ez];obtain ⟨⟨x0,x1,x2,x3,x4,x5,x6,x7⟩,xl⟩:=aD hz2;refine QV (v:=.tuple #[dY 0 aB (.slice none 0 0),.bool false]) (by simp [results,Tryz.f156,go_sem,x0,x1,x2,x3,x4,x5,x6,x7]) rfl ?_;exact hz1
     ·have h33b:(e3.k != 3)=true:=by simpa using h33
      obtain ⟨ps,cs,hsv,_⟩:=hL.rn.shape;subst hsv;have yp:wr.cell? ⟨p,0,none⟩=some (mn g p):=af hL.rs.hp rfl;have ypl:p<wr.heap.size:=aq hL.rs.hp;have HC:Hid (Ra 156 #[.int .i64 ((a:Int)+1),.pointer (some ⟨g,0,none⟩),.pointer (some ⟨p,0,none⟩)] (wr.alloc (bv 0 aB (.slice none 0 0))) (O0 w0 g p (a+1) (e3 :: r4) (wr.alloc (bv 0 aB (.slice none 0 0))))):=HIH.out (e3 :: r4) (by simp at hc ⊢;omega) (by simp) (a+1) _ _ _ (by have:=Hg.out.2.2;omega) (fun e' r' he hk=>by cases he;exact absurd hk h33) (hL.rs.below (aO _ _));have haI:(a:Int)<1000:=by have:=Hg.out.2.2;omega
      have hcc:c3.length<=1000000000:=by simp at hc hlen;omega
      clear hL
      go_wp2_with fail
      refine HC.out.mono ?_;rintro x w6 ⟨n6,sv6,ok6,r6,ao6,cap6,rfl,rs6,kp6,hl6,tn6,hok6⟩
      obtain ⟨p6,m6,c6,hsv6⟩:∃p6 m6 c6,sv6=.slice p6 m6 c6:=by
       obtain ⟨nk,ndd,ncc⟩:=n6;rw [TN] at tn6;obtain ⟨vs6,hrn6,_⟩:=tn6;obtain ⟨pp,cp,e,_⟩:=hrn6.shape;exact ⟨pp,_,cp,e⟩
      subst hsv6;have K6:=HL.out.kid kp6 rs6 tn6;have H6:=ai K6;have b6:w6.heap[wr.heap.size]?=some (bv 0 aB (.slice none 0 0)):=kp6.blk (au _ _) (by omega);obtain ⟨⟨t0,t1,t2,t3,t4,t5,t6,t7⟩,tl⟩:=aD b6;obtain ⟨u0,u1,u2,u3,u4,u5,u6,u7⟩:=bC b6;have Hok:=ai hok6;clear K6 b6 hok6 rs6 kp6 tn6
      go_upto_region 10 with fail
      obtain ⟨w7,e7⟩:∃w7,aH w6 wr.heap.size n6.k n6.d (.slice p6 m6 c6)=w7:=⟨_,rfl⟩;rw [e7] at H6
      dsimp only [aH] at e7
      rw [e7];obtain ⟨⟨i0,i1,i2,i3,i4,i5,i6,i7⟩,il⟩:=aD H6.out.2.2;have j7:w7.cell? ⟨W.heap.size+1+1,7,none⟩=some (.slice ps c3.length cs):=af H6.out.1.nb rfl;have jl:W.heap.size+1+1<w7.heap.size:=aq H6.out.1.nb;have HRn:Hid (∀V,Rc w7 V->RN V (.slice ps c3.length cs) c3 vs3):=fun V hb=>(H6.out.1.below hb).rn
      clear e7 t0 t1 t2 t3 t4 t5 t6 t7 tl u0 u1 u2 u3 u4 u5 u6 u7 HC k0 k1 zg' zf zgl zn znl y0 y1 y2 y3 y4 y5 y6 y7 yl f0 f1 f2 f3 f4 f5 f6 f7 yp ypl hsl3 hb3W;have HD:Hid (∀r6':List Ev,r6'=r6->zx wr g=(e3 :: r4).length/\r6'.length<(e3 :: r4).length):=fun r6' e=>by subst e;exact ⟨hlen3,hl6⟩
      go_wp2_with (at_builtin;refine Nn (by rfl) _ _ (by rfl) (.slice ps c3.length cs) c3 vs3 n6 p6 m6 c6 (by rfl) (HRn.out _ (aO _ _)) w7.heap.size 1 (by rfl) (au _ _) hcc ?_;intro v8 w8 h1 h2 h3;obtain ⟨p8,c8,hv8,_⟩:=h1.shape;obtain ⟨l8,hl8⟩:∃l8,(c3++[n6]).length=l8:=⟨_,rfl⟩;rw [hl8] at hv8;subst hv8;obtain ⟨⟨x1,x2,x3⟩,x4⟩:=H6.out.1.push (aO _ _) H6.out.2.1 h1 h2 h3;have H8:Hid (RL w0 W g p en r6 ao6 cap6 (c3++[n6]) (.slice p8 l8 c8) (vs3++[.slice p6 m6 c6]) (w8.setCell ⟨W.heap.size+1+1,7,none⟩ (.slice p8 l8 c8))):=x4;clear x4 h1 h2 h3 hl8)
      refine ⟨⟨ok6,rfl,⟨r6,ao6,cap6,c3++[n6],_,_,H8.out,?_,?_⟩⟩,?_⟩
      ·simp at hc hl6 ⊢;omega
      ·cases ok6
       ·have:=Hok.out;simp only [Q8,R8] at this ⊢;exact Hg.out.1.bad this
       ·have:=Hok.out;simp only [Td] at this ⊢;exact ⟨Hg.out.1.kid this,Hg.out.2⟩
      ·have h9:=H8.out.len;obtain ⟨d1,d2⟩:=HD.out r6 rfl
       first
        | (rw [h9,d1];exact d2)
        | (simp only [Array.getD];rw [h9,d1];exact d2)
theorem oM (w0:World) (g p:Nat) (l:List Ev) (hl:l≠[]) (hlen:l.length<=1000000000):wE w0 g p l:=by
 obtain ⟨s,hs⟩:∃s,l.length=s:=⟨_,rfl⟩
 induction s using Nat.strongRecOn generalizing l with
 |ind s ih=>
  cases l with
  |nil=>exact absurd rfl hl
  |cons e r=>
   by_cases h1:e.k=1
   ·exact A5 w0 g p e r h1 hlen (fun l' h' hn'=>ih l'.length (by omega) l' hn' (by omega) rfl)
   ·exact A6 w0 g p e r h1
def bo (l:List Ev):bO × Int:=match fZ l [] with
 |some n=>(n,0)
 |none=>(.mk 0 aB [],130)
def Po (l:List Ev) (W:World) (x:Ending) (w':World):Prop:=∃sv,x=.returned (.tuple #[dY (bo l).1.k (bo l).1.d sv,.int .i64 (bo l).2])/\TN (fun k=>W.heap.size<=k) w' (bo l).1 sv/\Below W.heap.size W w'
theorem DC (h:Le W ao l) (h1:l.length<=cap) (h2:cap<=maxLen) (o:Obj):RS W (W.heap.size+1) (W.heap.size+1+1) l ao cap (((W.alloc o).alloc (.cells #[.slice ao l.length cap] 90)).alloc (.cells #[mn (W.heap.size+1) (W.heap.size+1+1)] 244)):=by
 have e1:=gk W o;have e2:=gk (W.alloc o) (.cells #[.slice ao l.length cap] 90);have b1:=aO W o;have b2:=aO (W.alloc o) (.cells #[.slice ao l.length cap] 90);have b3:=aO ((W.alloc o).alloc (.cells #[.slice ao l.length cap] 90)) (.cells #[mn (W.heap.size+1) (W.heap.size+1+1)] 244);refine ⟨(b1.trans (b2.mono b1.size)).trans (b3.mono (by omega)),?_,?_,h,h1,h2,by omega,by omega⟩
 ·refine aI ?_ _;rw [<-e1];exact au _ _
 ·rw [<-e1,<-e2];exact au _ _
theorem Ck (l:List Ev) (W:World) (ao:Option Addr) (cap:Nat) (h:Le W ao l) (h1:l.length<=cap) (h2:cap<=maxLen) (hlen:l.length<=1000000000):Ra 112 #[.slice ao l.length cap] W (Po l W):=by
 have hmf:=mkfn;obtain ⟨V3,eV⟩:∃V3,((W.alloc (bv 0 aB (.slice none 0 0))).alloc (.cells #[.slice ao l.length cap] 90)).alloc (.cells #[mn (W.heap.size+1) (W.heap.size+1+1)] 244)=V3:=⟨_,rfl⟩
 have H3:Hid (RS W (W.heap.size+1) (W.heap.size+1+1) l ao cap V3/\V3.heap[W.heap.size]?=some (bv 0 aB (.slice none 0 0))):=by
  rw [<-eV];exact ⟨DC h h1 h2 _,aI (aI (au _ _) _) _⟩
 have HO:Hid (∀V wz k d s,Rc W V->V.heap[W.heap.size]?=some (bv 0 aB (.slice none 0 0))->aH V W.heap.size k d s=wz->Rc W wz/\wz.heap[W.heap.size]?=some (bv k d s)):=fun V wz k d s hb hr e=>by
  subst e;exact ⟨Kp.low hb (ep _ _ _ _ _) (fun j e=>by omega) hb.size,fS hr _ _ _⟩
 cases l with
 |nil=>
  have e:bo []=(.mk 0 aB [],130):=rfl;have hX:∀wz,Below W.heap.size W wz->Po [] W (.returned (.tuple #[dY 0 aB (.slice none 0 0),.int .i64 130])) wz:=fun wz hb=>⟨.slice none 0 0,rfl,lk _ _ _ _,hb⟩
  have HX:=ai hX;obtain ⟨⟨y0,y1,y2,y3,y4,y5,y6,y7⟩,yl⟩:=aD H3.out.2;obtain ⟨f0,f1,f2,f3,f4,f5,f6,f7⟩:=bC H3.out.2;clear hX e h h1 h2
  dsimp only [bv,aB,mn,List.length_nil] at eV
  go_enter Tryz.func112,Tryz.ntmps112
  go_upto_region 5 with fail
  try rw [eV]
  clear eV
  go_wp2_with fail
  obtain ⟨wz,ez⟩:∃wz,aH V3 W.heap.size 0 aB (.slice none 0 0)=wz:=⟨_,rfl⟩;obtain ⟨hz1,hz2⟩:=HO.out _ wz _ _ _ H3.out.1.bel H3.out.2 ez
  dsimp only [aH,aB] at ez
  rw [ez];obtain ⟨⟨x0,x1,x2,x3,x4,x5,x6,x7⟩,xl⟩:=aD hz2;refine QV (v:=.tuple #[dY 0 aB (.slice none 0 0),.int .i64 130]) (by simp [results,Tryz.f112,go_sem,x0,x1,x2,x3,x4,x5,x6,x7]) rfl ?_;exact HX.out _ hz1
 |cons e r=>
  have HC:Hid (Ra 156 #[.int .i64 0,.pointer (some ⟨W.heap.size+1,0,none⟩),.pointer (some ⟨W.heap.size+1+1,0,none⟩)] V3 (O0 W (W.heap.size+1) (W.heap.size+1+1) 0 (e :: r) V3)):=oM W _ _ (e :: r) (by simp) hlen 0 ao cap V3 (by omega) (fun _ _ _ _=>rfl) H3.out.1;have hl5:¬((r.length:Int)+1=0):=by omega
  have hl6:((r.length:Int)+1 == 0)=false:=by simpa using hl5
  have hpc:V3.cell? ⟨W.heap.size+1+1,0,none⟩=some (mn (W.heap.size+1) (W.heap.size+1+1)):=af H3.out.1.hp rfl;have hpl:=aq H3.out.1.hp;clear h h1 h2
  dsimp only [bv,aB,mn,List.length_cons] at eV
  go_enter Tryz.func112,Tryz.ntmps112
  go_upto_region 6 with fail
  try rw [eV]
  clear eV
  go_wp2_with fail
  refine HC.out.mono ?_;rintro x w6 ⟨n6,sv6,ok6,r6,ao6,cap6,rfl,rs6,kp6,hl6',tn6,hok6⟩
  obtain ⟨p6,m6,c6,hsv6⟩:∃p6 m6 c6,sv6=.slice p6 m6 c6:=by
   obtain ⟨nk,ndd,ncc⟩:=n6;rw [TN] at tn6;obtain ⟨vs6,hrn6,_⟩:=tn6;obtain ⟨pp,cp,e,_⟩:=hrn6.shape;exact ⟨pp,_,cp,e⟩
  subst hsv6;have HTk:Hid (∀V,Ra 70 #[dY n6.k n6.d (.slice p6 m6 c6)] V fun r w'=>r=.returned (.bool (n6.k == 0))/\Rc V w'):=fun V=>jk n6.k n6.d p6 m6 c6 V
  have r6b:w6.heap[W.heap.size]?=some (bv 0 aB (.slice none 0 0)):=kp6.blk H3.out.2 (by omega);have H6:Hid (RS W (W.heap.size+1) (W.heap.size+1+1) r6 ao6 cap6 w6/\w6.heap[W.heap.size]?=some (bv 0 aB (.slice none 0 0))/\TN (fun k=>V3.heap.size<=k) w6 n6 (.slice p6 m6 c6)):=⟨rs6,r6b,tn6⟩;have hV3:W.heap.size<V3.heap.size:=aq H3.out.2
  have Hok:Hid (fZ (e :: r) []=if ok6 then tR r6 n6 [] else none):=by
   cases ok6
   ·exact hok6 [] rfl
   ·exact hok6 [] rfl
  clear hok6 rs6 kp6 tn6 r6b
  have HBAD:Hid (fZ (e :: r) []=none->∀V wz,Rc w6 V->aH V W.heap.size 0 aB (.slice none 0 0)=wz->Po (e :: r) W (.returned (.tuple #[dY 0 aB (.slice none 0 0),.int .i64 130])) wz/\wz.heap[W.heap.size]?=some (bv 0 aB (.slice none 0 0))):=fun hb V wz hbl ez=>by
   obtain ⟨hz1,hz2⟩:=HO.out V wz _ _ _ (H6.out.1.bel.trans (hbl.mono H6.out.1.bel.size)) (ag H6.out.2.1 hbl) ez;have e:bo (e :: r)=(.mk 0 aB [],130):=by unfold bo;rw [hb]
   refine ⟨⟨.slice none 0 0,?_,?_,hz1⟩,hz2⟩
   ·rw [e];rfl
   ·rw [e];exact lk _ _ _ _
  have HGOOD:Hid (fZ (e :: r) []=some n6->∀V wz,Rc w6 V->aH V W.heap.size n6.k n6.d (.slice p6 m6 c6)=wz->Po (e :: r) W (.returned (.tuple #[dY n6.k n6.d (.slice p6 m6 c6),.int .i64 0])) wz/\wz.heap[W.heap.size]?=some (bv n6.k n6.d (.slice p6 m6 c6))):=fun hb V wz hbl ez=>by
   obtain ⟨hz1,hz2⟩:=HO.out V wz _ _ _ (H6.out.1.bel.trans (hbl.mono H6.out.1.bel.size)) (ag H6.out.2.1 hbl) ez;have e:bo (e :: r)=(n6,0):=by unfold bo;rw [hb]
   refine ⟨⟨.slice p6 m6 c6,?_,?_,hz1⟩,hz2⟩
   ·rw [e]
   ·rw [e,<-ez];exact TN.sub (fun b _ h=>by omega) _ _ (TN.kp (ep _ _ _ _ _) (fun b h1 h2=>by omega) _ _ (TN.kp (Kp.of_below (S:=fun _=>False) hbl) (fun _ _ h=>h) _ _ H6.out.2.2))
  obtain ⟨W7,eW7⟩:∃W7,w6.alloc (bv n6.k n6.d (.slice p6 m6 c6))=W7:=⟨_,rfl⟩;have H7:Hid (Rc w6 W7/\W7.heap[w6.heap.size]?=some (bv n6.k n6.d (.slice p6 m6 c6))):=by rw [<-eW7];exact ⟨aO _ _,au _ _⟩
  go_upto_region 7 with fail
  try rw [eW7]
  clear eW7;have HRb:Hid (∀V,Rc w6 V->V.heap[W.heap.size]?=some (bv 0 aB (.slice none 0 0))/\V.cell? ⟨W.heap.size+1,0,none⟩=some (.slice ao6 r6.length cap6)/\W.heap.size+1<V.heap.size):=fun V hb=>⟨ag H6.out.2.1 hb,af (ag H6.out.1.hg hb) rfl,aq (ag H6.out.1.hg hb)⟩
  obtain ⟨⟨i0,i1,i2,i3,i4,i5,i6,i7⟩,il⟩:=aD H7.out.2;cases ok6 with
  |false=>
   obtain ⟨q1,q2,q3⟩:=HRb.out W7 H7.out.1;obtain ⟨⟨y0,y1,y2,y3,y4,y5,y6,y7⟩,yl⟩:=aD q1;obtain ⟨f0,f1,f2,f3,f4,f5,f6,f7⟩:=bC q1;have HE:Hid (fZ (e :: r) []=none):=by have:=Hok.out;unfold Hid;simpa using this
   clear q1 HC
   go_wp2_with fail
   obtain ⟨wz,ez⟩:∃wz,aH W7 W.heap.size 0 aB (.slice none 0 0)=wz:=⟨_,rfl⟩;obtain ⟨hz1,hz2⟩:=HBAD.out HE.out _ wz H7.out.1 ez
   dsimp only [aH,aB] at ez
   rw [ez];obtain ⟨⟨x0,x1,x2,x3,x4,x5,x6,x7⟩,xl⟩:=aD hz2;refine QV (v:=.tuple #[dY 0 aB (.slice none 0 0),.int .i64 130]) (by simp [results,Tryz.f112,go_sem,x0,x1,x2,x3,x4,x5,x6,x7]) rfl ?_;exact hz1
  |true=>
   by_cases hk0:n6.k=0
   ·have hkb:(n6.k == 0)=true:=by simpa using hk0
    rw [hkb] at HTk;have HE:Hid (fZ (e :: r) []=none):=by have:=Hok.out;unfold Hid;simpa [tR,hk0] using this
    clear hkb hk0
    go_wp2_with fail
    refine (HTk.out _).mono ?_;rintro x w8 ⟨rfl,hb8⟩;have H8:Hid (Rc w6 w8):=H7.out.1.trans (hb8.mono H7.out.1.size);obtain ⟨q1,q2,q3⟩:=HRb.out w8 H8.out;obtain ⟨⟨y0,y1,y2,y3,y4,y5,y6,y7⟩,yl⟩:=aD q1;obtain ⟨f0,f1,f2,f3,f4,f5,f6,f7⟩:=bC q1;clear q1 HC hb8
    go_wp2_with fail
    obtain ⟨wz,ez⟩:∃wz,aH w8 W.heap.size 0 aB (.slice none 0 0)=wz:=⟨_,rfl⟩;obtain ⟨hz1,hz2⟩:=HBAD.out HE.out _ wz H8.out ez
    dsimp only [aH,aB] at ez
    rw [ez];obtain ⟨⟨x0,x1,x2,x3,x4,x5,x6,x7⟩,xl⟩:=aD hz2;refine QV (v:=.tuple #[dY 0 aB (.slice none 0 0),.int .i64 130]) (by simp [results,Tryz.f112,go_sem,x0,x1,x2,x3,x4,x5,x6,x7]) rfl ?_;exact hz1
   ·have hkb:(n6.k == 0)=false:=by simpa using hk0
    rw [hkb] at HTk;have HE:Hid (fZ (e :: r) []=if r6=[] then some n6 else none):=by have:=Hok.out;unfold Hid;simpa [tR,hk0] using this
    clear hkb hk0
    go_wp2_with fail
    refine (HTk.out _).mono ?_;rintro x w8 ⟨rfl,hb8⟩;have H8:Hid (Rc w6 w8):=H7.out.1.trans (hb8.mono H7.out.1.size);obtain ⟨q1,q2,q3⟩:=HRb.out w8 H8.out;obtain ⟨⟨y0,y1,y2,y3,y4,y5,y6,y7⟩,yl⟩:=aD q1;obtain ⟨f0,f1,f2,f3,f4,f5,f6,f7⟩:=bC q1;have q4:=ag H7.out.2 hb8;obtain ⟨⟨j0,j1,j2,j3,j4,j5,j6,j7⟩,jl⟩:=aD q4;clear q1 q4 HC hb8;cases r6 with
    |nil=>
     have q2':w8.cell? ⟨W.heap.size+1,0,none⟩=some (.slice ao6 0 cap6):=q2;clear q2
     go_wp2_with fail
     obtain ⟨wz,ez⟩:∃wz,aH w8 W.heap.size n6.k n6.d (.slice p6 m6 c6)=wz:=⟨_,rfl⟩;obtain ⟨hz1,hz2⟩:=HGOOD.out (by have:=HE.out;simpa using this) _ wz H8.out ez
     dsimp only [aH] at ez
     rw [ez];obtain ⟨⟨x0,x1,x2,x3,x4,x5,x6,x7⟩,xl⟩:=aD hz2;refine QV (v:=.tuple #[dY n6.k n6.d (.slice p6 m6 c6),.int .i64 0]) (by simp [results,Tryz.f112,go_sem,x0,x1,x2,x3,x4,x5,x6,x7]) rfl ?_;exact hz1
    |cons e7 r7=>
     have q2':w8.cell? ⟨W.heap.size+1,0,none⟩=some (.slice ao6 (r7.length+1) cap6):=q2;have hl7:(0:Int)<(r7.length:Int)+1:=by omega
     clear q2
     go_wp2_with fail
     obtain ⟨wz,ez⟩:∃wz,aH w8 W.heap.size 0 aB (.slice none 0 0)=wz:=⟨_,rfl⟩;obtain ⟨hz1,hz2⟩:=HBAD.out (by have:=HE.out;simpa using this) _ wz H8.out ez
     dsimp only [aH,aB] at ez
     rw [ez];obtain ⟨⟨x0,x1,x2,x3,x4,x5,x6,x7⟩,xl⟩:=aD hz2;refine QV (v:=.tuple #[dY 0 aB (.slice none 0 0),.int .i64 130]) (by simp [results,Tryz.f112,go_sem,x0,x1,x2,x3,x4,x5,x6,x7]) rfl ?_;exact hz1
end Go.Proofs.YtjiepkenkcgkhaaGreatDoor
