import Derived.Defers
import Derived.Recover
import Derived.Laws.Pointers
import Derived.Test.YthfjlkfeeglfmaaGreatDoorM29
import Derived.Test.YthfjlkfeeglfmaaGreatDoorM31
set_option linter.all false
set_option maxHeartbeats 2000000
set_option maxRecDepth 100000
namespace Go.Proofs.YthfjlkfeeglfmaaGreatDoor
open Go.Proofs.Tryz
open Go.RowKit
variable {ao ao':Option Addr}{cap g p b cap':Nat}{W w0 V V' w:World}{r l r':List Ev}{k ek en k0:Int}{sv s0 s x:Value}{vs:List Value}{d ed d0:Tv}
def Tryz.info52:(Tryz.prog.info? 52).map (λi=>(i.zero,i.size,i.bytes))=some (some (.agg #[.int .u8 0,.int .u8 0,.string ⟨#[]⟩,Tu 0,Tu 0,Tu 0,Tu 0,.slice none 0 0]),8,88):=by kernel_rfl
def OB {H:Array Oper}{rest:List Oper}{o:Oper}{a:Act}{Q:Exit->Act->World->Prop}(O:o.guard=none) (s x:Operand)
  (ho:o.op=.call { callee:=.builtin .append,args:=#[s,x],argTypes:=#[50,50] }) (v:Value) (c:List bF) (vs:List Value) (n:bF) (p:Option Addr) (m J:Nat) (hs:a.eval s=v) (M:RN W v c vs)
  (g c1:Nat) (hx:a.eval x=.slice (some (Tw g 0)) 1 c1) (hg:W.heap[g]?=some (bj n.k n.d (.slice p m J))) (hl:c.length<=1000000000)
  (h:∀v' w',RN w' v' (c++[n]) (vs++[.slice p m J])->W.grownBy w' v.ownBlock->Nb W v v'->wpList Tryz.prog H Q rest (a.put o.dst v') w'):wpList Tryz.prog H Q (o :: rest) a W:=by
 obtain⟨i0,hi,S,Y,Z⟩:=Tf Tryz.info52;refine Th (P:=Tryz.prog) (w:=W) O s x 50 ho 0 52 i0 _ 8 88 underlying50 hi S Y Z rfl (by decide) v _ _ hs M.2 (Tw g 0) 1 c1 (nc n (.slice p m J)) hx rfl ?_ ?_ (by unfold maxLen;omega) (by omega) (RU _) ?_
 ·intro j u I;refine Ta hg j u ?_
  simpa[nc]using I
 ·intro u I;simp only[nc,Sm,Uu,W4]at I
  rcases I with rfl|rfl|rfl|rfl|rfl|rfl|rfl|rfl<;>rfl
 ·intro v' w' h1 h2 _ G;refine h v' w' ⟨by simp[M.1],?_⟩ h2 ?_
  ·rw[IO,F2 c vs M.1];exact h1
  ·rcases G with G|G
   ·exact .inl G
   ·exact .inr ⟨_,G,ge _⟩
abbrev my (g p:Nat):Value:=.func (.func 205) #[] #[.pointer (some ⟨g,0,none⟩),.pointer (some ⟨p,0,none⟩)]
structure RS (w0:World) (g p:Nat) (l:List Ev) (ao:Option Addr) (cap:Nat) (V:World):Prop where
 bel:Below w0.heap.size w0 V
 hg:V.heap[g]?=some (.cells #[.slice ao l.length cap] 100 (0,0))
 hp:V.heap[p]?=some (.cells #[my g p] 281 (0,0))
 le:Le w0 ao l
 lc:l.length<=cap
 cm:cap<=maxLen
 g0:w0.heap.size<=g
 p0:w0.heap.size<=p
def RS.ne (h:RS w0 g p l ao cap V):g≠p:=by
 rintro rfl;have:=h.hg;rw[h.hp]at this;injection this with e
 injection e with _ e
 exact absurd e (by decide)
def RS.below (h:RS w0 g p l ao cap V) (u:Below V.heap.size V V'):RS w0 g p l ao cap V':=
 ⟨h.bel.trans (u.mono h.bel.size),af h.hg u,af h.hp u,h.le,h.lc,h.cm,h.g0,h.p0⟩
def RS.kp {S:Nat->Prop}{w0:World}{g p:Nat}{l:List Ev}{ao:Option Addr}{cap:Nat}{V V':World}(h:RS w0 g p l ao cap V) (G:Kp S V V') (u:∀k,S k->w0.heap.size<=k/\k≠g/\k≠p):RS w0 g p l ao cap V':=
 ⟨Kp.low h.bel G (λk e=>(u k e).1) h.bel.size,G.blk h.hg (λe=>(u g e).2.1 rfl),G.blk h.hp (λe=>(u p e).2.2 rfl),h.le,h.lc,h.cm,h.g0,h.p0⟩
def RS.set {w0:World}{g p:Nat}{l l':List Ev}{ao ao':Option Addr}{cap cap':Nat}{V:World}(h:RS w0 g p l ao cap V) (hl:Le w0 ao' l') (hc:l'.length<=cap') (u:cap'<=maxLen):RS w0 g p l' ao' cap' (V.setCell ⟨g,0,none⟩ (.slice ao' l'.length cap')):=
 ⟨Kp.low h.bel (Kp.set V g 0 _) (λk e=>by subst e;exact h.g0) h.bel.size,ag h.hg 0 _,az h.hp (T5 h.ne) _,hl,hc,u,h.g0,h.p0⟩
def P9 (w0:World) (g p a:Nat) (l:List Ev) (W:World) (x:Ending) (w':World):Prop:=∃(n:bF) (sv:Value) (ok:Bool) (r:List Ev) (ao:Option Addr) (cap:Nat),Uk x (.tuple #[dm n.k n.d sv,.bool ok])/\RS w0 g p r ao cap w'/\Kp (λk=>k=g) W w'/\r.length<l.length/\TN (λk=>W.heap.size<=k) w' n sv/\(if ok then Qi a l n r else IY a l)
def xy (w0:World) (g p:Nat) (l:List Ev):Prop:=∀(a:Nat) (ao:Option Addr) (cap:Nat) (W:World),a<=1000->(∀e r,l=e :: r->e.k=3->a=0)->RS w0 g p l ao cap W->Sa 205 #[Tu (a:Nat),.pointer (some ⟨g,0,none⟩),.pointer (some ⟨p,0,none⟩)] W (P9 w0 g p a l W)
def aH (w:World) (b:Nat) (k:Int) (d:Tv) (s:Value):World:=(((((((w.setCell ⟨b,0,none⟩ (.int .u8 k)).setCell ⟨b,1,none⟩ (.int .u8 d.k)).setCell ⟨b,2,none⟩ (.string d.t)).setCell ⟨b,3,none⟩ (Tu d.a)).setCell ⟨b,4,none⟩ (Tu d.l)).setCell ⟨b,5,none⟩ (Tu d.c)).setCell ⟨b,6,none⟩ (Tu d.f)).setCell ⟨b,7,none⟩ s
def fC (h:w.heap[b]?=some (bj k0 d0 s0)) (k:Int) (d:Tv) (s:Value):(aH w b k d s).heap[b]?=some (bj k d s):=by
 unfold aH;have:=ag (ag (ag (ag (ag (ag (ag (ag h 0 (.int .u8 k)) 1 (.int .u8 d.k)) 2 (.string d.t)) 3 (Tu d.a)) 4 (Tu d.l)) 5 (Tu d.c)) 6 (Tu d.f)) 7 s;rw[this];simp
def dN (w:World) (b:Nat) (k:Int) (d:Tv) (s:Value):Kp (λj=>j=b) w (aH w b k d s):=by
 unfold aH;exact(((((((Kp.set _ _ _ _).trans (Kp.set _ _ _ _)).trans (Kp.set _ _ _ _)).trans (Kp.set _ _ _ _)).trans (Kp.set _ _ _ _)).trans (Kp.set _ _ _ _)).trans (Kp.set _ _ _ _)).trans (Kp.set _ _ _ _)
def aC (h:w.heap[b]?=some (bj k d s)):(w.cell? (Tw b 0)=some (.int .u8 k)/\w.cell? (Tw b 1)=some (.int .u8 d.k)/\w.cell? (Tw b 2)=some (.string d.t)/\w.cell? (Tw b 3)=some (Tu d.a)/\w.cell? (Tw b 4)=some (Tu d.l)/\w.cell? (Tw b 5)=some (Tu d.c)/\w.cell? (Tw b 6)=some (Tu d.f)/\w.cell? (Tw b 7)=some s)/\b<w.heap.size:=
 ⟨⟨aa h rfl,aa h rfl,aa h rfl,aa h rfl,aa h rfl,aa h rfl,aa h rfl,aa h rfl⟩,ai h⟩
def bw (h:w.heap[b]?=some (bj k d s)):w.frozen? (Tw b 0)=false/\w.frozen? (Tw b 1)=false/\w.frozen? (Tw b 2)=false/\w.frozen? (Tw b 3)=false/\w.frozen? (Tw b 4)=false/\w.frozen? (Tw b 5)=false/\w.frozen? (Tw b 6)=false/\w.frozen? (Tw b 7)=false:=
 ⟨aj h,aj h,aj h,aj h,aj h,aj h,aj h,aj h⟩
abbrev DS (k n:Int) (d:Tv):Obj:=.cells #[.int .u8 k,.int .u8 n,.int .u8 d.k,.string d.t,Tu d.a,Tu d.l,Tu d.c,Tu d.f] 104
def pH {n:Int}(h:w.heap[b]?=some (DS k n d)):(w.cell? (Tw b 0)=some (.int .u8 k)/\w.cell? (Tw b 1)=some (.int .u8 n)/\w.cell? (Tw b 2)=some (.int .u8 d.k)/\w.cell? (Tw b 3)=some (.string d.t)/\w.cell? (Tw b 4)=some (Tu d.a)/\w.cell? (Tw b 5)=some (Tu d.l)/\w.cell? (Tw b 6)=some (Tu d.c)/\w.cell? (Tw b 7)=some (Tu d.f))/\b<w.heap.size:=
 ⟨⟨aa h rfl,aa h rfl,aa h rfl,aa h rfl,aa h rfl,aa h rfl,aa h rfl,aa h rfl⟩,ai h⟩
structure R2 (w0 W:World) (g p:Nat) (r:List Ev) (ao:Option Addr) (cap:Nat) (ek en:Int) (ed:Tv) (V:World):Prop where
 rs:RS w0 g p r ao cap V
 kp:Kp (λk=>k=g) W V
 rb:V.heap[W.heap.size]?=some (bj 0 av (.slice none 0 0))
 fb:V.heap[W.heap.size+1]?=some (DS ek en ed)
def vt {G:Option Addr}{u:Nat}(h:RS w0 g p l ao cap W) (hl:Le w0 G r) (hc:r.length<=u) (O:u<=maxLen) (ek en:Int) (ed:Tv) :
  R2 w0 W g p r G u ek en ed (((W.setCell ⟨g,0,none⟩ (.slice G r.length u)).alloc (bj 0 av (.slice none 0 0))).alloc (DS ek en ed)):=by
 have H:(W.setCell ⟨g,0,none⟩ (.slice G r.length u)).heap.size=W.heap.size:=by show(W.heap.modify g _).size=_;rw[TD]
 have M:=fL (W.setCell ⟨g,0,none⟩ (.slice G r.length u)) (bj 0 av (.slice none 0 0));have I:=aL (W.setCell ⟨g,0,none⟩ (.slice G r.length u)) (bj 0 av (.slice none 0 0));have J:=aL ((W.setCell ⟨g,0,none⟩ (.slice G r.length u)).alloc (bj 0 av (.slice none 0 0))) (DS ek en ed);refine⟨((h.set hl hc O).below I).below J,((Kp.set _ _ _ _).alloc _).alloc _,?_,?_⟩
 ·refine aI ?_ _;rw[<-H];exact ak _ _
 ·rw[<-H,<-M];exact ak _ _
def R2.below (h:R2 w0 W g p r ao cap ek en ed V) (u:Below V.heap.size V V'):R2 w0 W g p r ao cap ek en ed V':=
 ⟨h.rs.below u,h.kp.step (T:=λ_=>False) (Kp.of_below u) (λ_ _ h=>h.elim),af h.rb u,af h.fb u⟩
def R2.out (h:R2 w0 W g p r ao cap ek en ed V) (H:g<W.heap.size) (I:p<W.heap.size) (k:Int) (d:Tv) (s:Value) :
  RS w0 g p r ao cap (aH V W.heap.size k d s)/\Kp (λk=>k=g) W (aH V W.heap.size k d s)/\(aH V W.heap.size k d s).heap[W.heap.size]?=some (bj k d s):=by
 have u:=dN V W.heap.size k d s;have G:w0.heap.size<=W.heap.size:=by have:=h.rs.g0;omega
 refine⟨h.rs.kp u (λj e=>by subst e;exact⟨G,by omega,by omega⟩),h.kp.step u (λj J e=>by omega),fC h.rb k d s⟩
def Cr (w0:World) (g p:Nat) (e:Ev) (r:List Ev) (h1:e.k≠1):xy w0 g p (e :: r):=by
 intro a ao cap W ha h3 H;obtain⟨b,S,J,G,rfl,ad,⟨c0,c1,c2,c3,c4,c5,c6,c7⟩,am,ae,ak,Y⟩:=H.le.tail (cap:=cap) (by have:=H.lc;simpa using this) H.cm;have HI:=aW H;have I:∀i u,w0.cell? (Tw b i)=some u->W.cell? (Tw b i)=some u:=λi u hu=>(RX (a:=(Tw b i)) (H.bel.block b ad)).trans hu
 replace c0:=I _ _ c0;replace c1:=I _ _ c1;replace c2:=I _ _ c2;replace c3:=I _ _ c3;replace c4:=I _ _ c4;replace c5:=I _ _ c5;replace c6:=I _ _ c6;replace c7:=I _ _ c7;have ap:b<W.heap.size:=RV _ _ c0;have ah:g<W.heap.size:=ai H.hg;have af:W.cell? (Tw g 0)=some (.slice (some (Tw b S)) (r.length+1) cap):=aa H.hg rfl;have ag:W.frozen? (Tw g 0)=false:=aj H.hg;have aq:b≠g:=λe=>by have:=H.g0;omega
 have ar:(e.k==1)=false:=by simpa using h1
 have an:(e.k != 1)=true:=by simpa using h1
 obtain⟨⟨ek,en,ed⟩,he⟩:∃x,e=x:=⟨_,rfl⟩;subst he;dsimp only at *;have ab:Hid (∀V,Sa 79 #[.agg #[.int .u8 ed.k,.string ed.t,Tu ed.a,Tu ed.l,Tu ed.c,Tu ed.f]] V λr w'=>Uk r (.int .u8 (un ed))/\Se V w'):=λV=>pe ed V
 have al:p<W.heap.size:=ai H.hp
 have Q:(if(ek==un ed)=true then Qi a (⟨ek,en,ed⟩ :: r) (.mk 0 ed []) r else IY a (⟨ek,en,ed⟩ :: r)):=by
  by_cases hq:ek=un ed
  ·rw[Or (by simpa using hq)];exact CU (e:=⟨ek,en,ed⟩) hq
  ·rw[Eq (by simpa using hq)];exact Ge (e:=⟨ek,en,ed⟩) h1 hq (h3 _ _ rfl)
 have ac:=aW Q;obtain⟨W2,M⟩:=ea (((W.setCell ⟨g,0,none⟩ (.slice J r.length G)).alloc (bj 0 av (.slice none 0 0))).alloc (DS ek en ed));have H2:Hid (R2 w0 W g p r J G ek en ed W2):=by rw[<-M];exact vt H Y ae ak ek en ed
 clear H I Q;go_enter func205,ntmps205;(go_wp2_with fail);dsimp only[bj,DS,av]at M;rw[M];obtain⟨⟨f0,f1,f2,f3,f4,f5,f6,f7⟩,fl⟩:=pH H2.out.fb;obtain⟨⟨r0,r1,r2,r3,r4,r5,r6,r7⟩,rl⟩:=aC H2.out.rb;clear M c0 c1 c2 c3 c4 c5 c6 c7 af ag am
 go_region_law (first|(go_simp;go_at_call 79;refine(ab.out _).mono ?_;rintro x w4⟨rfl,O⟩;have Z:=aW (H2.out.below ((gt _ _).drew.trans (O.mono (ge _))));obtain⟨⟨d0,d1,d2,d3,d4,d5,d6,d7⟩,dl⟩:=pH Z.out.fb;obtain⟨⟨s0,s1,s2,s3,s4,s5,s6,s7⟩,sl⟩:=aC Z.out.rb;obtain⟨z0,z1,z2,z3,z4,z5,z6,z7⟩:=bw Z.out.rb;clear O))
 all_goals(
  (go_wp2_with fail);have h9:=Z.out.out ah al 0 ed (.slice none 0 0);obtain⟨w9,e9⟩:=ea (aH w4 W.heap.size 0 ed (.slice none 0 0));rw[e9]at h9;dsimp only[aH]at e9;rw[e9];obtain⟨⟨x0,x1,x2,x3,x4,x5,x6,x7⟩,xl⟩:=aC h9.2.2;refine R0 (v:=.tuple #[dm 0 ed (.slice none 0 0),.bool (ek==un ed)]) (by simp[results,Tryz.f205,go_sem,x0,x1,x2,x3,x4,x5,x6,x7]) rfl ?_;exact⟨.mk 0 ed [],.slice none 0 0,ek==un ed,r,J,G,rfl,h9.1,h9.2.1,by simp,lx _ _ _ _,ac.out⟩)
structure RL (w0 W:World) (g p:Nat) (k:Int) (r:List Ev) (ao:Option Addr) (cap:Nat) (c:List bF) (sv:Value) (vs:List Value) (V:World):Prop where
 rs:RS w0 g p r ao cap V
 kp:Kp (λk=>k=g) W V
 gW:g<W.heap.size
 pW:p<W.heap.size
 rb:V.heap[W.heap.size]?=some (bj 0 av (.slice none 0 0))
 nb:V.heap[W.heap.size+1+1]?=some (bj k av sv)
 rn:RN V sv c vs
 sB:∀b,sv.ownBlock=some b->W.heap.size+3<=b
 tl:TL (λb=>W.heap.size+3<=b/\sv.ownBlock≠some b) V c vs
def RL.below {c:List bF}(h:RL w0 W g p k r ao cap c sv vs V) (u:Below V.heap.size V V'):RL w0 W g p k r ao cap c sv vs V':=by
 have G:Kp (λ_=>False) V V':=Kp.of_below u;exact⟨h.rs.below u,h.kp.step G (λ_ _ h=>h.elim),h.gW,h.pW,af h.rb u,af h.nb u,h.rn.kp G (λ_ _ h=>h),h.sB,TL.kp G (λ_ _ h=>h) _ _ h.tl⟩
def RL.call {c:List bF}(h:RL w0 W g p k r ao cap c sv vs V) (u:Kp (λk=>k=g) V V') (G:RS w0 g p r' ao' cap' V'):RL w0 W g p k r' ao' cap' c sv vs V':=by
 have H:=h.gW;exact⟨G,h.kp.step u (λ_ _ h=>h),h.gW,h.pW,u.blk h.rb (by omega),u.blk h.nb (by omega),h.rn.kp u (λb e=>by have:=h.sB b e;omega),h.sB,TL.kp u (λb e=>by have:=e.1;omega) _ _ h.tl⟩
def RL.oth {c:List bF}{q:Nat}(h:RL w0 W g p k r ao cap c sv vs V) (u:Kp (λk=>k=q) V V') (O:W.heap.size+3<=q) (H:sv.ownBlock≠some q) (ht:TL (λb=>(W.heap.size+3<=b/\sv.ownBlock≠some b)/\b≠q) V c vs):RL w0 W g p k r ao cap c sv vs V':=by
 have J:=h.gW;have Q:=h.pW;have I:=h.rs.g0;exact⟨h.rs.kp u (λb e=>by subst e;exact⟨by omega,by omega,by omega⟩),h.kp.step u (λb M e=>by omega),h.gW,h.pW,u.blk h.rb (by omega),u.blk h.nb (by omega),h.rn.kp u (λb e G=>H (by rw[e,G])),h.sB,TL.sub (λb _ e=>e.1) _ _ (TL.kp u (λb e G=>e.2 G) _ _ ht)⟩
def RL.push {c:List bF}{v':Value}{J G:World}{n:bF}(h:RL w0 W g p k r ao cap c sv vs V) (hb:Below V.heap.size V J) (hn:TN (λb=>W.heap.size+3<=b/\sv.ownBlock≠some b) V n x) (hr:RN G v' (c++[n]) (vs++[x])) (hg:J.grownBy G sv.ownBlock) (u:Nb J sv v') :
  (G.cell? ⟨W.heap.size+1+1,7,none⟩=some sv/\G.frozen? ⟨W.heap.size+1+1,7,none⟩=false/\W.heap.size+1+1<G.heap.size)/\RL w0 W g p k r ao cap (c++[n]) v' (vs++[x]) (G.setCell ⟨W.heap.size+1+1,7,none⟩ v'):=by
 have gW:=h.gW;have pW:=h.pW;have g0:=h.rs.g0;have Z:=h.below hb;have M:=Kp.of_grown hg;have hS:∀b,some b=sv.ownBlock->W.heap.size+3<=b:=λb e=>h.sB b e.symm
 have I:=M.blk Z.nb (λe=>by have:=hS _ e;omega);have ab:=M.blk Z.rb (λe=>by have:=hS _ e;omega);have ac:RS w0 g p r ao cap G:=Z.rs.kp M (λb e=>by have:=hS b e;exact⟨by omega,by omega,by omega⟩);have ks:=Kp.set G (W.heap.size+1+1) 7 v';have hsz:W.heap.size+3<=J.heap.size:=by have:=ai Z.nb;omega
 have vB:∀b,v'.ownBlock=some b->W.heap.size+3<=b:=by
  intro b e
  rcases u with u|⟨q,Q,u⟩
  ·exact h.sB b (by rw[<-u];exact e)
  ·rw[Q]at e;simp at e;omega
 have t1:TL (λb=>W.heap.size+3<=b/\sv.ownBlock≠some b) J (c++[n]) (vs++[x]):=TL.kp (Kp.of_below (S:=λ_=>False) hb) (λ_ _ h=>h) _ _ (TL.app hn h.tl)
 have t2:TL (λb=>W.heap.size+3<=b/\v'.ownBlock≠some b) J (c++[n]) (vs++[x]):=TL.sub (λb H e=>⟨e.1,by
  rcases u with u|⟨q,Q,u⟩
  ·rw[u];exact e.2
  ·rw[Q];intro e3;simp at e3;omega⟩) _ _ t1
 have t3:TL (λb=>W.heap.size+3<=b/\sv.ownBlock≠some b) G (c++[n]) (vs++[x]):=TL.kp M (λb e Y=>e.2 Y.symm) _ _ t1
 have t4:TL (λb=>W.heap.size+3<=b/\v'.ownBlock≠some b) G (c++[n]) (vs++[x]):=by
  rcases u with u|⟨q,Q,u⟩
  ·rw[u];exact t3
  ·refine TL.sub (λb H e=>⟨e.1.1,e.2⟩) _ _ (TL.kp (O:=λb=>(W.heap.size+3<=b/\sv.ownBlock≠some b)/\v'.ownBlock≠some b) M (λb e Y=>e.1.2 Y.symm) _ _ (TL.sub (λb H e=>⟨e,?_⟩) _ _ t1));rw[Q];intro e3;simp at e3;omega
 refine⟨⟨aa I rfl,aj I,ai I⟩,⟨ac.kp ks (λb e=>by subst e;exact⟨by omega,by omega,by omega⟩),((Z.kp.step M (λb H e=>by have:=hS b e;omega)).step ks (λb H e=>by omega)),h.gW,h.pW,az ab (by omega) _,?_,hr.kp ks (λb e Y=>by have:=vB b e;omega),vB,TL.kp ks (λb e Y=>by have:=e.1;omega) _ _ t4⟩⟩;have:=ag I 7 v';rw[this];simp
def Fc (h:R2 w0 W g p r ao cap ek en ed V) (J:V.heap.size=W.heap.size+1+1) (G:g<W.heap.size) (H:p<W.heap.size) (k:Int):RL w0 W g p k r ao cap [] (.slice none 0 0) [] (V.alloc (bj k av (.slice none 0 0))):=by
 have I:=aL V (bj k av (.slice none 0 0));have u:=h.below I;refine⟨u.rs,u.kp,G,H,u.rb,?_,Fa _,(λb e=>by cases e),by rw[TL]⟩;rw[<-J];exact ak _ _
def AK (w:World) (g:Nat):Nat:=match w.cell? ⟨g,0,none⟩with
 |some (.slice _ n _)=>n
 |_=>0
def RL.len {c:List bF}(h:RL w0 W g p k r ao cap c sv vs V):AK V g=r.length:=by
 have:V.cell? (Tw g 0)=some (.slice ao r.length cap):=aa h.rs.hg rfl;simp[AK,this]
def RL.out {c:List bF}(h:RL w0 W g p k r ao cap c sv vs V) (u:Int) (d:Tv) (s:Value) :
  RS w0 g p r ao cap (aH V W.heap.size u d s)/\Kp (λk=>k=g) W (aH V W.heap.size u d s)/\(aH V W.heap.size u d s).heap[W.heap.size]?=some (bj u d s)/\TN (λb=>W.heap.size<=b) (aH V W.heap.size u d s) (.mk k av c) sv:=by
 have G:=dN V W.heap.size u d s;have J:=h.gW;have O:=h.pW;have I:=h.rs.g0;refine⟨h.rs.kp G (λj e=>by subst e;exact⟨by omega,by omega,by omega⟩),h.kp.step G (λj M e=>by omega),fC h.rb u d s,?_⟩;rw[TN];refine⟨vs,h.rn.kp G (λb e H=>by have:=h.sB b e;omega),λb e=>by have:=h.sB b e;omega,TL.sub (λb _ e=>by have:=e.1;omega) _ _ (TL.kp G (λb e H=>by have:=e.1;omega) _ _ h.tl)⟩
structure Qe (w0 W:World) (g p a:Nat) (l:List Ev) (k:Int) (good:Bool) (V:World):Prop where
 ex:∃r ao cap c sv vs,RL w0 W g p k r ao cap c sv vs V/\c.length+r.length<l.length/\(if good then DR a l k c r/\k≠0/\a<1000 else IY a l)
def RL.kid {c:List bF}{u:World}{n:bF}(h:RL w0 W g p k r ao cap c sv vs V) (H:Kp (λk=>k=g) (V.alloc (bj k0 d0 s0)) u) (Z:RS w0 g p r' ao' cap' u) (J:TN (λb=>(V.alloc (bj k0 d0 s0)).heap.size<=b) u n x) :
  RL w0 W g p k r' ao' cap' c sv vs (aH u V.heap.size n.k n.d x)/\TN (λb=>W.heap.size+3<=b/\sv.ownBlock≠some b) (aH u V.heap.size n.k n.d x) n x/\(aH u V.heap.size n.k n.d x).heap[V.heap.size]?=some (bj n.k n.d x):=by
 have gW:=h.gW;have hsz:W.heap.size+3<=V.heap.size:=by have:=ai h.nb;omega
 have aa:g<V.heap.size:=ai h.rs.hg;have I:=aL V (bj k0 d0 s0);have Y:=fL V (bj k0 d0 s0);rw[Y]at J;have M:=dN u V.heap.size n.k n.d x;have Q:=(h.below I).call H Z
 have t6:TL (λb=>(W.heap.size+3<=b/\sv.ownBlock≠some b)/\b≠V.heap.size) u c vs:=
  TL.kp H (λb e G=>by have:=e.1.1;omega) _ _ (TL.kp (Kp.of_below (S:=λ_=>False) I) (λ_ _ h=>h) _ _ (TL.sub (λb ab e=>⟨e,by omega⟩) _ _ h.tl))
 have O:u.heap[V.heap.size]?=some (bj k0 d0 s0):=H.blk (ak _ _) (by omega);refine⟨Q.oth M hsz (λe=>by have:=h.rn.lt _ e;omega) t6,TN.sub (λb _ e=>⟨by omega,λG=>by have:=h.rn.lt _ G;omega⟩) _ _ (TN.kp M (λb e G=>by omega) _ _ J),fC O _ _ _⟩
def Cq (w0:World) (g p:Nat) (e:Ev) (r:List Ev) (h1:e.k=1) (bm:(e :: r).length<=1000000000) (IH:∀l:List Ev,l.length<(e :: r).length->l≠[]->xy w0 g p l):xy w0 g p (e :: r):=by
 intro a ao cap W ha h3 S;obtain⟨b,bb,Z,M,rfl,bu,⟨c0,c1,c2,c3,c4,c5,c6,c7⟩,cg,bv,cd,bi⟩:=S.le.tail (cap:=cap) (by have:=S.lc;simpa using this) S.cm;have HI:=aW S;have tr:∀i u,w0.cell? (Tw b i)=some u->W.cell? (Tw b i)=some u:=λi u hu=>(RX (a:=(Tw b i)) (S.bel.block b bu)).trans hu
 replace c0:=tr _ _ c0;replace c1:=tr _ _ c1;replace c2:=tr _ _ c2;replace c3:=tr _ _ c3;replace c4:=tr _ _ c4;replace c5:=tr _ _ c5;replace c6:=tr _ _ c6;replace c7:=tr _ _ c7;have cr:b<W.heap.size:=RV _ _ c0;have cc:g<W.heap.size:=ai S.hg;have cf:p<W.heap.size:=ai S.hp;have ca:W.cell? (Tw g 0)=some (.slice (some (Tw b bb)) (r.length+1) cap):=aa S.hg rfl;have cb:W.frozen? (Tw g 0)=false:=aj S.hg;have ct:b≠g:=λe=>by have:=S.g0;omega
 obtain⟨⟨ek,en,ed⟩,he⟩:∃x,e=x:=⟨_,rfl⟩;subst he;dsimp only at *;subst h1;have br:=aW IH;have Q:Hid (∀V,Sa 78 #[dm en av (.slice none 0 0)] V λr w'=>Uk r (.bool (en==0))/\Se V w'):=λV=>jm en av none 0 0 V
 obtain⟨W2,ae⟩:=ea ((((W.setCell ⟨g,0,none⟩ (.slice Z r.length M)).alloc (bj 0 av (.slice none 0 0))).alloc (DS 1 en ed)).alloc (bj en av (.slice none 0 0)))
 have H2:Hid (RL w0 W g p en r Z M [] (.slice none 0 0) [] W2):=by
  rw[<-ae];refine Fc (vt S bi bv cd 1 en ed) ?_ cc cf en;rw[fL,fL];show(W.heap.modify g _).size+1+1=_;rw[TD]
 clear S tr IH;go_enter func205,ntmps205;go_upto_region 6 with fail
 dsimp only[bj,DS,av]at ae;rw[ae];obtain⟨⟨n0,n1,n2,n3,n4,n5,n6,n7⟩,nl⟩:=aC H2.out.nb;clear ae c0 c1 c2 c3 c4 c5 c6 c7 ca cb cg;dsimp only[av]at n1 n2 n3 n4 n5 n6 Q
 go_cut [8]from 30 to 36 (λt wx=>∃H:Bool,t=.bool H/\Hid (Qe w0 W g p a (⟨1,en,ed⟩ :: r) en H wx))
 case first=>
  by_cases hz:en=0
  ·subst hz
   go_wp2_with(go_at_call 78;refine(Q.out _).mono ?_;rintro x w3⟨rfl,J⟩;have H3:Hid (Qe w0 W g p a (⟨1,0,ed⟩ :: r) 0 false w3):=⟨r,Z,M,[],_,[],H2.out.below J,by simp,by simp only[R5,SW];exact vR rfl (.inl rfl)⟩;clear J)
   go_meet
   exact⟨false,rfl,H3⟩
  ·have ch:(en==0)=false:=by simpa using hz
   rw[ch]at Q
   by_cases I:a<1000
   ·have an:(a:Int)<1000:=by omega
    go_wp2_with(go_at_call 78;refine(Q.out _).mono ?_;rintro x w3⟨rfl,J⟩;have H3:Hid (Qe w0 W g p a (⟨1,en,ed⟩ :: r) en true w3):=⟨r,Z,M,[],_,[],H2.out.below J,by simp,by simp only[TU];exact⟨FM rfl (λh=>h.elim hz (λh=>by omega)),hz,I⟩⟩;clear J)
    go_meet
    exact⟨true,by first|rfl|simp[an],H3⟩
   ·have an:¬((a:Int)<1000):=by omega
    go_wp2_with(go_at_call 78;refine(Q.out _).mono ?_;rintro x w3⟨rfl,J⟩;have H3:Hid (Qe w0 W g p a (⟨1,en,ed⟩ :: r) en false w3):=⟨r,Z,M,[],_,[],H2.out.below J,by simp,by simp only[R5,SW];exact vR rfl (.inr (by omega))⟩;clear J)
    go_meet
    exact⟨false,by first|rfl|simp[an],H3⟩
 case rest=>
  obtain⟨au,rfl,H3⟩:=hcut;clear H2 n0 n1 n2 n3 n4 n5 n6 n7 nl Q;(go_wp2_with fail)
  go_loopw [8] (λgv wr=>∃H:Bool,gv=.bool H/\Hid (Qe w0 W g p a (⟨1,en,ed⟩ :: r) en H wr)) (λ_ wr=>AK wr g)
  case atStart=>exact⟨au,rfl,H3⟩
  case round=>
   obtain⟨H,rfl,HJ⟩:=hrel;obtain⟨r3,ao3,cap3,c3,sv3,vs3,hL,hc,hg⟩:=HJ.out.ex;have HL:=aW hL;have aw:=hL.len;obtain⟨⟨y0,y1,y2,y3,y4,y5,y6,y7⟩,yl⟩:=aC hL.rb;obtain⟨f0,f1,f2,f3,f4,f5,f6,f7⟩:=bw hL.rb;have zg:wr.cell? (Tw g 0)=some (.slice ao3 r3.length cap3):=aa hL.rs.hg rfl;have zf:wr.frozen? (Tw g 0)=false:=aj hL.rs.hg;have cl:g<wr.heap.size:=ai hL.rs.hg;have zn:wr.cell? ⟨W.heap.size+1+1,0,none⟩=some (.int .u8 en):=aa hL.nb rfl;have cm:W.heap.size+1+1<wr.heap.size:=ai hL.nb
   have HR:Hid (∀V G,Se wr V->aH V W.heap.size 0 av (.slice none 0 0)=G->IY a (⟨1,en,ed⟩ :: r)->P9 w0 g p a (⟨1,en,ed⟩ :: r) W (.returned (.tuple #[dm 0 av (.slice none 0 0),.bool false])) G/\G.heap[W.heap.size]?=some (bj 0 av (.slice none 0 0))):=λV G hb e bg=>by
    subst e;obtain⟨a1,a2,a3,a4⟩:=(hL.below hb).out 0 av (.slice none 0 0);exact⟨⟨.mk 0 av [],_,false,r3,ao3,cap3,rfl,a1,a2,by simp at hc ⊢;omega,lx _ _ _ _,by simp only[R5,SW];exact bg⟩,a3⟩
   clear HJ;cases H with
   |false=>
    simp only[R5,SW]at hg;have Y:=aW hg;clear hg hL;(go_wp2_with fail)
    go_quiet (fail)
    (go_wp2_with fail);obtain⟨G,O⟩:=ea (aH (wr.drewN nq) W.heap.size 0 av (.slice none 0 0));obtain⟨hz1,I⟩:=HR.out _ G (dh (gt _ _) nq) O Y.out;dsimp only[aH,av]at O;rw[O];obtain⟨⟨x0,x1,x2,x3,x4,x5,x6,x7⟩,xl⟩:=aC I;refine R0 (v:=.tuple #[dm 0 av (.slice none 0 0),.bool false]) (by simp[results,Tryz.f205,go_sem,x0,x1,x2,x3,x4,x5,x6,x7]) rfl ?_;exact hz1
   |true=>
    simp only[TU]at hg;have Y:=aW hg;clear hg;cases r3 with
    |nil=>
     clear hL;(go_wp2_with fail)
     go_quiet (fail)
     (go_wp2_with fail);obtain⟨G,O⟩:=ea (aH (wr.drewN nq) W.heap.size 0 av (.slice none 0 0));obtain⟨hz1,I⟩:=HR.out _ G (dh (gt _ _) nq) O Y.out.1.nil;dsimp only[aH,av]at O;rw[O];obtain⟨⟨x0,x1,x2,x3,x4,x5,x6,x7⟩,xl⟩:=aC I;refine R0 (v:=.tuple #[dm 0 av (.slice none 0 0),.bool false]) (by simp[results,Tryz.f205,go_sem,x0,x1,x2,x3,x4,x5,x6,x7]) rfl ?_;exact hz1
    |cons e3 r4=>
     obtain⟨b3,bq,al,ad,rfl,bh,⟨k0,k1,k2,k3,k4,k5,k6,k7⟩,bo,bx,ce,bk⟩:=hL.rs.le.tail (cap:=cap3) (by have:=hL.rs.lc;simpa using this) hL.rs.cm;have ar:∀i u,w0.cell? (Tw b3 i)=some u->wr.cell? (Tw b3 i)=some u:=λi u hu=>(RX (a:=(Tw b3 i)) (hL.rs.bel.block b3 bh)).trans hu
     replace k0:=ar _ _ k0;replace k1:=ar _ _ k1;have bf:b3<wr.heap.size:=RV _ _ k0;have cv:(0:Int)<(r4.length:Int)+1:=by omega
     have cw:¬((r4.length:Int)+1=0):=by omega
     have ck:wr.cell? (Tw g 0)=some (.slice (some (Tw b3 bq)) (r4.length+1) cap3):=zg;clear ar k2 k3 k4 k5 k6 k7 zg
     by_cases ab:e3.k=3
     ·have be:(e3.k != 3)=false:=by simpa using ab
      by_cases ac:e3.n=en
      ·have bn:(e3.n != en)=false:=by simpa using ac
       have cn:(e3.n==en)=true:=by simpa using ac
       obtain⟨ps,cs,am,_⟩:=hL.rn.shape;subst am;obtain⟨⟨m0,m1,m2,m3,m4,m5,m6,m7⟩,ml⟩:=aC hL.nb;dsimp only[av]at m1 m2 m3 m4 m5 m6
       have HS:Hid (∀V G,Se wr V->aH (V.setCell ⟨g,0,none⟩ (.slice al r4.length ad)) W.heap.size en av (.slice ps c3.length cs)=G->P9 w0 g p a (⟨1,en,ed⟩ :: r) W (.returned (.tuple #[dm en av (.slice ps c3.length cs),.bool true])) G/\G.heap[W.heap.size]?=some (bj en av (.slice ps c3.length cs))):=λV G hb e=>by
        subst e;have h1:=hL.below hb;obtain⟨a1,a2,a3,a4⟩:=(h1.call (Kp.set _ _ _ _) (h1.rs.set bk bx ce)).out en av (.slice ps c3.length cs);exact⟨⟨.mk en av c3,_,true,r4,al,ad,rfl,a1,a2,by simp at hc ⊢;omega,a4,by simp only[TU];exact Y.out.1.shut ab ac Y.out.2.1⟩,a3⟩
       have cu:g≠W.heap.size:=by omega
       have co:g≠W.heap.size+1+1:=by omega
       clear hL;(go_wp2_with fail)
       go_quiet (fail)
       (go_wp2_with fail);obtain⟨G,O⟩:=ea (aH ((wr.drewN nq).setCell ⟨g,0,none⟩ (.slice al r4.length ad)) W.heap.size en av (.slice ps c3.length cs));obtain⟨hz1,I⟩:=HS.out _ G (dh (gt _ _) nq) O;dsimp only[aH,av]at O;rw[O];obtain⟨⟨x0,x1,x2,x3,x4,x5,x6,x7⟩,xl⟩:=aC I;refine R0 (v:=.tuple #[dm en av (.slice ps c3.length cs),.bool true]) (by simp[results,Tryz.f205,go_sem,x0,x1,x2,x3,x4,x5,x6,x7]) rfl ?_;exact hz1
      ·have bn:(e3.n != en)=true:=by simpa using ac
       clear hL;(go_wp2_with fail)
       go_quiet (fail)
       (go_wp2_with fail);obtain⟨G,O⟩:=ea (aH (wr.drewN nq) W.heap.size 0 av (.slice none 0 0));obtain⟨hz1,I⟩:=HR.out _ G (dh (gt _ _) nq) O (Y.out.1.other ab ac);dsimp only[aH,av]at O;rw[O];obtain⟨⟨x0,x1,x2,x3,x4,x5,x6,x7⟩,xl⟩:=aC I;refine R0 (v:=.tuple #[dm 0 av (.slice none 0 0),.bool false]) (by simp[results,Tryz.f205,go_sem,x0,x1,x2,x3,x4,x5,x6,x7]) rfl ?_;exact hz1
     ·have be:(e3.k != 3)=true:=by simpa using ab
      obtain⟨ps,cs,am,_⟩:=hL.rn.shape;subst am;have yp:wr.cell? (Tw p 0)=some (my g p):=aa hL.rs.hp rfl;have cj:p<wr.heap.size:=ai hL.rs.hp;have HC:Hid (Sa 205 #[Tu ((a:Int)+1),.pointer (some (Tw g 0)),.pointer (some (Tw p 0))] (wr.alloc (bj 0 av (.slice none 0 0))) (P9 w0 g p (a+1) (e3 :: r4) (wr.alloc (bj 0 av (.slice none 0 0))))):=br.out (e3 :: r4) (by simp at hc ⊢;omega) (by simp) (a+1) _ _ _ (by have:=Y.out.2.2;omega) (λe' r' he hk=>by cases he;exact absurd hk ab) (hL.rs.below (aL _ _));have cq:(a:Int)<1000:=by have:=Y.out.2.2;omega
      have bz:c3.length<=1000000000:=by simp at hc bm;omega
      clear hL;(go_wp2_with fail);refine HC.out.mono ?_;rintro x w6⟨n6,ci,bc,r6,ay,ag,rfl,bd,ap,az,af,ah⟩
      obtain⟨p6,m6,c6,bp⟩:∃p6 m6 c6,ci=.slice p6 m6 c6:=by
       obtain⟨nk,cy,cx⟩:=n6;rw[TN]at af;obtain⟨vs6,hrn6,_⟩:=af;obtain⟨pp,cp,e,_⟩:=hrn6.shape;exact⟨pp,_,cp,e⟩
      subst bp;have K6:=HL.out.kid ap bd af;have H6:=aW K6;have b6:w6.heap[wr.heap.size]?=some (bj 0 av (.slice none 0 0)):=ap.blk (ak _ _) (by omega);obtain⟨⟨t0,t1,t2,t3,t4,t5,t6,t7⟩,tl⟩:=aC b6;obtain⟨u0,u1,u2,u3,u4,u5,u6,u7⟩:=bw b6;have ax:=aW ah;clear K6 b6 ah bd ap af;go_upto_region 10 with fail
      obtain⟨w7,e7⟩:=ea (aH w6 wr.heap.size n6.k n6.d (.slice p6 m6 c6));rw[e7]at H6;dsimp only[aH]at e7;rw[e7];obtain⟨⟨i0,i1,i2,i3,i4,i5,i6,i7⟩,il⟩:=aC H6.out.2.2;have j7:w7.cell? ⟨W.heap.size+1+1,7,none⟩=some (.slice ps c3.length cs):=aa H6.out.1.nb rfl;have jl:W.heap.size+1+1<w7.heap.size:=ai H6.out.1.nb;have bt:=aW λV (hb:Se w7 V)=>(H6.out.1.below hb).rn
      clear e7 t0 t1 t2 t3 t4 t5 t6 t7 tl u0 u1 u2 u3 u4 u5 u6 u7 HC k0 k1 ck zf cl zn cm y0 y1 y2 y3 y4 y5 y6 y7 yl f0 f1 f2 f3 f4 f5 f6 f7 yp cj bo bf;have HD:Hid (∀aq:List Ev,aq=r6->AK wr g=(e3 :: r4).length/\aq.length<(e3 :: r4).length):=λaq e=>by subst e;exact⟨aw,az⟩
      go_wp2_with(at_builtin;refine OB (by rfl) _ _ (by rfl) (.slice ps c3.length cs) c3 vs3 n6 p6 m6 c6 (by rfl) (bt.out _ (aL _ _)) w7.heap.size 1 (by rfl) (ak _ _) bz ?_;intro v8 w8 h1 h2 h3;obtain⟨p8,c8,ba,_⟩:=h1.shape;obtain⟨l8,hl8⟩:=ea ((c3++[n6]).length);rw[hl8]at ba;subst ba;obtain⟨⟨x1,x2,x3⟩,x4⟩:=H6.out.1.push (aL _ _) H6.out.2.1 h1 h2 h3;have H8:=aW x4;clear x4 h1 h2 h3 hl8)
      refine⟨⟨bc,rfl,⟨r6,ay,ag,c3++[n6],_,_,H8.out,?_,?_⟩⟩,?_⟩
      ·simp at hc az ⊢;omega
      ·cases bc
       ·have:=ax.out;simp only[R5,SW]at this ⊢;exact Y.out.1.bad this
       ·have:=ax.out;simp only[TU]at this ⊢;exact⟨Y.out.1.kid this,Y.out.2⟩
      ·have h9:=H8.out.len;obtain⟨d1,d2⟩:=HD.out r6 rfl
       first
        | (rw[h9,d1];exact d2)
        | (simp only[Array.getD];rw[h9,d1];exact d2)
def oP (w0:World) (g p:Nat) (l:List Ev) (hl:l≠[]) (u:l.length<=1000000000):xy w0 g p l:=by
 obtain⟨s,M⟩:=ea l.length
 induction s using Nat.strongRecOn generalizing l with
 |ind s ih=>
  cases l with
  |nil=>exact absurd rfl hl
  |cons e r=>
   by_cases H:e.k=1
   ·exact Cq w0 g p e r H u (λI J G=>ih I.length (by omega) I G (by omega) rfl)
   ·exact Cr w0 g p e r H
def bo (l:List Ev):bF × Int:=match fA l []with
 |some n=>(n,0)
 |none=>(.mk 0 av [],130)
def Qs (l:List Ev) (W:World) (x:Ending) (w':World):Prop:=∃sv,Uk x (.tuple #[dm (bo l).1.k (bo l).1.d sv,Tu (bo l).2])/\TN (λk=>W.heap.size<=k) w' (bo l).1 sv/\Below W.heap.size W w'
def E5 (h:Le W ao l) (M:l.length<=cap) (O:cap<=maxLen) (o:Obj):RS W (W.heap.size+1) (W.heap.size+1+1) l ao cap (((W.alloc o).alloc (.cells #[.slice ao l.length cap] 100)).alloc (.cells #[my (W.heap.size+1) (W.heap.size+1+1)] 281)):=by
 have G:=fL W o;have J:=fL (W.alloc o) (.cells #[.slice ao l.length cap] 100);have u:=aL W o;have H:=aL (W.alloc o) (.cells #[.slice ao l.length cap] 100);have I:=aL ((W.alloc o).alloc (.cells #[.slice ao l.length cap] 100)) (.cells #[my (W.heap.size+1) (W.heap.size+1+1)] 281);refine⟨(u.trans (H.mono u.size)).trans (I.mono (by omega)),?_,?_,h,M,O,by omega,by omega⟩
 ·refine aI ?_ _;rw[<-G];exact ak _ _
 ·rw[<-G,<-J];exact ak _ _
def DH (l:List Ev) (W:World) (ao:Option Addr) (cap:Nat) (h:Le W ao l) (h1:l.length<=cap) (h2:cap<=maxLen) (ax:l.length<=1000000000):Sa 137 #[.slice ao l.length cap] W (Qs l W):=by
 have bg:=mkfn;obtain⟨V3,eV⟩:=ea (((W.alloc (bj 0 av (.slice none 0 0))).alloc (.cells #[.slice ao l.length cap] 100)).alloc (.cells #[my (W.heap.size+1) (W.heap.size+1+1)] 281))
 have H3:Hid (RS W (W.heap.size+1) (W.heap.size+1+1) l ao cap V3/\V3.heap[W.heap.size]?=some (bj 0 av (.slice none 0 0))):=by
  rw[<-eV];exact⟨E5 h h1 h2 _,aI (aI (ak _ _) _) _⟩
 have HO:Hid (∀V u k d s,Se W V->V.heap[W.heap.size]?=some (bj 0 av (.slice none 0 0))->aH V W.heap.size k d s=u->Se W u/\u.heap[W.heap.size]?=some (bj k d s)):=λV u k d s hb hr e=>by
  subst e;exact⟨Kp.low hb (dN _ _ _ _ _) (λj e=>by omega) hb.size,fC hr _ _ _⟩
 cases l with
 |nil=>
  have e:bo []=(.mk 0 av [],130):=rfl;have hX:∀u,Below W.heap.size W u->Qs [] W (.returned (.tuple #[dm 0 av (.slice none 0 0),Tu 130])) u:=λu hb=>⟨.slice none 0 0,rfl,lx _ _ _ _,hb⟩
  have HX:=aW hX;obtain⟨⟨y0,y1,y2,y3,y4,y5,y6,y7⟩,yl⟩:=aC H3.out.2;obtain⟨f0,f1,f2,f3,f4,f5,f6,f7⟩:=bw H3.out.2;clear hX e h h1 h2;dsimp only[bj,av,my,List.length_nil]at eV;go_enter func137,ntmps137;go_upto_region 5 with fail
  try rw[eV]
  clear eV;(go_wp2_with fail);obtain⟨u,J⟩:=ea (aH V3 W.heap.size 0 av (.slice none 0 0));obtain⟨H,I⟩:=HO.out _ u _ _ _ H3.out.1.bel H3.out.2 J;dsimp only[aH,av]at J;rw[J];obtain⟨⟨x0,x1,x2,x3,x4,x5,x6,x7⟩,xl⟩:=aC I;refine R0 (v:=.tuple #[dm 0 av (.slice none 0 0),Tu 130]) (by simp[results,Tryz.f137,go_sem,x0,x1,x2,x3,x4,x5,x6,x7]) rfl ?_;exact HX.out _ H
 |cons e r=>
  have HC:=aW (oP W _ _ (e :: r) (by simp) ax 0 ao cap V3 (by omega) (λ_ _ _ _=>rfl) H3.out.1);have az:¬((r.length:Int)+1=0):=by omega
  have be:((r.length:Int)+1==0)=false:=by simpa using az
  have bh:V3.cell? ⟨W.heap.size+1+1,0,none⟩=some (my (W.heap.size+1) (W.heap.size+1+1)):=aa H3.out.1.hp rfl;have bi:=ai H3.out.1.hp;clear h h1 h2;dsimp only[bj,av,my,List.length_cons]at eV;go_enter func137,ntmps137;go_upto_region 6 with fail
  try rw[eV]
  clear eV;(go_wp2_with fail);refine HC.out.mono ?_;rintro x w6⟨G,bb,ap,r6,ah,M,rfl,aw,ar,bc,aj,ae⟩
  obtain⟨Q,O,c6,ay⟩:∃Q O c6,bb=.slice Q O c6:=by
   obtain⟨nk,bm,bk⟩:=G;rw[TN]at aj;obtain⟨vs6,hrn6,_⟩:=aj;obtain⟨pp,cp,e,_⟩:=hrn6.shape;exact⟨pp,_,cp,e⟩
  subst ay;have ag:Hid (∀V,Sa 78 #[dm G.k G.d (.slice Q O c6)] V λr w'=>Uk r (.bool (G.k==0))/\Se V w'):=λV=>jm G.k G.d Q O c6 V
  have au:w6.heap[W.heap.size]?=some (bj 0 av (.slice none 0 0)):=ar.blk H3.out.2 (by omega);have H6:Hid (RS W (W.heap.size+1) (W.heap.size+1+1) r6 ah M w6/\w6.heap[W.heap.size]?=some (bj 0 av (.slice none 0 0))/\TN (λk=>V3.heap.size<=k) w6 G (.slice Q O c6)):=⟨aw,au,aj⟩;have bd:W.heap.size<V3.heap.size:=ai H3.out.2
  have am:Hid (fA (e :: r) []=if ap then uf r6 G []else none):=by
   cases ap
   ·exact ae [] rfl
   ·exact ae [] rfl
  clear ae aw ar aj au
  have ad:Hid (fA (e :: r) []=none->∀V u,Se w6 V->aH V W.heap.size 0 av (.slice none 0 0)=u->Qs (e :: r) W (.returned (.tuple #[dm 0 av (.slice none 0 0),Tu 130])) u/\u.heap[W.heap.size]?=some (bj 0 av (.slice none 0 0))):=λhb V u Z J=>by
   obtain⟨H,I⟩:=HO.out V u _ _ _ (H6.out.1.bel.trans (Z.mono H6.out.1.bel.size)) (af H6.out.2.1 Z) J;have e:bo (e :: r)=(.mk 0 av [],130):=by unfold bo;rw[hb]
   refine⟨⟨.slice none 0 0,?_,?_,H⟩,I⟩
   ·rw[e];rfl
   ·rw[e];exact lx _ _ _ _
  have aq:Hid (fA (e :: r) []=some G->∀V u,Se w6 V->aH V W.heap.size G.k G.d (.slice Q O c6)=u->Qs (e :: r) W (.returned (.tuple #[dm G.k G.d (.slice Q O c6),Tu 0])) u/\u.heap[W.heap.size]?=some (bj G.k G.d (.slice Q O c6))):=λhb V u Z J=>by
   obtain⟨H,I⟩:=HO.out V u _ _ _ (H6.out.1.bel.trans (Z.mono H6.out.1.bel.size)) (af H6.out.2.1 Z) J;have e:bo (e :: r)=(G,0):=by unfold bo;rw[hb]
   refine⟨⟨.slice Q O c6,?_,?_,H⟩,I⟩
   ·rw[e]
   ·rw[e,<-J];exact TN.sub (λb _ h=>by omega) _ _ (TN.kp (dN _ _ _ _ _) (λb h1 h2=>by omega) _ _ (TN.kp (Kp.of_below (S:=λ_=>False) Z) (λ_ _ h=>h) _ _ H6.out.2.2))
  obtain⟨W7,an⟩:=ea (w6.alloc (bj G.k G.d (.slice Q O c6)));have H7:Hid (Se w6 W7/\W7.heap[w6.heap.size]?=some (bj G.k G.d (.slice Q O c6))):=by rw[<-an];exact⟨aL _ _,ak _ _⟩
  go_upto_region 7 with fail
  try rw[an]
  clear an;have al:Hid (∀V,Se w6 V->V.heap[W.heap.size]?=some (bj 0 av (.slice none 0 0))/\V.cell? ⟨W.heap.size+1,0,none⟩=some (.slice ah r6.length M)/\W.heap.size+1<V.heap.size):=λV hb=>⟨af H6.out.2.1 hb,aa (af H6.out.1.hg hb) rfl,ai (af H6.out.1.hg hb)⟩
  obtain⟨⟨i0,i1,i2,i3,i4,i5,i6,i7⟩,il⟩:=aC H7.out.2;cases ap with
  |false=>
   obtain⟨q1,q2,q3⟩:=al.out W7 H7.out.1;obtain⟨⟨y0,y1,y2,y3,y4,y5,y6,y7⟩,yl⟩:=aC q1;obtain⟨f0,f1,f2,f3,f4,f5,f6,f7⟩:=bw q1;have HE:Hid (fA (e :: r) []=none):=by have:=am.out;unfold Hid;simpa using this
   clear q1 HC;(go_wp2_with fail);obtain⟨u,J⟩:=ea (aH W7 W.heap.size 0 av (.slice none 0 0));obtain⟨H,I⟩:=ad.out HE.out _ u H7.out.1 J;dsimp only[aH,av]at J;rw[J];obtain⟨⟨x0,x1,x2,x3,x4,x5,x6,x7⟩,xl⟩:=aC I;refine R0 (v:=.tuple #[dm 0 av (.slice none 0 0),Tu 130]) (by simp[results,Tryz.f137,go_sem,x0,x1,x2,x3,x4,x5,x6,x7]) rfl ?_;exact H
  |true=>
   by_cases ab:G.k=0
   ·have ac:(G.k==0)=true:=by simpa using ab
    rw[ac]at ag;have HE:Hid (fA (e :: r) []=none):=by have:=am.out;unfold Hid;simpa[uf,ab]using this
    clear ac ab;(go_wp2_with fail);refine(ag.out _).mono ?_;rintro x w8⟨rfl,Y⟩;have H8:=aW (H7.out.1.trans (Y.mono H7.out.1.size));obtain⟨q1,q2,q3⟩:=al.out w8 H8.out;obtain⟨⟨y0,y1,y2,y3,y4,y5,y6,y7⟩,yl⟩:=aC q1;obtain⟨f0,f1,f2,f3,f4,f5,f6,f7⟩:=bw q1;clear q1 HC Y;(go_wp2_with fail);obtain⟨u,J⟩:=ea (aH w8 W.heap.size 0 av (.slice none 0 0));obtain⟨H,I⟩:=ad.out HE.out _ u H8.out J;dsimp only[aH,av]at J;rw[J];obtain⟨⟨x0,x1,x2,x3,x4,x5,x6,x7⟩,xl⟩:=aC I;refine R0 (v:=.tuple #[dm 0 av (.slice none 0 0),Tu 130]) (by simp[results,Tryz.f137,go_sem,x0,x1,x2,x3,x4,x5,x6,x7]) rfl ?_;exact H
   ·have ac:(G.k==0)=false:=by simpa using ab
    rw[ac]at ag;have HE:Hid (fA (e :: r) []=if r6=[]then some G else none):=by have:=am.out;unfold Hid;simpa[uf,ab]using this
    clear ac ab;(go_wp2_with fail);refine(ag.out _).mono ?_;rintro x w8⟨rfl,Y⟩;have H8:=aW (H7.out.1.trans (Y.mono H7.out.1.size));obtain⟨q1,q2,q3⟩:=al.out w8 H8.out;obtain⟨⟨y0,y1,y2,y3,y4,y5,y6,y7⟩,yl⟩:=aC q1;obtain⟨f0,f1,f2,f3,f4,f5,f6,f7⟩:=bw q1;have q4:=af H7.out.2 Y;obtain⟨⟨j0,j1,j2,j3,j4,j5,j6,j7⟩,jl⟩:=aC q4;clear q1 q4 HC Y;cases r6 with
    |nil=>
     have ba:w8.cell? ⟨W.heap.size+1,0,none⟩=some (.slice ah 0 M):=q2;clear q2;(go_wp2_with fail);obtain⟨u,J⟩:=ea (aH w8 W.heap.size G.k G.d (.slice Q O c6));obtain⟨H,I⟩:=aq.out (by have:=HE.out;simpa using this) _ u H8.out J;dsimp only[aH]at J;rw[J];obtain⟨⟨x0,x1,x2,x3,x4,x5,x6,x7⟩,xl⟩:=aC I;refine R0 (v:=.tuple #[dm G.k G.d (.slice Q O c6),Tu 0]) (by simp[results,Tryz.f137,go_sem,x0,x1,x2,x3,x4,x5,x6,x7]) rfl ?_;exact H
    |cons e7 r7=>
     have ba:w8.cell? ⟨W.heap.size+1,0,none⟩=some (.slice ah (r7.length+1) M):=q2;have bf:(0:Int)<(r7.length:Int)+1:=by omega
     clear q2;(go_wp2_with fail);obtain⟨u,J⟩:=ea (aH w8 W.heap.size 0 av (.slice none 0 0));obtain⟨H,I⟩:=ad.out (by have:=HE.out;simpa using this) _ u H8.out J;dsimp only[aH,av]at J;rw[J];obtain⟨⟨x0,x1,x2,x3,x4,x5,x6,x7⟩,xl⟩:=aC I;refine R0 (v:=.tuple #[dm 0 av (.slice none 0 0),Tu 130]) (by simp[results,Tryz.f137,go_sem,x0,x1,x2,x3,x4,x5,x6,x7]) rfl ?_;exact H
def MT (w:World):(Instr.typeAssert .nilIface 20 210 true).run Tryz.prog w=.ok (.tuple #[.agg #[Tu 0,Tu 0],.bool false]) w:=by kernel_rfl
def Jy (c i:Int) (w:World):(Instr.typeAssert (.iface 210 (.agg #[Tu c,Tu i])) 20 210 true).run Tryz.prog w=.ok (.tuple #[.agg #[Tu c,Tu i],.bool true]) w:=by kernel_rfl
def yT (a b c:Nat) (w:World) :
  CallsD Tryz.prog 134 #[pg a,pg b,pg c] .returning w λe I w'=>Uk e (.tuple #[])/\I=.returning/\Below w.heap.size w w':=by
 have u:Hid (∀o,Se w (w.alloc o)):=λo=>(gt _ _).alloc (ge _) _
 refine callsD_of_wpS func134 rfl λG cs H=>?_
 apply wpS_seq
 apply wpS_region
 simp[wpOpsS,go_sem,recoverD,H,ntmps134,Exit.thenS,MT];refine wpS_of_wp ?_;(go_wp2_with fail);have J:=u.out (.cells #[Tu 0,Tu 0] 210);clear u;cases G
 simp_all[bodyPostS,results,Tryz.f134,go_sem]
structure Cz (a b c:Nat) (n:Obj) (e i:Int) (w:World):Prop where
 ha:w.heap[a]?=some n
 hb:w.heap[b]?=some (.cells #[Tu e] 29)
 hc:w.heap[c]?=some (.cells #[Tu i] 3)
 ab:a≠b
 ac:a≠c
 bc:b≠c
def Cz.below {a c:Nat}{n:Obj}{e i:Int}{w':World}(h:Cz a b c n e i w) (u:Below w.heap.size w w'):Cz a b c n e i w':=⟨af h.ha u,af h.hb u,af h.hc u,h.ab,h.ac,h.bc⟩
def Cz.set {a b c:Nat}{k0:Int}{d0:Tv}{s0:Value}{O Q:Int}{w:World}(h:Cz a b c (bj k0 d0 s0) O Q w) (k:Int) (d:Tv) (s:Value) (e i:Int):Cz a b c (bj k d s) e i (((aH w a k d s).setCell ⟨b,0,none⟩ (Tu e)).setCell ⟨c,0,none⟩ (Tu i))/\Kp (λj=>j=a\/j=b\/j=c) w (((aH w a k d s).setCell ⟨b,0,none⟩ (Tu e)).setCell ⟨c,0,none⟩ (Tu i)):=by
 have G:=dN w a k d s;have H:=Kp.set (aH w a k d s) b 0 (Tu e);have I:=Kp.set ((aH w a k d s).setCell ⟨b,0,none⟩ (Tu e)) c 0 (Tu i);have J:=fC h.ha k d s;have M:=G.blk h.hb (λx=>h.ab x.symm);have c1:=G.blk h.hc (λx=>h.ac x.symm);refine⟨⟨I.blk (H.blk J h.ab) h.ac,I.blk (ag M 0 _) h.bc,ag (H.blk c1 (λx=>h.bc x.symm)) 0 _,h.ab,h.ac,h.bc⟩,?_⟩;exact((G.sub (λj u=>.inl u)).trans (H.sub (λj u=>.inr (.inl u)))).trans (I.sub (λj u=>.inr (.inr u)))
def MQ (Q S Y u G H I J M O:Value):#[Q,S,Y]++(((((((Array.replicate 13 undef).setIfInBounds 3 I).setIfInBounds 4 J).setIfInBounds 2 H).setIfInBounds 5 M).setIfInBounds 6 O).setIfInBounds 0 u).setIfInBounds 1 G=#[Q,S,Y,u,G,H,I,J,M,O,undef,undef,undef,undef,undef,undef]:=by kernel_rfl
def xr (a b c:Nat) (k0:Int) (d0:Tv) (s0:Value) (e0 i0:Int) (e:Int) (i:Nat) (w:World) (h:Cz a b c (bj k0 d0 s0) e0 i0 w) :
  CallsD Tryz.prog 134 #[pg a,pg b,pg c] (.panicking (stop e i)) w λr u' w'=>Uk r (.tuple #[])/\u'=.panicking [{ v:=.iface 210 (.agg #[Tu e,Tu (i:Int)]),recovered:=true }]/\Cz a b c (bj 0 av (.slice none 0 0)) e i w'/\Kp (λj=>j=a\/j=b\/j=c) w w':=by
 refine callsD_of_wpS func134 rfl λc₀ cs hu=>?_
 apply wpS_seq
 apply wpS_region
 simp[wpOpsS,go_sem,recoverD,hu,ntmps134,Exit.thenS,Jy];refine wpS_of_wp ?_;rw[MQ];obtain⟨u,I⟩:=ea (w.alloc (.cells #[Tu e,Tu (i:Int)] 210));have Q:Below w.heap.size w u:=by rw[<-I];exact(gt _ _).alloc (ge _) _
 have M:u.heap[w.heap.size]?=some (.cells #[Tu e,Tu (i:Int)] 210):=by rw[<-I];exact ak _ _
 have G:=h.below Q
 have HX:Hid (∃O,(((aH u a 0 av (.slice none 0 0)).setCell ⟨b,0,none⟩ (Tu e)).setCell ⟨c,0,none⟩ (Tu i)).drew=O/\Cz a b c (bj 0 av (.slice none 0 0)) e i O/\Kp (λj=>j=a\/j=b\/j=c) w O):=by
  obtain⟨x1,x2⟩:=G.set 0 av (.slice none 0 0) e i;have H:∀v:World,Below v.heap.size v v.drew:=λv=>(gt _ _).drew
  exact⟨_,rfl,x1.below (H _),((Kp.of_below (S:=λj=>j=a\/j=b\/j=c) Q).trans x2).trans (Kp.of_below (H _))⟩
 obtain⟨⟨n0,n1,n2,n3,n4,n5,n6,n7⟩,nl⟩:=aC G.ha;obtain⟨f0,f1,f2,f3,f4,f5,f6,f7⟩:=bw G.ha;have y0:u.cell? ⟨w.heap.size,0,none⟩=_:=aa M rfl;have y1:u.cell? ⟨w.heap.size,1,none⟩=_:=aa M rfl;have Y:=h.ab;have Z:=h.ac;have ac:=h.bc;have ab:=h.ab.symm;have ad:=h.ac.symm;have ae:=h.bc.symm;have za:w.heap.size≠a:=λx=>by have:=ai h.ha;omega
 have zb:w.heap.size≠b:=λx=>by have:=ai h.hb;omega
 have zc:w.heap.size≠c:=λx=>by have:=ai h.hc;omega
 have z1:=ai M;have b0:u.cell? (Tw b 0)=_:=aa G.hb rfl;have c0:u.cell? (Tw c 0)=_:=aa G.hc rfl;have bl:=ai G.hb;have cl:=ai G.hc;have fb:u.frozen? (Tw b 0)=false:=aj G.hb;have fc:u.frozen? (Tw c 0)=false:=aj G.hc;rw[I];clear Q M G h I;generalize w.heap.size=q at *;(go_wp2_with fail);go_region;obtain⟨O,J,hz,kz⟩:=HX.out;unfold aH at J;dsimp only[av]at J;rw[J];clear HX J n0 n1 n2 n3 n4 n5 n6 n7 nl f0 f1 f2 f3 f4 f5 f6 f7 y0 y1 b0 c0 bl cl fb fc Y Z ac ab ad ae za zb zc z1;(go_wp2_with fail)
 cases c₀
 simp_all[bodyPostS,results,Tryz.f134,go_sem]
