import Derived.Test.YtpdlohfdjiaegaaGreatDoorR32
set_option linter.unusedVariables false
set_option linter.unusedSimpArgs false
set_option maxHeartbeats 8000000
set_option maxRecDepth 100000
namespace Go.Proofs.YtpdlohfdjiaegaaGreatDoor
open Go.RowKit
open Lw (Dc bE rt frm dep rtT rtN dcs au aH)
variable {W:World}{g:Nat}{st:Sy}
def Sy.dexpr (s:Sy):Sy:=match s.ns with
 |[]=>s
 |n :: r=>if n.k=19 then s.aws [.S,.I 3] else if n.k=31/\n.s=false then ({ s with ns:=⟨n.k,n.b,true⟩ :: r }:Sy).aws [.B0] else s
def Sy.dopens (s:Sy) (k:Int):Sy:=
 let s1:=(if k=21 then s.dexpr else s).mark k
 ({ s1 with ns:=⟨k,0,false⟩ :: s1.ns }:Sy).aws (opP k)
theorem Tryz.info138:(Tryz.prog.info? 138).map (fun i=>(i.zero,i.size,i.bytes))=some (some (.agg #[.int .u8 0,.int .i64 0,.bool false]),3,24):=by kernel_rfl
theorem wW {ops:Array Oper}{rest:List Oper}{o:Oper}{a:Act}{Q:Exit->Act->World->Prop}(hgd:o.guard=none) (s x:Operand)
  (ho:o.op=.call { callee:=.builtin .append,args:=#[s,x],argTypes:=#[75,75] }) (v:Value) (l:List Nd) (d:Nd) (hs:a.eval s=v) (hr:Rn tM W v l)
  (g c:Nat) (hx:a.eval x=.slice (some ⟨g,0,none⟩) 1 c) (hg:W.heap[g]?=some (.cells #[.int .u8 d.k,.int .i64 d.b,.bool d.s] 138 (0,0))) (hl:l.length<=1000000000)
  (h:∀q cap w',Rn tM w' (.slice (some ⟨q,0,none⟩) (l.length+1) cap) (d :: l)->W.grownBy w' v.ownBlock->(v.ownBlock=some q\/q=W.heap.size)->wpList Tryz.prog ops Q rest (a.put o.dst (.slice (some ⟨q,0,none⟩) (l.length+1) cap)) w'):wpList Tryz.prog ops Q (o :: rest) a W:=by
 obtain ⟨i0,hi,hz0,hz1,hz2⟩:=Az Tryz.info138;refine Cq (P:=Tryz.prog) W hgd s x 75 ho 0 138 i0 _ 3 24 Tryz.underlying75 hi hz0 hz1 hz2 rfl (by decide) v _ _ hs hr ⟨g,0,none⟩ 1 c (ncs [d]) hx (by rw [fI];rfl) ?_ (om [d]) (by omega) (by unfold maxLen;omega) (by omega) (zx _) _ rfl ?_
 ·intro j u hu;refine As hg j u ?_;have e:ncs [d]=[.int .u8 d.k,.int .i64 d.b,.bool d.s]:=by simp [ncs,aN,Nd.cs]
  rw [e] at hu
  simpa using hu
 ·intro q cap w' h1 h2 h4 _;refine h q cap w' ?_ h2 h4;unfold Rn;rw [AA,fJ,List.length_cons];exact h1
theorem DS.push {S:Nat->Prop}{W W1 w3:World}{g:Nat}{st:Sy}{p:Option Addr}{n c q cap:Nat}{d:Nd}(h:DS S W g st) (hc:W.cell? ⟨g,0,none⟩=some (.slice p n c)) (hb:Below W.heap.size W W1) (hg:W1.grownBy w3 (Value.slice p n c).ownBlock) (hr:Rn tM w3 (.slice (some ⟨q,0,none⟩) (st.ns.length+1) cap) (d :: st.ns)) (hn:(Value.slice p n c).ownBlock=some q\/q=W1.heap.size) :
  (w3.cell? ⟨g,0,none⟩=some (.slice p n c)/\w3.frozen? ⟨g,0,none⟩=false)/\DM S g W (w3.setCell ⟨g,0,none⟩ (.slice (some ⟨q,0,none⟩) (st.ns.length+1) cap)) { st with ns:=d :: st.ns }:=by
 obtain ⟨vn,vw,hv,h1,h2⟩:=h.ex;have e1:vn=.slice p n c:=zT (hv.sb.cells.1.symm.trans hc);subst e1;have k1:=hv.below hb;have hk:=(Kp.of_grown hg).sub (S:=fun k=>(Value.slice p n c).ownBlock=some k) (fun k e=>e.symm);have hne:¬(Value.slice p n c).ownBlock=some g:=ay k1.rn k1.sb (by decide);have h3:=k1.sb.kp hk hne;have d3:=k1.ro.kp hk (fun k e1 e2=>iE k1.rn k1.ro (by decide) k e2 e1);refine ⟨⟨aa h3 rfl,h3.frozen 0⟩,DM.mk' (vn:=.slice (some ⟨q,0,none⟩) (st.ns.length+1) cap) (vw:=vw) ⟨af h3 0 _,(Kp.set _ _ _ _).row hr (fun k e1 e2=>ay hr h3 (by decide) (by rw [e1,e2])),d3.kp (Kp.set _ _ _ _) (fun k e1 e2=>d3.ne h3 (by decide) (by rw [e1,e2]))⟩ h.sg (fun k e=>?_) (fun k e=>.inl (h2 k e)) (((Kp.of_below hb).step hk (fun k _ e=>h1 k e)).step (Kp.set _ _ _ _) (fun k _ e=>by rw [e];exact h.sg))⟩;simp only [Value.ownBlock,zL] at e
 rcases hn with hn|hn
 ·exact .inl (h1 k (by rw [<-e];exact hn))
 ·exact .inr (by have:=hb.size;omega)
theorem DS.mark {S:Nat->Prop}(h:DS S W g st) (n:Nat):W.frozen? ⟨g,2,none⟩=false/\DM S g W (W.setCell ⟨g,2,none⟩ (.int .i64 n)) { st with mr:=some n }:=by
 obtain ⟨vn,vw,hv,s1,s2⟩:=h.ex;have hk:=Kp.set W g 2 (.int .i64 n);exact ⟨hv.sb.frozen 2,DM.mk' ⟨af hv.sb 2 _,hk.row hv.rn (fun k e1 e2=>ay hv.rn hv.sb (by decide) (by rw [e1,e2])),hv.ro.kp hk (fun k e1 e2=>hv.ro.ne hv.sb (by decide) (by rw [e1,e2]))⟩ h.sg (fun k e=>.inl (s1 k e)) (fun k e=>.inl (s2 k e)) (hk.sub (fun k e=>by rw [e];exact h.sg))⟩
theorem DS.fill {S:Nat->Prop}(h:DS S W g st) {n:Nd}{r:List Nd}(e:st.ns=n :: r) {b cap:Nat}(hc:W.cell? ⟨g,0,none⟩=some (.slice (some ⟨b,0,none⟩) (r.length+1) cap)):W.frozen? ⟨b,r.length*3+2,none⟩=false/\DM S g W (W.setCell ⟨b,r.length*3+2,none⟩ (.bool true)) { st with ns:=⟨n.k,n.b,true⟩ :: r }:=by
 obtain ⟨vn,vw,hv,s1,s2⟩:=h.ex;have e1:vn=.slice (some ⟨b,0,none⟩) (r.length+1) cap:=zT (hv.sb.cells.1.symm.trans hc);subst e1;have hn:=hv.rn;rw [e] at hn;exact ⟨Bg hn _,DM.mk' (DV.nd (n:=n) (m:=⟨n.k,n.b,true⟩) e hv 2 (.bool true) (by omega) rfl) h.sg (fun k e2=>.inl (s1 k e2)) (fun k e2=>.inl (s2 k e2)) ((Kp.set _ _ _ _).sub (fun k e2=>by rw [e2];exact s1 b rfl))⟩
theorem DS.cells {S:Nat->Prop}{W:World}{g:Nat}{st:Sy}(h:DS S W g st):∃p c p2 c2,W.cell? ⟨g,0,none⟩=some (.slice p st.ns.length c)/\W.cell? ⟨g,1,none⟩=some (.slice p2 st.ws.length c2)/\W.cell? ⟨g,2,none⟩=some (.int .i64 (lw st.mr))/\W.cell? ⟨g,3,none⟩=some (.bool st.wr)/\W.cell? ⟨g,4,none⟩=some (.bool st.en)/\W.cell? ⟨g,5,none⟩=some (.bool st.pt)/\W.cell? ⟨g,6,none⟩=some (.bool false)/\Rn tM W (.slice p st.ns.length c) st.ns/\Rof W (.slice p2 st.ws.length c2) st.ws:=by
 obtain ⟨vn,vw,hv,s1,s2⟩:=h.ex;obtain ⟨p,c,e,_⟩:=av hv.rn;obtain ⟨p2,c2,e2,_⟩:=hv.ro.shape;subst e e2;obtain ⟨c0,c1,c2,c3,c4,c5,c6⟩:=hv.sb.cells;exact ⟨p,c,p2,_,c0,c1,c2,c3,c4,c5,c6,hv.rn,hv.ro⟩
def Sy.opn (s1:Sy) (k:Int):Sy:=({ (s1.mark k) with ns:=⟨k,0,false⟩ :: s1.ns }:Sy).aws (opP k)
theorem gr (s:Sy) (k:Int):s.dopens k=(if k=21 then s.dexpr else s).opn k:=by
 unfold Sy.dopens Sy.opn;simp only;have:∀u:Sy,(u.mark k).ns=u.ns:=fun u=>by unfold Sy.mark;split <;> rfl
 rw [this]
structure OK3 (k:Int) (c1 c2 c3:Bool):Prop where
 h1:dR k=c1
 h2:([21,22,23,24]:List Int).contains k=c2
 h3:([14,7,11]:List Int).contains k=c3
 h4:(c2 && c3)=false
theorem sM (k:Int):([3,4,5,11,13,14,15,16,17,18,19,20]:List Int).contains k=dR k:=by
 unfold dR;simp only [List.contains_cons,List.contains_nil]
 by_cases h:k=3\/k=4\/k=5\/k=11\/k=13\/k=14\/k=15\/k=16\/k=17\/k=18\/k=19\/k=20
 ·rw [zB h]
  rcases h with h|h|h|h|h|h|h|h|h|h|h|h <;> subst h <;> rfl
 ·rw [zA h];simp only [not_or] at h;simp [h]
theorem ok3 (k:Int):OK3 k (dR k) (([21,22,23,24]:List Int).contains k) (([14,7,11]:List Int).contains k):=by
 refine ⟨rfl,rfl,rfl,?_⟩
 by_cases h:k=21\/k=22\/k=23\/k=24
 ·rcases h with h|h|h|h <;> subst h <;> rfl
 ·simp only [not_or] at h;simp [h]
theorem xC {k:Int}{c1 c2 c3:Bool}(h:OK3 k c1 c2 c3):opP k=if c2=true then [.I 0] else if c3=true then [.I 2] else []:=by
 have h2:=h.h2;have h3:=h.h3;subst h2 h3;unfold opP;simp
theorem ot (W:World) (o:Obj) (ks:List Int) (T:TypeId):Lkd ((W.alloc o).alloc (.cells (ks.map (Value.int .u8)).toArray T)) (some ⟨W.heap.size+1,0,none⟩) ks:=by
 have:=bY (W.alloc o) ks T;rw [ge] at this;exact this
theorem cK (s:Sy) (k:Int):(s.mark k).ns=s.ns:=by unfold Sy.mark;split <;> rfl
theorem gX (s:Sy) (k:Int):(s.mark k).ws=s.ws:=by unfold Sy.mark;split <;> rfl
theorem lq {S:Nat->Prop}{s1:Sy}(h:DS S W g s1) (k:Int) (hb:Bdd 400000000 s1) (hk:k≠21) :
  Aa 42 #[spg g,.int .u8 k] W fun rr w'=>rr=.returned (.tuple #[])/\DM S g W w' (s1.opn k):=by
 obtain ⟨p,c,p2,c2,c0,c1,c2',c3,c4,c5,c6,hrn,hro⟩:=h.cells;have hnl:=hb.2.1;have hgl:=h.glt;have HD:Hid (DM S g W W s1):=DM.refl h;have HBs:Hid (Bdd 500000000 s1):=hb.mono (by omega);have q1:(k == 21)=false:=by simpa using hk
 have HI:Hid (∀(ks:List Int) (ao:Option Addr) (cap:Nat) (k:Int) (V:World),Lkd V ao ks->ks.length<=1000->Aa 77 #[.slice ao ks.length cap,.int .u8 k] V fun r w'=>r=.returned (.bool (ks.contains k))/\w'=V):=fk;obtain ⟨b1,b2,b3,hO⟩:∃b1 b2 b3,OK3 k b1 b2 b3:=⟨_,_,_,ok3 k⟩;have HO1:Hid (([3,4,5,11,13,14,15,16,17,18,19,20]:List Int).contains k=b1):=by show _=_;rw [sM];exact hO.h1
 have HO2:Hid (([21,22,23,24]:List Int).contains k=b2):=hO.h2;have HO3:Hid (([14,7,11]:List Int).contains k=b3):=hO.h3;have HOP:=xC hO;have HLn:=hO.h1;have h23:=hO.h4
 have HMk:Hid (∀m,s1.mr=m->(b1=true/\s1.mr=none->s1.mark k={ s1 with mr:=some s1.ws.length })/\(¬(b1=true/\s1.mr=none)->s1.mark k=s1)):=fun m hm=>by
  unfold Sy.mark;rw [HLn];exact ⟨fun h=>by rw [zw h],fun h=>by rw [zu h]⟩
 clear hk hO HLn hrn hro c3 c4 c5 c6 c1 c2' h hb;cases hn:s1.ns
 case' nil=>
  rw [hn] at c0 hnl;simp only [Ao] at c0;clear hn hnl
  go_enter CC,Ck
  go_upto_region 6 with fail
 case' cons n0 r0=>
  rw [hn] at c0 hnl;simp only [List.length_cons] at c0 hnl;have q3:(0:Int)<=r0.length:=by omega
  clear hn
  go_enter CC,Ck
  go_upto_region 6 with fail
 all_goals
  refine aA (fun V=>DM S g W V s1) HD.out ?_;intro V hV;obtain ⟨S1,hS1,hseq⟩:=hV.seq;obtain ⟨p9,c9,p8,c8,d0,d1,d2,d3,d4,d5,d6,hrn,hro⟩:=hS1.cells;have hg1:=hS1.glt;have HV1:Hid (∀X,Ab V X->DM S g W X s1):=fun X hX=>hV.below hX
  have HMK:Hid (∀X,Ab V X->X.frozen? ⟨g,2,none⟩=false/\DM S g W (X.setCell ⟨g,2,none⟩ (.int .i64 s1.ws.length)) { s1 with mr:=some s1.ws.length }):=fun X hX=>by
   obtain ⟨S2,hS2,hseq2⟩:=(hV.below hX).seq;have:=hS2.mark s1.ws.length;exact ⟨this.1,hseq2 _ _ this.2⟩
  have hfz:=(HMK.out V (gt _ _)).1;have HAl:Hid (∀o,Ab V (V.alloc o)):=fun o=>(gt _ _).alloc (eq _) _
  clear hV hS1 hseq hrn hro d0 d3 d4 d5 d6;have HMKa:Hid (∀o,DM S g W ((V.setCell ⟨g,2,none⟩ (.int .i64 s1.ws.length)).alloc o) { s1 with mr:=some s1.ws.length }):=fun o=>(HMK.out V (gt _ _)).2.below ((gt _ _).alloc (eq _) _)
  cases b1
  case' false=>
   have HME:Hid (s1.mark k=s1):=(HMk.out _ rfl).2 (fun h=>by cases h.1)
   go_upto_region 9 with (go_at_call 77;refine (HI.out [3,4,5,11,13,14,15,16,17,18,19,20] _ _ k _ (bY _ [3,4,5,11,13,14,15,16,17,18,19,20] _) (by decide)).mono ?_;rintro r1 w1 ⟨e1,hw1⟩;rw [HO1.out] at e1;subst e1;subst hw1)
   refine aA (fun X=>DM S g W X (s1.mark k)) (by rw [HME.out];exact HV1.out _ (HAl.out _)) ?_;intro X hX;clear HV1 HMK HAl hfz hg1 d1 HMKa
  case' true=>
   cases hm:s1.mr
   case' none=>
    have HME:Hid (s1.mark k={ s1 with mr:=some s1.ws.length }):=(HMk.out _ rfl).1 ⟨rfl,hm⟩;rw [hm] at d2;have d2':V.cell? ⟨g,2,none⟩=some (.int .i64 (-1)):=d2;clear d2
    go_upto_region 9 with (go_at_call 77;refine (HI.out [3,4,5,11,13,14,15,16,17,18,19,20] _ _ k _ (bY _ [3,4,5,11,13,14,15,16,17,18,19,20] _) (by decide)).mono ?_;rintro r1 w1 ⟨e1,hw1⟩;rw [HO1.out] at e1;subst e1;subst hw1)
    refine aA (fun X=>DM S g W X (s1.mark k)) (by rw [HME.out];first|exact (HMK.out _ (HAl.out _)).2|exact HMKa.out _) ?_;intro X hX;clear HV1 HMK HAl hfz hg1 d1 HMKa
   case' some m0=>
    have HME:Hid (s1.mark k=s1):=(HMk.out _ rfl).2 (fun h=>by rw [hm] at h;cases h.2);rw [hm] at d2;have d2':V.cell? ⟨g,2,none⟩=some (.int .i64 (m0:Int)):=d2;have q2:¬(m0:Int)<0:=by omega
    clear d2
    go_upto_region 9 with (go_at_call 77;refine (HI.out [3,4,5,11,13,14,15,16,17,18,19,20] _ _ k _ (bY _ [3,4,5,11,13,14,15,16,17,18,19,20] _) (by decide)).mono ?_;rintro r1 w1 ⟨e1,hw1⟩;rw [HO1.out] at e1;subst e1;subst hw1)
    refine aA (fun X=>DM S g W X (s1.mark k)) (by rw [HME.out];exact HV1.out _ (HAl.out _)) ?_;intro X hX;clear HV1 HMK HAl hfz hg1 d1 HMKa
  all_goals
   obtain ⟨S2,hS2,hseq2⟩:=hX.seq;obtain ⟨p7,c7,p6,c6',z0,z1,z2,z3,z4,z5,z6,zrn,zro⟩:=hS2.cells;have hg2:=hS2.glt;have hnl2:(s1.mark k).ns.length<=1000000000:=by have:=HBs.out.2.1;rw [cK];omega
   have HPu:Hid (∀o w3 q cap,Rn tM w3 (.slice (some ⟨q,0,none⟩) ((s1.mark k).ns.length+1) cap) (⟨k,0,false⟩ :: (s1.mark k).ns)->(X.alloc o).grownBy w3 (Value.slice p7 (s1.mark k).ns.length c7).ownBlock->((Value.slice p7 (s1.mark k).ns.length c7).ownBlock=some q\/q=(X.alloc o).heap.size)->(w3.cell? ⟨g,0,none⟩=some (.slice p7 (s1.mark k).ns.length c7)/\w3.frozen? ⟨g,0,none⟩=false)/\DM S g W (w3.setCell ⟨g,0,none⟩ (.slice (some ⟨q,0,none⟩) ((s1.mark k).ns.length+1) cap)) { (s1.mark k) with ns:=⟨k,0,false⟩ :: (s1.mark k).ns }):=fun o w3 q cap a1 a2 a3=>by
    have:=hS2.push (d:=⟨k,0,false⟩) z0 ((gt _ _).alloc (eq _) o) a2 a1 a3;exact ⟨this.1,hseq2 _ _ this.2⟩
   have HRn:Hid (∀o,Rn tM (X.alloc o) (.slice p7 (s1.mark k).ns.length c7) (s1.mark k).ns):=fun o=>aE zrn ((gt _ _).alloc (eq _) o)
   have HNL:Hid ((s1.mark k).ns.length<=1000000000):=hnl2;obtain ⟨L,hL⟩:∃L,(s1.mark k).ns.length=L:=⟨_,rfl⟩;rw [hL] at z0 HPu HRn;have HLL:Hid ((s1.mark k).ns.length=L):=hL;clear hX hS2 hseq2 z1 z2 z3 z4 z5 z6 zrn zro hnl2 hL
   go_upto_region 10 with (at_builtin;refine wW (by rfl) _ _ (by rfl) (.slice p7 L c7) (s1.mark k).ns ⟨k,0,false⟩ (by rfl) (HRn.out _) X.heap.size 1 (by rfl) (ag X _) HNL.out ?_;intro q cap w3 a1 a2 a3;rw [HLL.out] at a1 ⊢;obtain ⟨⟨a4,a5⟩,a6⟩:=HPu.out _ w3 q cap a1 a2 a3;have HY:Hid (DM S g W (w3.setCell ⟨g,0,none⟩ (.slice (some ⟨q,0,none⟩) (L+1) cap)) { (s1.mark k) with ns:=⟨k,0,false⟩ :: (s1.mark k).ns }):=a6;clear a1 a2 a3 a6)
   refine aA (fun Y=>DM S g W Y { (s1.mark k) with ns:=⟨k,0,false⟩ :: (s1.mark k).ns }) HY.out ?_;intro Y hY;have HYb:Hid (∀Z,Ab Y Z->DM S g W Z { (s1.mark k) with ns:=⟨k,0,false⟩ :: (s1.mark k).ns }):=fun Z hZ=>hY.below hZ
   have HYa:Hid (∀o,Ab Y (Y.alloc o)):=fun o=>(gt _ _).alloc (eq _) _
   have HWt:Hid (∀(Z:World) (l:List Pz) (t:ByteArray),Ab Y Z->(∀p∈l,p.few=true)->t.data.toList=l.map pzb->l.length<=10->Aa 76 #[spg g,.string t] Z fun rr w'=>rr=.returned (.tuple #[])/\DM S g W w' (({ (s1.mark k) with ns:=⟨k,0,false⟩ :: (s1.mark k).ns }:Sy).aws l)):=fun Z l t hZ h1 h2 h3=>by
    obtain ⟨S3,hS3,hseq3⟩:=(hY.below hZ).seq;refine (cM hS3 (n:=⟨k,0,false⟩) (r:=(s1.mark k).ns) rfl l h1 t h2 h3 ?_).mono (fun rr w' ⟨a,b⟩=>⟨a,hseq3 _ _ b⟩);obtain ⟨e1,e2,e3⟩:=HBs.out;refine ⟨by show (s1.mark k).ws.length<=_;rw [gX];omega,by show ((⟨k,0,false⟩:Nd) :: (s1.mark k).ns).length<=_;rw [cK,List.length_cons];omega,fun x hx=>?_⟩
    rcases zK.1 hx with rfl|hx
    ·show 0<=_;omega
    ·rw [cK] at hx;have:=e3 x hx;omega
   clear hY HY z0 a4 a5 HPu HRn HNL;cases b2
   ·cases b3
    ·have HFn:Hid (s1.opn k=({ (s1.mark k) with ns:=⟨k,0,false⟩ :: (s1.mark k).ns }:Sy).aws []):=by
      show _=_
      unfold Sy.opn;rw [HOP,cK]
      try rfl
     clear HOP h23
     go_upto_region 12 with (go_at_call 77;refine (HI.out [21,22,23,24] _ _ k _ (bY _ [21,22,23,24] _) (by decide)).mono ?_;rintro r1 w1 ⟨e1,hw1⟩;rw [HO2.out] at e1;subst e1;subst hw1)
     go_wp2_with (go_at_call 77;refine (HI.out [14,7,11] _ _ k _ (ot _ _ [14,7,11] _) (by decide)).mono ?_;rintro r1 w1 ⟨e1,hw1⟩;rw [HO3.out] at e1;subst e1;subst hw1)
     go_end0
     rw [HFn.out];exact ⟨rfl,HYb.out _ ((HYa.out _).alloc (HYa.out _).size _)⟩
    ·have HFn:Hid (s1.opn k=({ (s1.mark k) with ns:=⟨k,0,false⟩ :: (s1.mark k).ns }:Sy).aws [.I 2]):=by
      show _=_
      unfold Sy.opn;rw [HOP,cK]
      try rfl
     clear HOP h23
     go_upto_region 12 with (go_at_call 77;refine (HI.out [21,22,23,24] _ _ k _ (bY _ [21,22,23,24] _) (by decide)).mono ?_;rintro r1 w1 ⟨e1,hw1⟩;rw [HO2.out] at e1;subst e1;subst hw1)
     go_wp2_with (first|(go_at_call 77;refine (HI.out [14,7,11] _ _ k _ (ot _ _ [14,7,11] _) (by decide)).mono ?_;rintro r1 w1 ⟨e1,hw1⟩;rw [HO3.out] at e1;subst e1;subst hw1)|(go_at_call 76;refine (HWt.out _ [.I 2] ⟨#[50]⟩ ((HYa.out _).alloc (HYa.out _).size _) (by simp [Pz.few]) rfl (by decide)).mono ?_;rintro r2 w2 ⟨rfl,hD⟩;have HZ:Hid (DM S g W w2 (({ (s1.mark k) with ns:=⟨k,0,false⟩ :: (s1.mark k).ns }:Sy).aws [.I 2])):=hD;clear hD))
     go_end0
     rw [HFn.out];exact ⟨rfl,HZ.out⟩
   ·cases b3
    ·have HFn:Hid (s1.opn k=({ (s1.mark k) with ns:=⟨k,0,false⟩ :: (s1.mark k).ns }:Sy).aws [.I 0]):=by
      show _=_
      unfold Sy.opn;rw [HOP,cK]
      try rfl
     clear HOP h23
     go_upto_region 12 with (first|(go_at_call 77;refine (HI.out [21,22,23,24] _ _ k _ (bY _ [21,22,23,24] _) (by decide)).mono ?_;rintro r1 w1 ⟨e1,hw1⟩;rw [HO2.out] at e1;subst e1;subst hw1)|(go_at_call 76;refine (HWt.out _ [.I 0] ⟨#[54]⟩ (HYa.out _) (by simp [Pz.few]) rfl (by decide)).mono ?_;rintro r2 w2 ⟨rfl,hD⟩;have HZ:Hid (∀o,DM S g W (w2.alloc o) (({ (s1.mark k) with ns:=⟨k,0,false⟩ :: (s1.mark k).ns }:Sy).aws [.I 0])):=(fun o=>hD.below ((gt _ _).alloc (eq _) _));clear hD))
     go_wp2_with (go_at_call 77;refine (HI.out [14,7,11] _ _ k _ (bY _ [14,7,11] _) (by decide)).mono ?_;rintro r1 w1 ⟨e1,hw1⟩;rw [HO3.out] at e1;subst e1;subst hw1)
     go_end0
     rw [HFn.out];exact ⟨rfl,HZ.out _⟩
    ·cases h23
theorem mQ {S:Nat->Prop}(h:DS S W g st) (hb:Bdd 400000000 st) :
  Aa 42 #[spg g,.int .u8 21] W fun rr w'=>rr=.returned (.tuple #[])/\DM S g W w' (st.dexpr.opn 21):=by
 obtain ⟨p,c,p2,c2,c0,c1,c2',c3,c4,c5,c6,hrn,hro⟩:=h.cells;have hnl:=hb.2.1;have hgl:=h.glt;have HI:Hid (∀(ks:List Int) (ao:Option Addr) (cap:Nat) (k:Int) (V:World),Lkd V ao ks->ks.length<=1000->Aa 77 #[.slice ao ks.length cap,.int .u8 k] V fun r w'=>r=.returned (.bool (ks.contains k))/\w'=V):=fk;have HO1:Hid (([3,4,5,11,13,14,15,16,17,18,19,20]:List Int).contains 21=false):=rfl;have HO2:Hid (([21,22,23,24]:List Int).contains 21=true):=rfl;have HO3:Hid (([14,7,11]:List Int).contains 21=false):=rfl;obtain ⟨s1,hs1⟩:∃s1,st.dexpr=s1:=⟨_,rfl⟩;rw [hs1];have hmk21:s1.mark 21=s1:=by unfold Sy.mark;rw [zu (fun h=>by cases h.1)]
 have HMk:Hid (∀m,s1.mr=m->(false=true/\s1.mr=none->s1.mark 21={ s1 with mr:=some s1.ws.length })/\(¬(false=true/\s1.mr=none)->s1.mark 21=s1)):=fun m hm=>by
  exact ⟨fun h=>(by cases h.1),fun _=>hmk21⟩
 have HOP:opP 21=[.I 0]:=rfl;have h23:True:=trivial;cases hn:st.ns
 case' nil=>
  have e9:st.dexpr=st:=by unfold Sy.dexpr;rw [hn]
  have HD:Hid (DM S g W W s1):=by rw [<-hs1,e9];exact DM.refl h
  have HBs:Hid (Bdd 500000000 s1):=by rw [<-hs1,e9];exact hb.mono (by omega)
  rw [hn] at c0 hnl;simp only [Ao] at c0;clear hn e9 hnl;clear hrn hro c3 c4 c5 c6 c1 c2' h hb hs1
  go_enter CC,Ck
  go_upto_region 6 with fail
 case' cons n r=>
  have hn1:=h.nodes hn;obtain ⟨b,cap,x00,x0,x1,x2,hbl⟩:=hn1;have hrl:r.length<=900000000:=by rw [hn] at hnl;simp at hnl;omega
  have q3:(0:Int)<=r.length:=by omega
  have q4:(r.length:Int)<(r.length:Int)+1:=by omega
  by_cases h19:n.k=19
  case' pos=>
   have e9:st.dexpr=st.aws [.S,.I 3]:=by unfold Sy.dexpr;rw [hn];simp only;rw [zw h19]
   have HBs:Hid (Bdd 500000000 s1):=by rw [<-hs1,e9];exact (hb.aws [.S,.I 3]).mono (by simp)
   have e10:(st.aws [.S,.I 3]).ns=⟨n.k,n.b+1,n.s⟩ :: r:=by show awN (.I 3) (awN .S st.ns)=_;rw [hn];rfl
   have HWz:Hid (Aa 76 #[spg g,.string ⟨#[83,51]⟩] W fun rr w'=>rr=.returned (.tuple #[])/\DM S g W w' s1/\g<w'.heap.size/\∃b cap,w'.cell? ⟨g,0,none⟩=some (.slice (some ⟨b,0,none⟩) (r.length+1) cap)/\w'.cell? ⟨b,r.length*3,none⟩=some (.int .u8 n.k)):=by
    refine (cM h hn [.S,.I 3] (by simp [Pz.few]) ⟨#[83,51]⟩ rfl (by decide) (hb.mono (by omega))).mono (fun rr w' ⟨a,hD⟩=>?_);obtain ⟨S3,hS3,_⟩:=hD.seq;obtain ⟨b,cap,y0,y1,_⟩:=hS3.nodes e10;rw [<-hs1,e9];exact ⟨a,hD,hS3.glt,b,cap,y0,y1⟩
   have q6:(n.k == 19)=true:=by simpa using h19
   have q7:(n.k == 31)=false:=by simp;omega
   clear hn e9 e10 hnl c0 h19;clear hrn hro c3 c4 c5 c6 c1 c2' h hb hs1
   go_enter CC,Ck
   go_upto_region 6 with (go_at_call 76;refine HWz.out.mono ?_;rintro r2 w2 ⟨rfl,hD,hg3,b3,cap3,y0,y1⟩;have HD:Hid (DM S g W w2 s1):=hD;clear hD)
  case' neg=>
   by_cases h31:n.k=31/\n.s=false
   case' pos=>
    obtain ⟨h31,hns⟩:=h31;obtain ⟨f1,f2⟩:=h.fill hn x00;have e9:st.dexpr=({ st with ns:=⟨n.k,n.b,true⟩ :: r }:Sy).aws [.B0]:=by unfold Sy.dexpr;rw [hn];simp only;rw [zu (by omega),zw ⟨h31,hns⟩]
    have hb2:Bdd 400000000 ({ st with ns:=⟨n.k,n.b,true⟩ :: r }:Sy):=by
     obtain ⟨e1,e2,e3⟩:=hb;refine ⟨e1,by rw [hn] at e2;exact e2,fun x hx=>?_⟩
     rcases zK.1 hx with rfl|hx
     ·exact e3 n (by rw [hn];exact zV)
     ·exact e3 x (by rw [hn];exact zX _ hx)
    have HBs:Hid (Bdd 500000000 s1):=by rw [<-hs1,e9];exact (hb2.aws [.B0]).mono (by simp)
    have HWz:Hid (Aa 76 #[spg g,.string ⟨#[48]⟩] (W.setCell ⟨b,r.length*3+2,none⟩ (.bool true)) fun rr w'=>rr=.returned (.tuple #[])/\DM S g W w' s1):=by
     obtain ⟨S3,hS3,hseq3⟩:=f2.seq;refine (cM hS3 (n:=⟨n.k,n.b,true⟩) (r:=r) rfl [.B0] (by simp [Pz.few]) ⟨#[48]⟩ rfl (by decide) (hb2.mono (by omega))).mono (fun rr w' ⟨a,b⟩=>⟨a,?_⟩);rw [<-hs1,e9];exact hseq3 _ _ b
    have q6:(n.k == 19)=false:=by simp;omega
    have q7:(n.k == 31)=true:=by simpa using h31
    rw [hns] at x2;clear hn e9 hnl c0 h31 hns h19 f2 hb2;clear hrn hro c3 c4 c5 c6 c1 c2' h hb hs1
    go_enter CC,Ck
    go_upto_region 6 with (go_at_call 76;refine HWz.out.mono ?_;rintro r2 w2 ⟨rfl,hD⟩;have HD:Hid (DM S g W w2 s1):=hD;clear hD)
   case' neg=>
    by_cases h31a:n.k=31
    case' pos=>
     have e9:st.dexpr=st:=by unfold Sy.dexpr;rw [hn];simp only;rw [zu h19,zu h31]
     have HD:Hid (DM S g W W s1):=by rw [<-hs1,e9];exact DM.refl h
     have HBs:Hid (Bdd 500000000 s1):=by rw [<-hs1,e9];exact hb.mono (by omega)
     have q6:(n.k == 19)=false:=by simpa using h19
     have q7:(n.k == 31)=true:=by simpa using h31a
     have q8:n.s=true:=by cases hs:n.s with|true=>rfl|false=>exact absurd ⟨h31a,hs⟩ h31
     rw [q8] at x2;clear h31a q8;clear hn e9 hnl c0 h19 h31;clear hrn hro c3 c4 c5 c6 c1 c2' h hb hs1
     go_enter CC,Ck
     go_upto_region 6 with fail
    case' neg=>
     have e9:st.dexpr=st:=by unfold Sy.dexpr;rw [hn];simp only;rw [zu h19,zu h31]
     have HD:Hid (DM S g W W s1):=by rw [<-hs1,e9];exact DM.refl h
     have HBs:Hid (Bdd 500000000 s1):=by rw [<-hs1,e9];exact hb.mono (by omega)
     have q6:(n.k == 19)=false:=by simpa using h19
     have q7:(n.k == 31)=false:=by simpa using h31a
     clear h31a;clear hn e9 hnl c0 h19 h31;clear hrn hro c3 c4 c5 c6 c1 c2' h hb hs1
     go_enter CC,Ck
     go_upto_region 6 with fail
 all_goals
  refine aA (fun V=>DM S g W V s1) HD.out ?_;intro V hV;obtain ⟨S1,hS1,hseq⟩:=hV.seq;obtain ⟨p9,c9,p8,c8,d0,d1,d2,d3,d4,d5,d6,hrn,hro⟩:=hS1.cells;have hg1:=hS1.glt;have HV1:Hid (∀X,Ab V X->DM S g W X s1):=fun X hX=>hV.below hX
  have HMK:Hid (∀X,Ab V X->X.frozen? ⟨g,2,none⟩=false/\DM S g W (X.setCell ⟨g,2,none⟩ (.int .i64 s1.ws.length)) { s1 with mr:=some s1.ws.length }):=fun X hX=>by
   obtain ⟨S2,hS2,hseq2⟩:=(hV.below hX).seq;have:=hS2.mark s1.ws.length;exact ⟨this.1,hseq2 _ _ this.2⟩
  have hfz:=(HMK.out V (gt _ _)).1;have HAl:Hid (∀o,Ab V (V.alloc o)):=fun o=>(gt _ _).alloc (eq _) _
  clear hV hS1 hseq hrn hro d0 d3 d4 d5 d6;have HMKa:Hid (∀o,DM S g W ((V.setCell ⟨g,2,none⟩ (.int .i64 s1.ws.length)).alloc o) { s1 with mr:=some s1.ws.length }):=fun o=>(HMK.out V (gt _ _)).2.below ((gt _ _).alloc (eq _) _)
  have HME:Hid (s1.mark 21=s1):=(HMk.out _ rfl).2 (fun h=>by cases h.1)
  go_upto_region 9 with (go_at_call 77;refine (HI.out [3,4,5,11,13,14,15,16,17,18,19,20] _ _ 21 _ (bY _ [3,4,5,11,13,14,15,16,17,18,19,20] _) (by decide)).mono ?_;rintro r1 w1 ⟨e1,hw1⟩;rw [HO1.out] at e1;subst e1;subst hw1)
  refine aA (fun X=>DM S g W X (s1.mark 21)) (by rw [HME.out];exact HV1.out _ (HAl.out _)) ?_;intro X hX;clear HV1 HMK HAl hfz hg1 d1 HMKa;obtain ⟨S2,hS2,hseq2⟩:=hX.seq;obtain ⟨p7,c7,p6,c6',z0,z1,z2,z3,z4,z5,z6,zrn,zro⟩:=hS2.cells;have hg2:=hS2.glt;have hnl2:(s1.mark 21).ns.length<=1000000000:=by have:=HBs.out.2.1;rw [cK];omega
  have HPu:Hid (∀o w3 q cap,Rn tM w3 (.slice (some ⟨q,0,none⟩) ((s1.mark 21).ns.length+1) cap) (⟨21,0,false⟩ :: (s1.mark 21).ns)->(X.alloc o).grownBy w3 (Value.slice p7 (s1.mark 21).ns.length c7).ownBlock->((Value.slice p7 (s1.mark 21).ns.length c7).ownBlock=some q\/q=(X.alloc o).heap.size)->(w3.cell? ⟨g,0,none⟩=some (.slice p7 (s1.mark 21).ns.length c7)/\w3.frozen? ⟨g,0,none⟩=false)/\DM S g W (w3.setCell ⟨g,0,none⟩ (.slice (some ⟨q,0,none⟩) ((s1.mark 21).ns.length+1) cap)) { (s1.mark 21) with ns:=⟨21,0,false⟩ :: (s1.mark 21).ns }):=fun o w3 q cap a1 a2 a3=>by
   have:=hS2.push (d:=⟨21,0,false⟩) z0 ((gt _ _).alloc (eq _) o) a2 a1 a3;exact ⟨this.1,hseq2 _ _ this.2⟩
  have HRn:Hid (∀o,Rn tM (X.alloc o) (.slice p7 (s1.mark 21).ns.length c7) (s1.mark 21).ns):=fun o=>aE zrn ((gt _ _).alloc (eq _) o)
  have HNL:Hid ((s1.mark 21).ns.length<=1000000000):=hnl2;obtain ⟨L,hL⟩:∃L,(s1.mark 21).ns.length=L:=⟨_,rfl⟩;rw [hL] at z0 HPu HRn;have HLL:Hid ((s1.mark 21).ns.length=L):=hL;clear hX hS2 hseq2 z1 z2 z3 z4 z5 z6 zrn zro hnl2 hL
  go_upto_region 10 with (at_builtin;refine wW (by rfl) _ _ (by rfl) (.slice p7 L c7) (s1.mark 21).ns ⟨21,0,false⟩ (by rfl) (HRn.out _) X.heap.size 1 (by rfl) (ag X _) HNL.out ?_;intro q cap w3 a1 a2 a3;rw [HLL.out] at a1 ⊢;obtain ⟨⟨a4,a5⟩,a6⟩:=HPu.out _ w3 q cap a1 a2 a3;have HY:Hid (DM S g W (w3.setCell ⟨g,0,none⟩ (.slice (some ⟨q,0,none⟩) (L+1) cap)) { (s1.mark 21) with ns:=⟨21,0,false⟩ :: (s1.mark 21).ns }):=a6;clear a1 a2 a3 a6)
  refine aA (fun Y=>DM S g W Y { (s1.mark 21) with ns:=⟨21,0,false⟩ :: (s1.mark 21).ns }) HY.out ?_;intro Y hY;have HYb:Hid (∀Z,Ab Y Z->DM S g W Z { (s1.mark 21) with ns:=⟨21,0,false⟩ :: (s1.mark 21).ns }):=fun Z hZ=>hY.below hZ
  have HYa:Hid (∀o,Ab Y (Y.alloc o)):=fun o=>(gt _ _).alloc (eq _) _
  have HWt:Hid (∀(Z:World) (l:List Pz) (t:ByteArray),Ab Y Z->(∀p∈l,p.few=true)->t.data.toList=l.map pzb->l.length<=10->Aa 76 #[spg g,.string t] Z fun rr w'=>rr=.returned (.tuple #[])/\DM S g W w' (({ (s1.mark 21) with ns:=⟨21,0,false⟩ :: (s1.mark 21).ns }:Sy).aws l)):=fun Z l t hZ h1 h2 h3=>by
   obtain ⟨S3,hS3,hseq3⟩:=(hY.below hZ).seq;refine (cM hS3 (n:=⟨21,0,false⟩) (r:=(s1.mark 21).ns) rfl l h1 t h2 h3 ?_).mono (fun rr w' ⟨a,b⟩=>⟨a,hseq3 _ _ b⟩);obtain ⟨e1,e2,e3⟩:=HBs.out;refine ⟨by show (s1.mark 21).ws.length<=_;rw [gX];omega,by show ((⟨21,0,false⟩:Nd) :: (s1.mark 21).ns).length<=_;rw [cK,List.length_cons];omega,fun x hx=>?_⟩
   rcases zK.1 hx with rfl|hx
   ·show 0<=_;omega
   ·rw [cK] at hx;have:=e3 x hx;omega
  clear hY HY z0 a4 a5 HPu HRn HNL
  have HFn:Hid (s1.opn 21=({ (s1.mark 21) with ns:=⟨21,0,false⟩ :: (s1.mark 21).ns }:Sy).aws [.I 0]):=by
   show _=_
   unfold Sy.opn;rw [HOP,cK]
   try rfl
  clear HOP h23
  go_upto_region 12 with (first|(go_at_call 77;refine (HI.out [21,22,23,24] _ _ 21 _ (bY _ [21,22,23,24] _) (by decide)).mono ?_;rintro r1 w1 ⟨e1,hw1⟩;rw [HO2.out] at e1;subst e1;subst hw1)|(go_at_call 76;refine (HWt.out _ [.I 0] ⟨#[54]⟩ (HYa.out _) (by simp [Pz.few]) rfl (by decide)).mono ?_;rintro r2 w2 ⟨rfl,hD⟩;have HZ:Hid (∀o,DM S g W (w2.alloc o) (({ (s1.mark 21) with ns:=⟨21,0,false⟩ :: (s1.mark 21).ns }:Sy).aws [.I 0])):=(fun o=>hD.below ((gt _ _).alloc (eq _) _));clear hD))
  go_wp2_with (go_at_call 77;refine (HI.out [14,7,11] _ _ 21 _ (bY _ [14,7,11] _) (by decide)).mono ?_;rintro r1 w1 ⟨e1,hw1⟩;rw [HO3.out] at e1;subst e1;subst hw1)
  go_end0
  rw [HFn.out];exact ⟨rfl,HZ.out _⟩
theorem pM {S:Nat->Prop}(h:DS S W g st) (k:Int) (hb:Bdd 400000000 st) :
  Aa 42 #[spg g,.int .u8 k] W fun rr w'=>rr=.returned (.tuple #[])/\DM S g W w' (st.dopens k):=by
 rw [gr]
 by_cases hk:k=21
 ·subst hk;rw [zw rfl];exact mQ h hb
 ·rw [zu hk];exact lq h k hb hk
end Go.Proofs.YtpdlohfdjiaegaaGreatDoor
