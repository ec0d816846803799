import Derived.Deep.Cut
import Derived.Deep.Upon
import Derived.Test.YtpdlohfdjiaegaaGreatDoorR24
set_option linter.unusedVariables false
set_option linter.unusedSimpArgs false
set_option maxHeartbeats 2000000
namespace Go.Proofs.YtpdlohfdjiaegaaGreatDoor
open Go.RowKit
open Lw (Dc bE rt frm dep rtT rtN dcs au aH)
variable {W:World}{g B cap:Nat}{s st:Sy}{o:Oper}{a:Act}{v:Value}
theorem bz {w w':World}(h:Below B w w') (d:Nat):Below B w (w'.drewN d):=⟨h.os,h.tape,h.output,h.size,h.block⟩
def smK (k:Int) (d:Dc):Bool:=(d.k == k) && ((k != 3) || (d.b == 1))
theorem kM {p:Option Addr}{n0:Nat}{ws:List Dc}(h:Rof W (.slice p n0 cap) ws) (c1:W.cell? ⟨g,1,none⟩=some (.slice p n0 cap)) (k:Int) (m:Nat) (hm:m<=ws.length) (hl:ws.length<=2000000000) :
  Aa 39 #[spg g,.int .u8 k,.int .i64 m] W fun r w'=>r=.returned (.bool ((ws.take m).any (smK k)))/\Below W.heap.size W w':=by
 obtain ⟨R,hR⟩:∃R,(ws.take m).any (smK k)=R:=⟨_,rfl⟩;have HR:Hid ((ws.take m).any (smK k)=R):=hR;have HRo:Hid (Rof W (.slice p n0 cap) ws):=h;have HN:Hid (n0=ws.length):=by obtain ⟨_,_,e,_⟩:=h.shape;cases e;rfl
 rw [hR];clear hR h
 go_enter Tryz.func39,Tryz.ntmps39
 go_wp2_with fail
 go_loopw [7] (fun i wr=>∃j:Nat,j<=m/\i=.int .i64 j/\Hid (Below W.heap.size W wr/\∀q x,q<j->ws[q]?=some x->smK k x=false)) (fun i _=>m-(intOf i).toNat)
 case atStart=>exact ⟨0,by omega,rfl,gt _ _,fun q x hq=>by omega⟩
 case round=>
  obtain ⟨j,hj,rfl,HI⟩:=hrel;obtain ⟨hB,hno⟩:=HI.out
  by_cases hlt:j<m
  ·have q1:(j:Int)<m:=by omega
   have q3:(0:Int)<=j:=by omega
   obtain ⟨d,hd⟩:∃d,ws[j]?=some d:=⟨_,hH (by omega)⟩;have hro:=HRo.out.below hB;have hc:W.cell? ⟨g,1,none⟩=some (.slice p n0 cap):=c1;have e1:wr.cell? ⟨g,1,none⟩=some (.slice p n0 cap):=(hB.cell (zy _ _ c1)).trans c1;have hn0:=HN.out;have q4:(j:Int)<n0:=by omega
   rcases hro with ⟨hA,hA2⟩|⟨b,o,cap',cur,hA,hA2⟩
   ·rw [hA2] at hd;simp at hd
   ·cases hA;obtain ⟨x0,x1,x2,x3,x4⟩:=(HRo.out.below hB).cell5 hd;have HS:Hid (smK k d=((d.k == k) && ((k != 3) || (d.b == 1)))):=rfl
    have HY:Hid (smK k d=true->R=true):=fun h=>by
     rw [<-HR.out];refine B7.2 ⟨d,?_,h⟩;refine Ah (i:=j) ?_;rw [Ag,zw hlt];exact hd
    have HF:Hid (smK k d=false->∀q x,q<j+1->ws[q]?=some x->smK k x=false):=fun h q x hq hx=>by
     by_cases e:q=j
     ·subst e;rw [hd] at hx;cases hx;exact h
     ·exact hno q x (by omega) hx
    have HB:Hid (Ab W wr):=hB;obtain ⟨c1',hc1⟩:∃c,(d.k == k)=c:=⟨_,rfl⟩;obtain ⟨c2',hc2⟩:∃c,(k != 3)=c:=⟨_,rfl⟩;obtain ⟨c3',hc3⟩:∃c,(d.b == 1)=c:=⟨_,rfl⟩;have HS2:Hid (smK k d=(c1' && (c2' || c3'))):=by show _=_;rw [HS.out,hc1,hc2,hc3]
    clear HI hB hno hd HS hA2 hc hn0;cases c1'
    ·have HN2:=HF.out HS2.out;have HN3:Hid _:=HN2;clear HN2
     go_wp2_with fail
     first|(go_quiet (fail);go_wp2_with fail)|skip
     exact ⟨⟨j+1,hlt,by go_num,by first|exact HB.out|exact bz HB.out _,HN3.out⟩,by simp [intOf];omega⟩
    ·cases c2'
     ·cases c3'
      ·have HN2:=HF.out HS2.out;have HN3:Hid _:=HN2;clear HN2
       go_wp2_with fail
       first|(go_quiet (fail);go_wp2_with fail)|skip
       exact ⟨⟨j+1,hlt,by go_num,by first|exact HB.out|exact bz HB.out _,HN3.out⟩,by simp [intOf];omega⟩
      ·have HRT:Hid (R=true):=HY.out HS2.out
       go_wp2_with fail
       first|(go_quiet (fail);go_wp2_with fail)|skip
       go_ret
       rw [HRT.out];exact ⟨rfl,by first|exact HB.out|exact bz HB.out _⟩
     ·have HRT:Hid (R=true):=HY.out (by rw [HS2.out];rfl)
      go_wp2_with fail
      first|(go_quiet (fail);go_wp2_with fail)|skip
      go_ret
      rw [HRT.out];exact ⟨rfl,by first|exact HB.out|exact bz HB.out _⟩
  ·obtain rfl:j=m:=by omega
   have q1:¬((j:Int)<j):=by omega
   have HRF:Hid (R=false):=by
    show _=_
    rw [<-HR.out,B3];intro h;obtain ⟨x,hx,hx2⟩:=B7.1 h;obtain ⟨q,hq,e⟩:=Cd hx;have hq2:q<j:=by rw [zH] at hq;omega
    have hx3:ws[q]?=some x:=by
     have h3:=hH hq;rw [Ag,zw hq2,e] at h3;exact h3
    rw [hno q x hq2 hx3] at hx2;cases hx2
   have HB:Hid (Ab W wr):=hB;clear HI hno hB
   go_wp2_with fail
   go_ret
   rw [HRF.out];exact ⟨rfl,HB.out⟩
def wkP (d:Dc):Prop:=d.k=3->d=dB 0\/d=dB 1
def Wk (s:Sy):Prop:=∀d∈s.ws,wkP d
theorem yA (p:Pz):wkP p.d:=by cases p <;> simp [wkP,Pz.d,dS,dB,dH,dI,dX]
theorem Wk.aw (h:Wk s) (p:Pz):Wk (s.aw p):=by
 intro d hd;rw [jF] at hd
 rcases Ai.1 hd with hd|hd
 ·exact h d hd
 ·unfold awW at hd
  split at hd
  ·cases hd
  ·rw [AN] at hd;rw [hd];exact yA p
theorem Wk.aws (h:Wk s) (l:List Pz):Wk (s.aws l):=by
 induction l generalizing s with
 |nil=>exact h
 |cons p l ih=>rw [bJ];exact ih (h.aw p)
def nj (s:Sy) (f:Int):Bool:=match s.mr with
 |none=>false
 |some m=>decide (2<=f) && (s.wr && !((s.ws.take m).any (smK 6)))
theorem sm6:smK 6=aK:=by funext d;unfold smK aK;by_cases h:d.k=6 <;> simp [h]
theorem sm4:smK 4=cq:=by funext d;unfold smK cq;by_cases h:d.k=4 <;> simp [h]
def es (s:Sy):Sy:={ s with ws:=s.ws.take (s.mr.getD 0)++dE :: s.ws.drop (s.mr.getD 0) }
theorem kk (s:Sy) (f:Int):s.emp f=if nj s f=true then es s else s:=by
 unfold Sy.emp nj es;cases hm:s.mr with
 |none=>simp
 |some m=>
  simp only [Bi,sm6]
  by_cases h1:f<2
  ·rw [zw (.inl h1),zu (by simp;omega)]
  ·cases hw:s.wr with
   |false=>rw [zw (.inr (.inl rfl)),zu (by simp)]
   |true=>
    cases hb:(s.ws.take m).any aK with
    |true=>rw [zw (.inr (.inr rfl)),zu (by simp)]
    |false=>rw [zu (by simp;omega),zw (by simp;omega)]
def xW (s:Sy):Bool:=s.en && !(s.ws.any (smK 4))
def xy (s:Sy):Bool:=s.pt && (!(s.ws.any (smK 2)) && (!(s.ws.any (smK 4)) && !(s.ws.any (smK 3))))
def Sy.dfin (s:Sy):Sy:=if xW s=true then { s with ws:=dH :: s.ws } else if xy s=true then { s with ws:=s.ws++[dS] } else s
theorem vM {l:List Dc}(h:∀d∈l,wkP d):l.any bZ=(l.any (smK 2) || (l.any (smK 4) || l.any (smK 3))):=by
 induction l with
 |nil=>rfl
 |cons d l ih=>
  rw [CW,CW,CW,CW,ih (fun x hx=>h x (zX _ hx))]
  have e:bZ d=(smK 2 d || (smK 4 d || smK 3 d)):=by
   have hw:=h d zV;unfold bZ smK
   by_cases h2:d.k=2
   ·simp [h2]
   ·by_cases h4:d.k=4
    ·simp [h4]
    ·by_cases h3:d.k=3
     ·rcases hw h3 with e|e <;> rw [e] <;> simp [dB]
     ·have:d≠dB 1:=fun e=>h3 (by rw [e];rfl)
      simp [h2,h4,h3,this]
  rw [e];cases smK 2 d <;> cases smK 4 d <;> cases smK 3 d <;> cases l.any (smK 2) <;> cases l.any (smK 4) <;> cases l.any (smK 3) <;> rfl
theorem wa (h:Wk s):s.dfin=s.endl.part:=by
 unfold Sy.dfin Sy.endl xW xy;rw [sm4]
 by_cases he:s.en=true/\s.ws.any cq=false
 ·rw [zw (by rw [he.1,he.2];rfl),zw he];unfold Sy.part;rw [zu];intro h2;have:=h2.2;simp [bZ,dH] at this
 ·rw [zu (by intro h2;apply he;simpa using h2),zu he];unfold Sy.part;rw [vM h,sm4]
  by_cases hp:s.pt=true <;> cases s.ws.any (smK 2) <;> cases s.ws.any cq <;> cases s.ws.any (smK 3) <;> simp [hp]
theorem Wk.emp (h:Wk s) (f:Int):Wk (s.emp f):=by
 rw [kk]
 split
 ·intro d hd;unfold es at hd
  rcases Ai.1 hd with hd|hd
  ·exact h d (Bu hd)
  ·rcases zK.1 hd with hd|hd
   ·rw [hd];simp [wkP,dE]
   ·exact h d (List.mem_of_mem_drop hd)
 ·exact h
theorem mf {n:Nd}{r:List Nd}(h:s.ns=n :: r) (l:List Pz):∃n1,(s.aws l).ns=n1 :: r:=by
 induction l generalizing s n with
 |nil=>exact ⟨n,h⟩
 |cons p l ih=>
  rw [bJ];refine ih (s:=s.aw p) (n:=(if p=.X then { n with b:=n.b-1 } else { n with b:=n.b+p.n })) ?_;show awN p s.ns=_;rw [h];rfl
theorem nU (s:Sy) (f:Int):(s.emp f).ns=s.ns:=by rw [kk];split <;> rfl
theorem v8 (s:Sy):s.dfin.ns=s.ns:=by unfold Sy.dfin;split;rfl;split <;> rfl
theorem rI (s:Sy) (f:Int):(s.emp f).ws.length<=s.ws.length+1:=by
 rw [kk]
 split
 ·unfold es;simp;omega
 ·omega
theorem tz (s:Sy):s.dfin.ws.length<=s.ws.length+1:=by
 unfold Sy.dfin
 split
 ·simp
 ·split <;> simp
theorem nT (f:Fx):f.pz.length<=2:=by cases f <;> decide
theorem uQ (s:Sy) (l:List Pz):(s.aws l).mr=s.mr:=by
 induction l generalizing s with
 |nil=>rfl
 |cons p l ih=>rw [bJ,ih];rfl
theorem yo (s:Sy) (l:List Pz):s.ws.length<=(s.aws l).ws.length:=by
 induction l generalizing s with
 |nil=>exact eq _
 |cons p l ih=>rw [bJ];refine zr ?_ (ih _);rw [jF,zq];omega
theorem uJ (ty:TypeId) {v:Value}{l:List Dc}(ds:List Dc) (hr:Rof W v l) (ao:Option Addr) (n c:Nat) (en:n=ds.length) (hn:0<n->∃ad,ao=some ad/\∀j u,(dcs ds)[j]?=some u->W.cell? (ad.add j)=some u) (hl:l.length+ds.length<=2000000000) :
  ∃p' c' w',(Builtin.append_ #[46,46] ty #[v,.slice ao n c]).run Tryz.prog W=.ok (.slice p' (l.length+n) c') w'/\Rof w' (.slice p' (l.length+n) c') (l++ds)/\Kp (fun k=>v.ownBlock=some k) W w'/\Nb W v (.slice p' (l.length+n) c'):=by
 subst en
 by_cases hd:0<ds.length
 ·obtain ⟨ad,e,h2⟩:=hn hd;subst e;obtain ⟨q,o',c',w',h3⟩:=wJ ty ds hr ad c h2 hd hl;exact ⟨_,_,_,h3⟩
 ·obtain rfl:ds=[]:=zI (by omega);obtain ⟨i0,hi,hz0,hz1,hz2⟩:=Az Tryz.info57;obtain ⟨p,cap,e,h1,h2⟩:=hr.shape;subst e;refine ⟨p,cap,W,?_,by rw [AQ];exact hr,Kp.refl _ _,.inl rfl⟩
  have hs:Src Tryz.prog i0.size 46 (.slice ao 0 c) 0 [] W:=by
   cases ao with
   |none=>exact Src.ofNil _ zU c
   |some a=>exact Src.ofSlice _ zU a 0 c [] (by simp) (fun j u h=>by simp at h) (fun u h=>by simp at h)
  exact run_append_nothing (P:=Tryz.prog) W 46 46 ty 57 i0 zU hi p l.length cap h1 (.slice ao 0 c) hs
theorem wY {K:Act->World->Prop}{Q:Exit->Act->World->Prop}(s x:Operand)
  (ho:o.op=.call { callee:=.builtin .append,args:=#[s,x],argTypes:=#[46,46] }) (v:Value) (l ds:List Dc) (hs:a.eval s=v) (hr:Rof W v l)
  (ao:Option Addr) (n c:Nat) (hx:a.eval x=.slice ao n c) (en:n=ds.length) (hn:0<n->∃ad,ao=some ad/\∀j u,(dcs ds)[j]?=some u->W.cell? (ad.add j)=some u) (hl:l.length+ds.length<=2000000000)
  (h:∀p' c' w',Rof w' (.slice p' (l.length+n) c') (l++ds)->Kp (fun k=>v.ownBlock=some k) W w'->Nb W v (.slice p' (l.length+n) c')->K (a.put o.dst (.slice p' (l.length+n) c')) w'):o.wp Tryz.prog a W K Q:=by
 obtain ⟨p',c',w',hrun,r1,r2,r3⟩:=uJ o.type ds hr ao n c en hn hl;unfold Oper.wp execOp;simp only [ho,resolve,invoke,builtin,DL,DN,Cu,CO,Bj,Cg,hs,hx,hrun];exact h p' c' w' r1 r2 r3
theorem dC {ops:Array Oper}{rest:List Oper}{Q:Exit->Act->World->Prop}(hgd:o.guard=none) (s x:Operand)
  (ho:o.op=.call { callee:=.builtin .append,args:=#[s,x],argTypes:=#[46,46] }) (v:Value) (l ds:List Dc) (hs:a.eval s=v) (hr:Rof W v l)
  (ao:Option Addr) (n c:Nat) (hx:a.eval x=.slice ao n c) (en:n=ds.length) (hn:0<n->∃ad,ao=some ad/\∀j u,(dcs ds)[j]?=some u->W.cell? (ad.add j)=some u) (hl:l.length+ds.length<=2000000000)
  (h:∀p' c' w',Rof w' (.slice p' (l.length+n) c') (l++ds)->Kp (fun k=>v.ownBlock=some k) W w'->Nb W v (.slice p' (l.length+n) c')->wpList Tryz.prog ops Q rest (a.put o.dst (.slice p' (l.length+n) c')) w'):wpList Tryz.prog ops Q (o :: rest) a W:=
 DK hgd fun _ hK=>wY s x ho v l ds hs hr ao n c hx en hn hl fun p' c' w' h2 h3 h4=>hK _ _ (h p' c' w' h2 h3 h4)
theorem Rof.part {W:World}{ao:Option Addr}{n cap:Nat}{ws:List Dc}(h:Rof W (.slice ao n cap) ws) {i m:Nat}(hi:i+m<=ws.length) (hm:0<m):∃b o,ao=some ⟨b,o,none⟩/\∀j u,(dcs ((ws.drop i).take m))[j]?=some u->W.cell? ((⟨b,o+i*5,none⟩:Addr).add j)=some u:=by
 rcases h with ⟨h1,h2⟩|⟨b,o,cap',cur,h1,h2⟩
 ·rw [h2] at hi;simp at hi;omega
 ·cases h1;refine ⟨b,o,rfl,fun j u hu=>?_⟩;have hc:=Rof.cells (.inr ⟨b,o,cap,cur,rfl,h2⟩:Rof W (.slice (some ⟨b,o,none⟩) ws.length cap) ws) (i*5+j) u;rw [AM,A8];refine hc ?_
  have hj:j<m*5:=by
   have:=(zv.1 hu).1;rw [au,zH,zN] at this;omega
  unfold dcs at hu ⊢;rw [<-gp Dc.cs 5 Dc.cs_len,Ag,zw hj,<-eU Dc.cs 5 Dc.cs_len,Aj] at hu;exact hu
def Own (B:Nat) (v:Value):Prop:=∀k,v.ownBlock=some k->B<=k
theorem Own.nb {v':Value}(h:Own B v) (hn:Nb W v v') (hB:B<=W.heap.size):Own B v':=fun k hk=>by
 rcases hn with hn|⟨q,hq,hq2⟩
 ·exact h k (by rw [<-hn];exact hk)
 ·rw [hq] at hk;cases hk;omega
theorem gV (B:Nat):Own B (.slice none 0 0):=fun k e=>by cases e
theorem Own.below {w0 W':World}(h:Own B v) (hb:Below B w0 W) (hk:Kp (fun k=>v.ownBlock=some k) W W') (hB:B<=W.heap.size):Below B w0 W':=
 ⟨hk.os.trans hb.os,hk.tape.trans hb.tape,hk.output.trans hb.output,zr hb.size hk.size,fun k hlt=>(hk.block k (by omega) (fun e=>by have:=h k e;omega)).trans (hb.block k hlt)⟩
theorem gT {S:Nat->Prop}(h:DS S W g st) (i:Nat) (hi:i<=st.ws.length) (d:Dc) (hl:st.ws.length<=1000000000) :
  Aa 40 #[spg g,.int .i64 i,.agg #[.int .u8 d.k,.string d.t,.int .i64 d.b,.int .i64 d.i,.bool d.e]] W fun r w'=>r=.returned (.tuple #[])/\DM S g W w' { st with ws:=st.ws.take i++d :: st.ws.drop i }:=by
 obtain ⟨vn,vw,hv,s1,s2⟩:=h.ex;have hsg:=h.sg;obtain ⟨p,cap,e,hc1,hc2⟩:=hv.ro.shape;subst e;obtain ⟨c0,c1,c2,c3,c4,c5,c6⟩:=hv.sb.cells;have hg:=hv.sb.lt;have q1:(0:Int)<=i:=by omega
 have q2:(i:Int)<=cap:=by omega
 have q3:(i:Int)<=st.ws.length:=by omega
 have q4:(st.ws.length:Int)<=cap:=by omega
 have q5:(cap:Int)<=cap:=by omega
 have HF:Hid (∀w4 v4,Ab W w4->Rof w4 v4 (st.ws.take i++[d]++st.ws.drop i)->Own W.heap.size v4->(w4.cell? ⟨g,1,none⟩=some (.slice p st.ws.length cap)/\w4.frozen? ⟨g,1,none⟩=false)/\DM S g W (w4.setCell ⟨g,1,none⟩ v4) { st with ws:=st.ws.take i++d :: st.ws.drop i }):=fun w4 v4 hb hr ho=>by
  rw [zJ] at hr;obtain ⟨a1,a2,a3⟩:=hv.ws hb (Kp.refl _ _) hr;refine ⟨a1,DM.mk' a2 hsg (fun k e=>.inl (s1 k e)) (fun k e=>.inr (ho k e)) (a3.sub ?_)⟩;rintro k (e|e)
  ·rw [e];exact hsg
  ·exact s2 k e
 have HA:Hid (∀w1,Ab W w1->Rof w1 (.slice p st.ws.length cap) st.ws/\w1.cell? ⟨g,1,none⟩=some (.slice p st.ws.length cap)/\g<w1.heap.size):=fun w1 hb=>⟨hv.ro.below hb,(hv.sb.below hb).cells.2.1,(hv.sb.below hb).lt⟩
 have HL1:Hid (i=(st.ws.take i).length/\([]:List Dc).length+(st.ws.take i).length<=2000000000/\(st.ws.take i).length+[d].length<=2000000000/\(st.ws.take i++[d]).length+(st.ws.drop i).length<=2000000000/\st.ws.length-i=(st.ws.drop i).length):=by
  refine ⟨by rw [zH];omega,?_,?_,?_,by rw [zN]⟩ <;> simp <;> omega
 have HP1:Hid (∀w1,Ab W w1->0<i->∃ad,p=some ad/\∀j u,(dcs (st.ws.take i))[j]?=some u->w1.cell? (ad.add j)=some u):=fun w1 hb h0=>by
  obtain ⟨b,o,e,h1⟩:=(hv.ro.below hb).part (i:=0) (m:=i) (by omega) h0;refine ⟨_,e,fun j u hu=>?_⟩;have:=h1 j u (by rw [BI];exact hu);rw [DY,A3] at this;exact this
 have HP2:Hid (∀w1 b o,Ab W w1->p=some ⟨b,o,none⟩->0<st.ws.length-i->∀j u,(dcs (st.ws.drop i))[j]?=some u->w1.cell? ((⟨b,o+i*5,none⟩:Addr).add j)=some u):=fun w1 b o hb e h0 j u hu=>by
  obtain ⟨b',o',e',h1⟩:=(hv.ro.below hb).part (i:=i) (m:=st.ws.length-i) (by omega) h0;rw [e] at e';cases e';exact h1 j u (by rw [Ak (by rw [zN];omega)];exact hu)
 have HCs:Hid ((p=none/\st.ws.length=0/\cap=0/\i=0)\/∃b o,p=some ⟨b,o,none⟩):=by
  rcases hv.ro with ⟨h1,h2⟩|⟨b,o,cap',cur,h1,_⟩
  ·injection h1 with a1 a2 a3
   exact .inl ⟨a1,a2,a3,by omega⟩
  ·injection h1 with a1
   exact .inr ⟨b,o,a1⟩
 have HB1:Hid (∀o,Ab W (W.alloc o)):=fun o=>(gt _ _).alloc (eq _) _
 have HN1:Hid (∀w1,(W.alloc (.cells #[.int .u8 d.k,.string d.t,.int .i64 d.b,.int .i64 d.i,.bool d.e] 57)).heap.size<=w1.heap.size->Below (W.alloc (.cells #[.int .u8 d.k,.string d.t,.int .i64 d.b,.int .i64 d.i,.bool d.e] 57)).heap.size (W.alloc (.cells #[.int .u8 d.k,.string d.t,.int .i64 d.b,.int .i64 d.i,.bool d.e] 57)) w1->w1.heap[W.heap.size]?=some (.cells #[.int .u8 d.k,.string d.t,.int .i64 d.b,.int .i64 d.i,.bool d.e] 57 (0,0))):=fun w1 _ hb=>ab (ag _ _) hb
 have HK1:Hid (∀p1 cp1 w1,Rof w1 (.slice p1 i cp1) (st.ws.take i)->Kp (fun k=>(Value.slice none 0 0).ownBlock=some k) (W.alloc (.cells #[.int .u8 d.k,.string d.t,.int .i64 d.b,.int .i64 d.i,.bool d.e] 57)) w1->Nb (W.alloc (.cells #[.int .u8 d.k,.string d.t,.int .i64 d.b,.int .i64 d.i,.bool d.e] 57)) (.slice none 0 0) (.slice p1 i cp1)->Rof w1 (.slice p1 i cp1) (st.ws.take i)/\Ab W w1/\Own W.heap.size (.slice p1 i cp1)/\w1.heap[W.heap.size]?=some (.cells #[.int .u8 d.k,.string d.t,.int .i64 d.b,.int .i64 d.i,.bool d.e] 57 (0,0))):=fun p1 cp1 w1 x1 x2 x3=>by
  have hb:=HB1.out (.cells #[.int .u8 d.k,.string d.t,.int .i64 d.b,.int .i64 d.i,.bool d.e] 57);exact ⟨x1,(gV _).below hb x2 hb.size,(gV _).nb x3 hb.size,x2.blk (ag _ _) (fun e=>by cases e)⟩
 clear hv s1 s2 c0 c2 c3 c4 c5 c6 h HN1
 go_enter Tryz.func40,Tryz.ntmps40
 go_upto_region 3 with (at_builtin;refine dC (by rfl) _ _ (by rfl) (.slice none 0 0) [] (st.ws.take i) (by rfl) (fj _) p i cap (by rfl) HL1.out.1 (HP1.out _ (HB1.out _)) HL1.out.2.1 ?_;intro p1 cp1 w1 x1 x2 x3;simp only [Ao,zC,Ay] at x1 x3 ⊢;have HX1:Hid (Rof w1 (.slice p1 i cp1) (st.ws.take i)/\Ab W w1/\Own W.heap.size (.slice p1 i cp1)/\w1.heap[W.heap.size]?=some (.cells #[.int .u8 d.k,.string d.t,.int .i64 d.b,.int .i64 d.i,.bool d.e] 57 (0,0))):=(HK1.out _ _ _ x1 x2 x3);clear x1 x2 x3)
 obtain ⟨y1,y2,y3,y4⟩:=HX1.out;have m0:=aa (k:=0) y4 rfl;have m1:=aa (k:=1) y4 rfl;have m2:=aa (k:=2) y4 rfl;have m3:=aa (k:=3) y4 rfl;have m4:=aa (k:=4) y4 rfl;have HB2:Hid (∀o,Rof (w1.alloc o) (.slice p1 i cp1) (st.ws.take i)/\Ab W (w1.alloc o)):=fun o=>⟨y1.below ((gt _ _).alloc (eq _) _),y2.alloc y2.size _⟩
 have HK2:Hid (∀o q o' c' w2,Rof w2 (.slice (some ⟨q,o',none⟩) ((st.ws.take i).length+1) c') (st.ws.take i++[d])->Kp (fun k=>(Value.slice p1 i cp1).ownBlock=some k) (w1.alloc o) w2->Nb (w1.alloc o) (.slice p1 i cp1) (.slice (some ⟨q,o',none⟩) ((st.ws.take i).length+1) c')->Rof w2 (.slice (some ⟨q,o',none⟩) (i+1) c') (st.ws.take i++[d])/\Ab W w2/\Own W.heap.size (.slice (some ⟨q,o',none⟩) (i+1) c')):=fun o q o' c' w2 x1 x2 x3=>by
  rw [<-HL1.out.1] at x1 x3;have hb:=y2.alloc y2.size o;exact ⟨x1,y3.below hb x2 hb.size,y3.nb x3 hb.size⟩
 clear HX1 y1 y2 y3 y4 HK1
 go_upto_region 4 with (at_builtin;refine cO (by rfl) _ _ (by rfl) (.slice p1 i cp1) (st.ws.take i) [d] (by rfl) (HB2.out _).1 ⟨w1.heap.size,0,none⟩ 1 1 (by rfl) (by rfl) (aT (ag w1 _)) (AB _) HL1.out.2.2.1 ?_;intro p2 o2 cp2 w2 x1 x2 x3;have HX2:=HK2.out _ _ _ _ _ x1 x2 x3;rw [<-HL1.out.1];clear x1 x2 x3)
 obtain ⟨x1,x2,x3⟩:=HX2;obtain ⟨y1,y2,y3⟩:=HA.out w2 x2;have HX:Hid (Rof w2 (.slice (some ⟨p2,o2,none⟩) (i+1) cp2) (st.ws.take i++[d])/\Ab W w2/\Own W.heap.size (.slice (some ⟨p2,o2,none⟩) (i+1) cp2)):=⟨x1,x2,x3⟩;have HEnd:Hid (∀p3 n3 c3 w3,Rof w3 (.slice p3 n3 c3) (st.ws.take i++[d]++st.ws.drop i)->Kp (fun k=>(Value.slice (some ⟨p2,o2,none⟩) (i+1) cp2).ownBlock=some k) w2 w3->Nb w2 (.slice (some ⟨p2,o2,none⟩) (i+1) cp2) (.slice p3 n3 c3)->(w3.cell? ⟨g,1,none⟩=some (.slice p st.ws.length cap)/\w3.frozen? ⟨g,1,none⟩=false)/\DM S g W (w3.setCell ⟨g,1,none⟩ (.slice p3 n3 c3)) { st with ws:=st.ws.take i++d :: st.ws.drop i }):=fun p3 n3 c3 w3 z1 z2 z3=>HF.out w3 _ (x3.below x2 z2 x2.size) z1 (x3.nb z3 x2.size)
 have HLE:Hid (∀k,(st.ws.take i++[d]).length+k=i+1+k):=fun k=>by have:=HL1.out.1;rw [zq,<-this];rfl
 clear x1 x2 x3 HF HA HP1 HB1 HB2 HK2 m0 m1 m2 m3 m4
 rcases HCs.out with ⟨e1,e2,e3,e4⟩|⟨b,o,e1⟩
 ·subst e1 e3;have HE2:Hid (st.ws.length=0):=e2;have HE4:Hid (i=0):=e4;rw [e2] at y2;clear e2 e4
  go_wp2_with (at_builtin;refine dC (by rfl) _ _ (by rfl) (.slice (some ⟨p2,o2,none⟩) (i+1) cp2) (st.ws.take i++[d]) (st.ws.drop i) (by rfl) HX.out.1 _ _ _ (by rfl) (by have h1:=HL1.out.2.2.2.2;have h2:=HE2.out;have h3:=HE4.out;omega) (fun h0=>(by omega)) HL1.out.2.2.2.1 ?_;intro p3 c3 w3 z1 z2 z3;rw [HLE.out] at z1 z3 ⊢;obtain ⟨⟨z4,z5⟩,z6⟩:=HEnd.out _ _ _ _ z1 z2 z3;have HZ:Hid (DM S g W (w3.setCell ⟨g,1,none⟩ (.slice p3 _ c3)) { st with ws:=st.ws.take i++d :: st.ws.drop i }):=z6;clear z1 z2 z3 z6)
  go_end0
  exact ⟨rfl,HZ.out⟩
 ·subst e1
  by_cases e5:i=cap
  ·subst e5;have HE2:Hid (st.ws.length-i=0):=by show _=_;omega
   go_wp2_with (at_builtin;refine dC (by rfl) _ _ (by rfl) (.slice (some ⟨p2,o2,none⟩) (i+1) cp2) (st.ws.take i++[d]) (st.ws.drop i) (by rfl) HX.out.1 _ _ _ (by rfl) (by have h1:=HL1.out.2.2.2.2;have h2:=HE2.out;omega) (fun h0=>(by omega)) HL1.out.2.2.2.1 ?_;intro p3 c3 w3 z1 z2 z3;rw [HLE.out] at z1 z3 ⊢;obtain ⟨⟨z4,z5⟩,z6⟩:=HEnd.out _ _ _ _ z1 z2 z3;have HZ:Hid (DM S g W (w3.setCell ⟨g,1,none⟩ (.slice p3 _ c3)) { st with ws:=st.ws.take i++d :: st.ws.drop i }):=z6;clear z1 z2 z3 z6)
   go_end0
   exact ⟨rfl,HZ.out⟩
  ·have q7:¬cap=i:=fun e=>e5 e.symm
   go_wp2_with (at_builtin;refine dC (by rfl) _ _ (by rfl) (.slice (some ⟨p2,o2,none⟩) (i+1) cp2) (st.ws.take i++[d]) (st.ws.drop i) (by rfl) HX.out.1 _ _ _ (by rfl) HL1.out.2.2.2.2 (fun h0=>⟨_,rfl,HP2.out _ _ _ HX.out.2.1 rfl h0⟩) HL1.out.2.2.2.1 ?_;intro p3 c3 w3 z1 z2 z3;rw [HLE.out] at z1 z3 ⊢;obtain ⟨⟨z4,z5⟩,z6⟩:=HEnd.out _ _ _ _ z1 z2 z3;have HZ:Hid (DM S g W (w3.setCell ⟨g,1,none⟩ (.slice p3 _ c3)) { st with ws:=st.ws.take i++d :: st.ws.drop i }):=z6;clear z1 z2 z3 z6)
   go_end0
   exact ⟨rfl,HZ.out⟩
theorem ik {vn vw:Value}(h:SV W g st vn vw) (d:Dc) (hl:st.ws.length<=1000000000) :
  Aa 119 #[spg g,.agg #[.int .u8 d.k,.string d.t,.int .i64 d.b,.int .i64 d.i,.bool d.e]] W fun r w'=>r=.returned (.tuple #[])/\WP W w' g st vn vw (st.ws++[d]):=by
 obtain ⟨L,hL⟩:∃L,st.ws=L:=⟨_,rfl⟩;have hE:=h.rd;rw [hL] at hE hl ⊢;obtain ⟨p,cap,rfl,_⟩:=aL hE;have HW:Hid (∀V,Below W.heap.size W V->Rd V (.slice p L.length cap) L):=fun V hb=>bN hE hb
 have HT:Hid (∀W1 w3 q cp,Below W.heap.size W W1->Rd w3 (.slice (some ⟨q,0,none⟩) (L.length+1) cp) (L++[d])->W1.grownBy w3 (Value.slice p L.length cap).ownBlock->((Value.slice p L.length cap).ownBlock=some q\/q=W1.heap.size)->(w3.cell? ⟨g,2,none⟩=some (.slice p L.length cap)/\w3.frozen? ⟨g,2,none⟩=false)/\WP W (w3.setCell ⟨g,2,none⟩ (.slice (some ⟨q,0,none⟩) (L.length+1) cp)) g st vn (.slice p L.length cap) (L++[d])):=
  fun W1 w3 q cp hb h1 h2 h3=>h.ws hb ((Kp.of_grown h2).sub (fun k e=>e.symm)) h1 (by rcases h3 with h3|h3;exact .inl h3.symm;exact .inr ⟨q,rfl,by omega⟩)
 obtain ⟨c0,c1,c2,c3,c4,c5,c6,c7⟩:=h.sb.cells;have hg:=h.sb.lt;clear h hE hL;obtain ⟨⟨k0,t,b0,i0,e0⟩,hd⟩:∃x,d=x:=⟨_,rfl⟩;subst hd
 dsimp only
 go_enter Tryz.func119,Tryz.ntmps119
 go_wp2_with fail
 obtain ⟨W1,e1⟩:∃W1,W.alloc (.cells #[.int .u8 k0,.string t,.int .i64 b0,.int .i64 i0,.bool e0] 57)=W1:=⟨_,rfl⟩;have hb:Below W.heap.size W W1:=by rw [<-e1];exact (gt _ _).alloc (eq _) _
 have hn:W1.heap[W.heap.size]?=some (.cells #[.int .u8 k0,.string t,.int .i64 b0,.int .i64 i0,.bool e0] 57):=by rw [<-e1];exact ag _ _
 rw [e1];clear e1;have m0:W1.cell? ⟨W.heap.size,0,none⟩=_:=aa hn rfl;have m1:W1.cell? ⟨W.heap.size,1,none⟩=_:=aa hn rfl;have m2:W1.cell? ⟨W.heap.size,2,none⟩=_:=aa hn rfl;have m3:W1.cell? ⟨W.heap.size,3,none⟩=_:=aa hn rfl;have m4:W1.cell? ⟨W.heap.size,4,none⟩=_:=aa hn rfl;have d4:W1.cell? ⟨g,2,none⟩=some (.slice p L.length cap):=(hb.cell hg).trans c2;have HB:Hid (∀o,Below W.heap.size W (W1.drew.alloc o)):=fun o=>(hb.drew).alloc hb.size _
 have hg1:g<W1.heap.size:=zz hg hb.size;clear hb hn c0 c1 c2 c3 c4 c5 c6 c7 hg
 go_region_law (refine ri (by rfl) _ _ (by rfl) (.slice p L.length cap) L ⟨k0,t,b0,i0,e0⟩ (by rfl) (HW.out _ (HB.out _)) W1.heap.size 1 (by rfl) (ag W1.drew _) hl ?_;intro q cp w3 hr3 hg3 hq3;obtain ⟨⟨x1,x2⟩,x3⟩:=HT.out _ w3 q cp (HB.out _) hr3 hg3 hq3;have HX:=hid x3;clear x3 hr3 hg3 hq3)
 all_goals (
  go_wp2_with fail
  go_end0
  exact ⟨rfl,HX.out⟩)
theorem cY {b n:Nat}(c1:W.cell? ⟨g,1,none⟩=some (.slice (some ⟨b,0,none⟩) (n+1) cap)) (hn:n<=1000000000) :
  Aa 62 #[spg g] W fun r w'=>r=.returned (.pointer (some ⟨b,n*3,none⟩))/\Below W.heap.size W w':=by
 have q1:IntKind.i64.wrap (n:Int)=n:=by rw [zF];omega
 have q2:(0:Int)<=n:=by omega
 have q3:(n:Int)<(n:Int)+1:=by omega
 have HB:Hid (Ab W W.drew):=(gt _ _).drew
 go_enter Tryz.func62,Tryz.ntmps62
 go_wp2_with fail
 go_region_law (fail)
 all_goals (
  go_wp2_with fail
  go_ret
  exact ⟨rfl,HB.out⟩)
theorem SV.nd {W:World}{g:Nat}{st:Sy}{vw:Value}{b cap:Nat}{n m:Nd}{r:List Nd}(e:st.ns=n :: r) (h:SV W g st (.slice (some ⟨b,0,none⟩) (r.length+1) cap) vw) (j:Nat) (u:Value) (hj:j<3) (hm:n.cs.set j u=m.cs) :
  SV (W.setCell ⟨b,r.length*3+j,none⟩ u) g { st with ns:=m :: r } (.slice (some ⟨b,0,none⟩) (r.length+1) cap) vw:=by
 have hn:Rn tN W (.slice (some ⟨b,0,none⟩) (r.length+1) cap) (n :: r):=by rw [<-e];exact h.rn
 have hne:¬g=b:=fun e2=>ay h.rn h.sb (by decide) (by rw [e2];rfl)
 refine ⟨h.sb.kp (Kp.set W b _ u) hne,rG hn j u hj hm,(Kp.set W b _ u).row h.rd (fun k e1 e2=>fE h.rd h.rn (by decide) k e1 (by rw [e2];rfl))⟩
theorem cD {S:Nat->Prop}(h:SS S W g st) (p:Pz) {i:Int}{e:Bool}(hp:p.d=dI i e/\p.n=1) (hns:st.ns≠[]) (hl:st.ws.length<=1000000000) (hn:st.ns.length<=1000000000) (hb:∀n∈st.ns,n.b<=1000000000) :
  Aa 67 #[spg g,.int .i64 i,.bool e] W fun r w'=>r=.returned (.tuple #[])/\Mv S g W w' (st.aw p):=by
 obtain ⟨vn,vw,hv,s1,s2⟩:=h.ex
 obtain ⟨n,r,en⟩:∃n r,st.ns=n :: r:=by
  cases hc:st.ns with
  |nil=>exact absurd hc hns
  |cons n r=>exact ⟨n,r,rfl⟩
 have hn1:=hv.rn;rw [en] at hn1;obtain ⟨b,cap,rfl,hc1,hc2⟩:=ea hn1;have hX:p≠.X:=fun e=>by rw [e] at hp;cases hp.2
 have eN:awN p st.ns=⟨n.k,n.b+1,n.s⟩ :: r:=by rw [en];simp only [awN];rw [zu hX,hp.2]
 have eW:awW p st.ns=[dI i e]:=by unfold awW;rw [zu (fun h=>hX h.1),hp.1]
 have HW:Hid (Aa 119 #[spg g,.agg #[.int .u8 6,.string ⟨#[]⟩,.int .i64 0,.int .i64 i,.bool e]] W fun rr w'=>rr=.returned (.tuple #[])/\WP W w' g st (.slice (some ⟨b,0,none⟩) (r.length+1) cap) vw (st.ws++[dI i e])):=ik hv (dI i e) hl;have HI:Hid (∀V,V.cell? ⟨g,1,none⟩=some (.slice (some ⟨b,0,none⟩) (r.length+1) cap)->Aa 62 #[spg g] V fun r' w'=>r'=.returned (.pointer (some ⟨b,r.length*3,none⟩))/\Ab V w'):=fun V hV=>cY hV (by rw [en] at hn;simp at hn;omega)
 have hnb:n.b<=1000000000:=hb n (by rw [en];exact zV);have q2:IntKind.i64.wrap ((n.b:Int)+1)=n.b+1:=by rw [zF];omega
 have hsg:=h.sg
 have HE:Hid (∀V1 w2,WP W V1 g st (.slice (some ⟨b,0,none⟩) (r.length+1) cap) vw (st.ws++[dI i e])->Ab V1 w2->(w2.cell? ⟨b,r.length*3+1,none⟩=some (.int .i64 n.b)/\w2.frozen? ⟨b,r.length*3+1,none⟩=false)/\Mv S g W (w2.setCell ⟨b,r.length*3+1,none⟩ (.int .i64 ((n.b:Int)+1))) (st.aw p)):=fun V1 w2 hp1 hb2=>by
  obtain ⟨vw',a1,a2⟩:=hp1.ex;have a3:=a1.below hb2;have a4:Rn tN w2 (.slice (some ⟨b,0,none⟩) (r.length+1) cap) (n :: r):=by have:=a3.rn;rw [show ({ st with ws:=st.ws++[dI i e] }:Sy).ns=n :: r from en] at this;exact this
  refine ⟨⟨(dM a4).2.1,Bg a4 _⟩,?_⟩;have a5:=SV.nd (n:=n) (m:=⟨n.k,n.b+1,n.s⟩) (show ({ st with ws:=st.ws++[dI i e] }:Sy).ns=n :: r from en) a3 1 (.int .i64 ((n.b:Int)+1)) (by omega) rfl;have e9:({ ({ st with ws:=st.ws++[dI i e] }:Sy) with ns:=⟨n.k,n.b+1,n.s⟩ :: r }:Sy)=st.aw p:=by unfold Sy.aw;rw [eN,eW]
  rw [e9] at a5;have hk:Kp S W (w2.setCell ⟨b,r.length*3+1,none⟩ (.int .i64 ((n.b:Int)+1))):=(((hp1.kp.sub (S:=S) (by rintro k (e|e);rw [e];exact hsg;exact s2 k e)).step (Kp.of_below (S:=fun _=>False) hb2) (fun _ _ h=>h.elim)).step (Kp.set _ _ _ _) (fun k _ e=>by rw [e];exact s1 b rfl));refine Mv.mk' a5 hsg (fun k e=>.inl (s1 k e)) (fun k e=>?_) hk hv.sb.cells.2.1
  rcases a2 with a2|⟨q,hq,hq2⟩
  ·exact .inl (s2 k (by rw [<-a2];exact e))
  ·rw [hq] at e;cases e;exact .inr hq2
 have HC:Hid (∀V1,WP W V1 g st (.slice (some ⟨b,0,none⟩) (r.length+1) cap) vw (st.ws++[dI i e])->V1.cell? ⟨g,1,none⟩=some (.slice (some ⟨b,0,none⟩) (r.length+1) cap)):=fun V1 hp1=>by
  obtain ⟨vw',a1,a2⟩:=hp1.ex;exact a1.sb.cells.2.1
 clear hv h hn1 s1 s2 eN eW hns hl hn hb hp hX hnb en
 go_enter Tryz.func67,Tryz.ntmps67
 go_wp2_with (first|(go_at_call 119;refine HW.out.mono ?_;rintro r1 w1 ⟨rfl,hp1⟩;have HP:=show Hid (WP W w1 g st (.slice (some ⟨b,0,none⟩) (r.length+1) cap) vw (st.ws++[dI i e])) from hp1;clear hp1)|(go_at_call 62;refine (HI.out _ (HC.out _ HP.out)).mono ?_;rintro r2 w2 ⟨rfl,hb2⟩;obtain ⟨⟨x1,x2⟩,x3⟩:=HE.out _ _ HP.out hb2;have HX:=hid x3;clear x3 hb2))
 go_end0
 exact ⟨rfl,HX.out⟩
end Go.Proofs.YtpdlohfdjiaegaaGreatDoor
