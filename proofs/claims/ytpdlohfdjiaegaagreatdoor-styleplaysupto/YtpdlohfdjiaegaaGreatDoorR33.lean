import Derived.Test.YtpdlohfdjiaegaaGreatDoorR32
set_option linter.unusedVariables false
set_option linter.unusedSimpArgs false
namespace Go.Proofs.YtpdlohfdjiaegaaGreatDoor
open Go.RowKit
open Lw (Dc bE rt frm dep rtT rtN dcs au aH)
set_option maxRecDepth 100000 in
set_option maxHeartbeats 4000000 in
theorem pu {S:Nat->Prop}{W:World}{g:Nat}{st:Sy}(h:DS S W g st) (hb:Bdd 300000000 st) (hm:∀m,st.mr=some m->m<=st.ws.length) (hw:Wk st) {n:Nd}{r:List Nd}(hne:st.ns=n :: r) (hk1:1<=n.k) (hk2:n.k<=32) (t:Tv) :
  Aa 44 #[spg g,.agg #[.int .u8 t.k,.string t.t,.int .i64 t.a,.int .i64 t.l,.int .i64 t.c,.int .i64 t.f]] W fun rr w'=>∃v,rr=.returned v/\DA S g W w' v (st.leaf t).2 (st.leaf t).1:=by
 obtain ⟨V,hV⟩:∃V,W.alloc (.cells #[.int .u8 t.k,.string t.t,.int .i64 t.a,.int .i64 t.l,.int .i64 t.c,.int .i64 t.f] 37)=V:=⟨_,rfl⟩;have hB:Below W.heap.size W V:=by rw [<-hV];exact (gt _ _).alloc (eq _) _
 have hT:V.heap[W.heap.size]?=some (.cells #[.int .u8 t.k,.string t.t,.int .i64 t.a,.int .i64 t.l,.int .i64 t.c,.int .i64 t.f] 37 (0,0)):=by rw [<-hV];exact ag _ _
 have HV:Hid (W.alloc (.cells #[.int .u8 t.k,.string t.t,.int .i64 t.a,.int .i64 t.l,.int .i64 t.c,.int .i64 t.f] 37)=V):=hV;have hs:=h.below hB;have hST:¬S W.heap.size:=fun e=>by have:=h.lt _ e;omega
 obtain ⟨b,cap,y0,y1,y2,y3,ybl⟩:=hs.nodes hne;have hrl:r.length<=900000000:=by have:=hb.2.1;rw [hne] at this;simp at this;omega
 obtain ⟨A,B,hAB⟩:∃A B,(aQ n t).a=A/\(aQ n t).b=B:=⟨_,_,rfl,rfl⟩;have hlf:st.leaf t=((st.ready A t.f).after B,(st.ready A t.f).ws++[dT t.t]):=by unfold Sy.leaf;rw [hne];simp only;rw [hAB.1,hAB.2]
 rw [hlf]
 have HAr:Hid (∀X,Aa 78 #[.agg #[.int .u8 n.k,.int .i64 n.b,.bool n.s],.agg #[.int .u8 t.k,.string t.t,.int .i64 t.a,.int .i64 t.l,.int .i64 t.c,.int .i64 t.f]] X fun r w'=>r=.returned (.tuple #[.string ⟨(A.pz.map pzb).toArray⟩,.string ⟨(B.pz.map pzb).toArray⟩])/\Ab X w'):=fun X=>by
  refine (nF n t X).mono ?_;rintro r w' ⟨e,hb⟩;refine ⟨?_,hb⟩;rw [e,tB n t hk1 hk2,hAB.1,hAB.2];rfl
 obtain ⟨a1,ha1⟩:∃a1,st.aws A.pz=a1:=⟨_,rfl⟩;obtain ⟨a2,ha2⟩:∃a2,a1.emp t.f=a2:=⟨_,rfl⟩;obtain ⟨a3,ha3⟩:∃a3,a2.dfin=a3:=⟨_,rfl⟩
 have hrd:st.ready A t.f=a3:=by
  have hw1:Wk a1:=by rw [<-ha1];exact hw.aws _
  have hw2:Wk a2:=by rw [<-ha2];exact hw1.emp _
  unfold Sy.ready;rw [ha1,ha2,<-wa hw2,ha3]
 rw [hrd];have hA4:=nT A;have hB4:=nT B;have hns1:∃n1,a1.ns=n1 :: r:=by rw [<-ha1];exact mf hne _
 have hns2:a2.ns=a1.ns:=by rw [<-ha2];exact nU _ _
 have hns3:a3.ns=a2.ns:=by rw [<-ha3];exact v8 _
 have hbd1:Bdd 300000010 a1:=by rw [<-ha1];exact (hb.aws _).mono (by omega)
 have hl2:a2.ws.length<=a1.ws.length+1:=by rw [<-ha2];exact rI _ _
 have hl3:a3.ws.length<=a2.ws.length+1:=by rw [<-ha3];exact tz _
 have hm1:∀m,a1.mr=some m->m<=a1.ws.length:=by rw [<-ha1];intro m e;rw [uQ] at e;exact zr (hm m e) (yo _ _)
 have HW1:Hid (∀X,Ab V X->Aa 76 #[spg g,.string ⟨(A.pz.map pzb).toArray⟩] X fun rr w'=>rr=.returned (.tuple #[])/\DM S g V w' a1):=fun X hX=>by
  refine (cM (hs.below hX) hne A.pz (sV A) ⟨(A.pz.map pzb).toArray⟩ (by simp) (by omega) (hb.mono (by omega))).mono ?_;rintro rr w' ⟨e,hD⟩;rw [ha1] at hD;exact ⟨e,DM.first hX hD⟩
 have HTk:Hid (∀X s,DM S g V X s->X.heap[W.heap.size]?=some (.cells #[.int .u8 t.k,.string t.t,.int .i64 t.a,.int .i64 t.l,.int .i64 t.c,.int .i64 t.f] 37 (0,0))):=fun X s hD=>hD.2.blk hT hST
 have m0:=aa (k:=0) hT rfl;have m1:=aa (k:=1) hT rfl;have m2:=aa (k:=2) hT rfl;have m3:=aa (k:=3) hT rfl;have m4:=aa (k:=4) hT rfl;have m5:=aa (k:=5) hT rfl;have q0:IntKind.i64.wrap (r.length:Int)=r.length:=by rw [zF];omega
 have q5:(0:Int)<=r.length:=by omega
 have q6:(r.length:Int)<(r.length:Int)+1:=by omega
 have hc0:∀x:HW (SG V),x.W.cell? ⟨g,0,none⟩=some (.slice (some ⟨b,0,none⟩) (r.length+1) cap):=fun x=>aR y0 x.h
 have hc1:∀x:HW (SG V),x.W.cell? ⟨b,r.length*3,none⟩=some (.int .u8 n.k):=fun x=>aR y1 x.h
 have hc2:∀x:HW (SG V),x.W.cell? ⟨b,r.length*3+1,none⟩=some (.int .i64 n.b):=fun x=>aR y2 x.h
 have hc3:∀x:HW (SG V),x.W.cell? ⟨b,r.length*3+2,none⟩=some (.bool n.s):=fun x=>aR y3 x.h
 have hd0:∀x:HW (SG V),x.W.cell? ⟨W.heap.size,0,none⟩=some (.int .u8 t.k):=fun x=>aR m0 x.h
 have hd1:∀x:HW (SG V),x.W.cell? ⟨W.heap.size,1,none⟩=some (.string t.t):=fun x=>aR m1 x.h
 have hd2:∀x:HW (SG V),x.W.cell? ⟨W.heap.size,2,none⟩=some (.int .i64 t.a):=fun x=>aR m2 x.h
 have hd3:∀x:HW (SG V),x.W.cell? ⟨W.heap.size,3,none⟩=some (.int .i64 t.l):=fun x=>aR m3 x.h
 have hd4:∀x:HW (SG V),x.W.cell? ⟨W.heap.size,4,none⟩=some (.int .i64 t.c):=fun x=>aR m4 x.h
 have hd5:∀x:HW (SG V),x.W.cell? ⟨W.heap.size,5,none⟩=some (.int .i64 t.f):=fun x=>aR m5 x.h
 have hne9:Nonempty (HW (SG V)):=⟨⟨V.drew,(gt _ _).drew⟩⟩;have hex:∀x:HW (SG V),∃y:HW (SG V),x.W=y.W:=fun x=>⟨x,rfl⟩
 have KT:Hid (∀x:HW (SG V),Aa 78 #[.agg #[.int .u8 n.k,.int .i64 n.b,.bool n.s],.agg #[.int .u8 t.k,.string t.t,.int .i64 t.a,.int .i64 t.l,.int .i64 t.c,.int .i64 t.f]] x.W fun r w'=>r=.returned (.tuple #[.string ⟨(A.pz.map pzb).toArray⟩,.string ⟨(B.pz.map pzb).toArray⟩])/\Below x.W.heap.size x.W w'):=fun x=>HAr.out x.W
 have HFst:Hid (Ab W V):=hB;have HBd:Hid (Bdd 300000010 a1/\a2.ws.length<=a1.ws.length+1/\a3.ws.length<=a2.ws.length+1/\(∃n1,a1.ns=n1 :: r)/\a2.ns=a1.ns/\a3.ns=a2.ns/\(∀m,a1.mr=some m->m<=a1.ws.length)/\B.pz.length<=4):=⟨hbd1,hl2,hl3,hns1,hns2,hns3,hm1,by omega⟩;have HE2:Hid (a1.emp t.f=a2):=ha2;have HE3:Hid (a2.dfin=a3):=ha3;clear hV hB hT hs h hST hb hm hw hlf hAB hA4 hB4 hns1 hns2 hns3 hbd1 hl2 hl3 hm1 ha1 ha2 ha3 hrd HAr m0 m1 m2 m3 m4 m5 y0 y1 y2 y3 ybl hne hk1 hk2
 go_enter Tryz.func44,Tryz.ntmps44
 go_upto_region 1 with fail
 rw [HV.out];refine bF (S:=SG V) (by kernel_rfl) (by kernel_rfl) (gt _ _).drew ?_
 repeat (go_big_quiet_step ((go_at_call 78;exact Calls.quiet_in _ (KT.out _) (fun _ _=>SG.keep))))
 refine wpQuiet_nil ?_;rintro w5 ⟨⟨W5,hS5⟩,rfl⟩;have HS5:Hid (Ab V w5):=hS5;clear hc0 hc1 hc2 hc3 hd0 hd1 hd2 hd3 hd4 hd5 hS5 hne9 hex KT
 go_upto_region 3 with (go_at_call 76;refine (HW1.out _ HS5.out).mono ?_;rintro r1 w1 ⟨rfl,hD⟩;have HD1:Hid (DM S g V w1 a1):=hD;clear hD)
 obtain ⟨S1,hS1,hseq1⟩:=HD1.out.seq;obtain ⟨p,c,p2,c2,e0,e1,e2,e3,e4,e5,e6,_,_⟩:=hS1.cells';have hgl:=hS1.glt;have f5:=aa (k:=5) (HTk.out _ _ HD1.out) rfl;have hT1:=ah (HTk.out _ _ HD1.out)
 have HSm:Hid (∀m,a1.mr=some m->Aa 39 #[spg g,.int .u8 6,.int .i64 m] w1 fun r w'=>r=.returned (.bool ((a1.ws.take m).any (smK 6)))/\DM S g V w' a1):=fun m hm=>by
  refine (nN hS1 6 m (HBd.out.2.2.2.2.2.2.1 m hm) (by have:=HBd.out.1.1;omega)).mono ?_;rintro r w' ⟨e,hb⟩;exact ⟨e,HD1.out.below hb⟩
 clear hS1 hseq1 e0 e1 e4 e5 e6;obtain ⟨cE,hcE⟩:∃cE,nj a1 t.f=cE:=⟨_,rfl⟩;have HcE:Hid (nj a1 t.f=cE):=hcE;clear hcE
 go_cut [53] from 9 (fun x wx=>x=.bool cE/\Hid (DM S g V wx a1))
 case first=>
  cases hm:a1.mr with
  |none=>
   have HQ:Hid (cE=false):=by show _=_;rw [<-HcE.out];unfold nj;rw [hm]
   rw [hm] at e2;have e2':w1.cell? ⟨g,2,none⟩=some (.int .i64 (-1)):=e2;clear e2 hm
   go_wp2_with fail
   go_meet
   case rel=>exact ⟨by rw [HQ.out],HD1.out⟩
  |some m=>
   rw [hm] at e2;have e2':w1.cell? ⟨g,2,none⟩=some (.int .i64 (m:Int)):=e2;have q7:(0:Int)<=m:=by omega
   have HSm2:=HSm.out m hm;have HC:Hid (cE=(decide (2<=t.f) && (a1.wr && !((a1.ws.take m).any (smK 6))))):=by show _=_;rw [<-HcE.out];unfold nj;rw [hm]
   obtain ⟨sB,hsB⟩:∃x,(a1.ws.take m).any (smK 6)=x:=⟨_,rfl⟩;rw [hsB] at HC HSm2;have HSm3:Hid (Aa 39 #[spg g,.int .u8 6,.int .i64 m] w1 fun r w'=>r=.returned (.bool sB)/\DM S g V w' a1):=HSm2;clear e2 hm HSm HSm2 hsB
   by_cases hf:2<=t.f
   ·have HC2:Hid (cE=(a1.wr && !sB)):=by show _=_;rw [HC.out,zB hf,AD]
    cases hwr:a1.wr with
    |false=>
     rw [hwr] at e3 HC2;clear HC hwr
     go_wp2_with fail
     go_meet
     case rel=>exact ⟨by rw [HC2.out];rfl,HD1.out⟩
    |true=>
     rw [hwr] at e3 HC2;clear HC hwr
     go_wp2_with (go_at_call 39;refine HSm3.out.mono ?_;rintro r1 w2 ⟨rfl,hD⟩;have HD2:Hid (DM S g V w2 a1):=hD;clear hD)
     all_goals (
      go_meet
      case rel=>exact ⟨by rw [HC2.out];cases sB <;> rfl,HD2.out⟩)
   ·have HC2:Hid (cE=false):=by show _=_;rw [HC.out,zA hf,Bool.false_and]
    clear HC
    go_wp2_with fail
    go_meet
    case rel=>exact ⟨by rw [HC2.out],HD1.out⟩
 case rest=>
  obtain ⟨rfl,HD2⟩:=hcut;clear e2 e3 f5 hT1 HSm HD1 hgl;have HA2:Hid (a2=if cE=true then es a1 else a1):=by show _=_;rw [<-HE2.out,kk,HcE.out]
  have HMs:Hid (cE=true->∃m,a1.mr=some m):=fun h=>by
   have:=HcE.out;rw [h] at this;unfold nj at this;cases hm:a1.mr with
   |none=>rw [hm] at this;cases this
   |some m=>exact ⟨m,rfl⟩
  obtain ⟨S2,hS2,hseq2⟩:=HD2.out.seq;obtain ⟨p,c,p2,c2,e0,e1,e2,e3,e4,e5,e6,_,_⟩:=hS2.cells';have hgl:=hS2.glt
  have HPt:Hid (∀m,a1.mr=some m->Aa 40 #[spg g,.int .i64 m,.agg #[.int .u8 5,.string ⟨#[]⟩,.int .i64 0,.int .i64 0,.bool false]] wc fun r w'=>r=.returned (.tuple #[])/\DM S g V w' (es a1)):=fun m hm=>by
   refine (gT hS2 m (HBd.out.2.2.2.2.2.2.1 m hm) dE (by have:=HBd.out.1.1;omega)).mono ?_;rintro r w' ⟨e,hD⟩;refine ⟨e,?_⟩;have:es a1={ a1 with ws:=a1.ws.take m++dE :: a1.ws.drop m }:=by unfold es;rw [hm];rfl
   rw [this];exact hseq2 _ _ hD
  clear hS2 hseq2 e0 e1 e3 e4 e5 e6 HcE HE2
  go_upto_if 53 with fail
  go_cut [] from 9 (fun wx=>Hid (DM S g V wx a2))
  case first=>
   cases cE
   ·have HQ:Hid (a2=a1):=HA2.out;clear HA2 HMs HPt
    go_wp2_with fail
    go_meet
    case rel=>rw [HQ.out];exact HD2.out
   ·have HQ:Hid (a2=es a1):=HA2.out;obtain ⟨m,hm⟩:=HMs.out rfl;rw [hm] at e2;have e2':wc.cell? ⟨g,2,none⟩=some (.int .i64 (m:Int)):=e2;have HP2:=HPt.out m hm;have HP3:Hid (Aa 40 #[spg g,.int .i64 m,.agg #[.int .u8 5,.string ⟨#[]⟩,.int .i64 0,.int .i64 0,.bool false]] wc fun r w'=>r=.returned (.tuple #[])/\DM S g V w' (es a1)):=HP2;clear e2 HP2 HPt hm HA2 HMs
    go_wp2_with (go_at_call 40;refine HP3.out.mono ?_;rintro r1 w2 ⟨rfl,hD⟩;have HD3:Hid (DM S g V w2 (es a1)):=hD;clear hD)
    go_meet
    case rel=>rw [HQ.out];exact HD3.out
  case rest=>
   have HD3:Hid (DM S g V wc a2):=hcut;clear hcut HD2 HMs HPt HA2 e2 hgl;obtain ⟨S3,hS3,hseq3⟩:=HD3.out.seq;obtain ⟨p,c,p2,c2,e0,e1,e2,e3,e4,e5,e6,_,_⟩:=hS3.cells';have hgl:=hS3.glt;have hal2:a2.ws.length<=400000000:=by have:=HBd.out.1.1;have:=HBd.out.2.1;omega
   have HSk:Hid (∀(k:Int) X,DM S g V X a2->Aa 39 #[spg g,.int .u8 k,.int .i64 a2.ws.length] X fun r w'=>r=.returned (.bool (a2.ws.any (smK k)))/\DM S g V w' a2):=fun k X hX=>by
    obtain ⟨S4,hS4,_⟩:=hX.seq;refine (nN hS4 k a2.ws.length (eq _) (by omega)).mono ?_;rintro r w' ⟨e,hb⟩;rw [Aw] at e;exact ⟨e,hX.below hb⟩
   have HPk:Hid (∀(i:Nat) (d:Dc) X,DM S g V X a2->i<=a2.ws.length->Aa 40 #[spg g,.int .i64 i,.agg #[.int .u8 d.k,.string d.t,.int .i64 d.b,.int .i64 d.i,.bool d.e]] X fun r w'=>r=.returned (.tuple #[])/\DM S g V w' { a2 with ws:=a2.ws.take i++d :: a2.ws.drop i }):=fun i d X hX hi=>by
    obtain ⟨S4,hS4,hseq4⟩:=hX.seq;refine (gT hS4 i hi d (by omega)).mono ?_;rintro r w' ⟨e,hD⟩;exact ⟨e,hseq4 _ _ hD⟩
   have HCl:Hid (∀X,DM S g V X a2->X.cell? ⟨g,5,none⟩=some (.bool a2.pt)/\g<X.heap.size):=fun X hX=>by
    obtain ⟨S4,hS4,_⟩:=hX.seq;obtain ⟨_,_,_,_,_,_,_,_,_,e5,_,_,_⟩:=hS4.cells';exact ⟨e5,hS4.glt⟩
   clear hS3 hseq3 e0 e2 e3 e5 e6 hal2;obtain ⟨cF,hcF⟩:∃x,xW a2=x:=⟨_,rfl⟩;obtain ⟨cG,hcG⟩:∃x,xy a2=x:=⟨_,rfl⟩;have HA3:Hid (a3=if cF=true then { a2 with ws:=dH :: a2.ws } else if cG=true then { a2 with ws:=a2.ws++[dS] } else a2):=by show _=_;rw [<-HE3.out];unfold Sy.dfin;rw [hcF,hcG]
   have HcF:Hid (cF=(a2.en && !(a2.ws.any (smK 4)))):=hcF.symm;have HcG:Hid (cG=(a2.pt && (!(a2.ws.any (smK 2)) && (!(a2.ws.any (smK 4)) && !(a2.ws.any (smK 3)))))):=hcG.symm;clear hcF hcG HE3
   go_upto_region 6 with fail
   go_cut [75] from 9 (fun x wx=>x=.bool cF/\Hid (DM S g V wx a2))
   case first=>
    cases hen:a2.en with
    |false=>
     have HQ:Hid (cF=false):=by show _=_;rw [HcF.out,hen];rfl
     rw [hen] at e4;clear hen HcF HcG HA3
     go_wp2_with fail
     go_meet
     case rel=>exact ⟨by rw [HQ.out],HD3.out⟩
    |true=>
     have HQ:Hid (cF=!(a2.ws.any (smK 4))):=by show _=_;rw [HcF.out,hen];rfl
     rw [hen] at e4;clear hen HcF HcG HA3
     go_wp2_with (go_at_call 39;refine (HSk.out 4 _ HD3.out).mono ?_;rintro r1 w2 ⟨rfl,hD⟩;have HD4:Hid (DM S g V w2 a2):=hD;clear hD)
     all_goals (
      go_meet
      case rel=>exact ⟨by rw [HQ.out],HD4.out⟩)
   case rest=>
    obtain ⟨rfl,HD4⟩:=hcut;clear e1 e4 hgl HD3
    go_upto_if 75 with fail
    go_cut [] from 9 (fun wx=>Hid (DM S g V wx a3))
    case first=>
     cases cF
     ·have HA4:Hid (a3=if cG=true then { a2 with ws:=a2.ws++[dS] } else a2):=HA3.out;clear HA3 HcF;obtain ⟨x5,x6⟩:=HCl.out _ HD4.out;obtain ⟨s2,hs2⟩:∃x,a2.ws.any (smK 2)=x:=⟨_,rfl⟩;obtain ⟨s4,hs4⟩:∃x,a2.ws.any (smK 4)=x:=⟨_,rfl⟩;obtain ⟨s3,hs3⟩:∃x,a2.ws.any (smK 3)=x:=⟨_,rfl⟩;have HS2:Hid (∀X,DM S g V X a2->Aa 39 #[spg g,.int .u8 2,.int .i64 a2.ws.length] X fun r w'=>r=.returned (.bool s2)/\DM S g V w' a2):=by rw [<-hs2];exact HSk.out 2
      have HS4:Hid (∀X,DM S g V X a2->Aa 39 #[spg g,.int .u8 4,.int .i64 a2.ws.length] X fun r w'=>r=.returned (.bool s4)/\DM S g V w' a2):=by rw [<-hs4];exact HSk.out 4
      have HS3:Hid (∀X,DM S g V X a2->Aa 39 #[spg g,.int .u8 3,.int .i64 a2.ws.length] X fun r w'=>r=.returned (.bool s3)/\DM S g V w' a2):=by rw [<-hs3];exact HSk.out 3
      rw [hs2,hs4,hs3] at HcG;clear hs2 hs4 hs3 HSk
      go_upto_region 8 with fail
      go_cut [100] from 9 (fun x wx=>x=.bool cG/\Hid (DM S g V wx a2))
      case first=>
       cases hpt:a2.pt with
       |false=>
        have HQ:Hid (cG=false):=by show _=_;rw [HcG.out,hpt];rfl
        rw [hpt] at x5;clear hpt HcG HA4
        go_wp2_with fail
        go_meet
        case rel=>exact ⟨by rw [HQ.out],HD4.out⟩
       |true=>
        have HQ:Hid (cG=(!s2 && (!s4 && !s3))):=by show _=_;rw [HcG.out,hpt];rfl
        rw [hpt] at x5;clear hpt HcG HA4;cases s2
        ·cases s4
         ·have HQ2:Hid (cG=!s3):=HQ.out;clear HQ
          go_wp2_with (first
           | (go_at_call_of 39 (Value.int IntKind.u8 2);refine (HS2.out _ HD4.out).mono ?_;rintro r1 w2 ⟨rfl,hD⟩;have HD5:Hid (DM S g V w2 a2):=hD;clear hD)
           | (go_at_call_of 39 (Value.int IntKind.u8 4);refine (HS4.out _ HD5.out).mono ?_;rintro r1 w3 ⟨rfl,hD⟩;have HD6:Hid (DM S g V w3 a2):=hD;clear hD)
           | (go_at_call_of 39 (Value.int IntKind.u8 3);refine (HS3.out _ HD6.out).mono ?_;rintro r1 w4 ⟨rfl,hD⟩;have HD7:Hid (DM S g V w4 a2):=hD;clear hD))
          all_goals (
           go_meet
           case rel=>exact ⟨by rw [HQ2.out],HD7.out⟩)
         ·have HQ2:Hid (cG=false):=HQ.out;clear HQ
          go_wp2_with (first
           | (go_at_call_of 39 (Value.int IntKind.u8 2);refine (HS2.out _ HD4.out).mono ?_;rintro r1 w2 ⟨rfl,hD⟩;have HD5:Hid (DM S g V w2 a2):=hD;clear hD)
           | (go_at_call_of 39 (Value.int IntKind.u8 4);refine (HS4.out _ HD5.out).mono ?_;rintro r1 w3 ⟨rfl,hD⟩;have HD6:Hid (DM S g V w3 a2):=hD;clear hD))
          go_meet
          case rel=>exact ⟨by rw [HQ2.out],HD6.out⟩
        ·have HQ2:Hid (cG=false):=HQ.out;clear HQ
         go_wp2_with (go_at_call 39;refine (HS2.out _ HD4.out).mono ?_;rintro r1 w2 ⟨rfl,hD⟩;have HD5:Hid (DM S g V w2 a2):=hD;clear hD)
         go_meet
         case rel=>exact ⟨by rw [HQ2.out],HD5.out⟩
      case rest=>
       obtain ⟨rfl,HD5⟩:=hcut;clear x5 x6 HS2 HS3 HS4 HcG HD4;cases cG
       ·have HQ:Hid (a3=a2):=HA4.out
        go_wp2_with fail
        go_meet
        case rel=>rw [HQ.out];exact HD5.out
       ·have HQ:Hid (a3={ a2 with ws:=a2.ws++[dS] }):=HA4.out
        have HP:Hid (Aa 40 #[spg g,.int .i64 a2.ws.length,.agg #[.int .u8 2,.string ⟨#[]⟩,.int .i64 0,.int .i64 0,.bool false]] wc fun r w'=>r=.returned (.tuple #[])/\DM S g V w' a3):=by
         refine (HPk.out a2.ws.length dS _ HD5.out (eq _)).mono ?_;rintro r w' ⟨e,hD⟩;rw [Aw,A5] at hD;rw [HQ.out];exact ⟨e,hD⟩
        go_wp2_with (go_at_call 40;refine HP.out.mono ?_;rintro r1 w2 ⟨rfl,hD⟩;have HD6:Hid (DM S g V w2 a3):=hD;clear hD)
        go_meet
        case rel=>exact HD6.out
     ·have HQ:Hid (a3={ a2 with ws:=dH :: a2.ws }):=HA3.out
      have HP:Hid (Aa 40 #[spg g,.int .i64 0,.agg #[.int .u8 4,.string ⟨#[]⟩,.int .i64 0,.int .i64 0,.bool false]] wc fun r w'=>r=.returned (.tuple #[])/\DM S g V w' a3):=by
       refine (HPk.out 0 dH _ HD4.out (zx _)).mono ?_;rintro r w' ⟨e,hD⟩;rw [HQ.out];exact ⟨e,hD⟩
      clear HA3 HcF HcG
      go_wp2_with (go_at_call 40;refine HP.out.mono ?_;rintro r1 w2 ⟨rfl,hD⟩;have HD6:Hid (DM S g V w2 a3):=hD;clear hD)
      go_meet
      case rel=>exact HD6.out
    case rest=>
     have HD5:Hid (DM S g V wc a3):=hcut;clear hcut HD4 HSk HPk HCl HA3 HcF HcG;obtain ⟨S5,hS5,hseq5⟩:=HD5.out.seqA;obtain ⟨p,c,p2,c2,e0,e1,e2,e3,e4,e5,e6,hro,hfz⟩:=hS5.cells';have hgl:=hS5.glt;have f1:=aa (k:=1) (HTk.out _ _ HD5.out) rfl;have hT1:=ah (HTk.out _ _ HD5.out);obtain ⟨n1,hn1⟩:=HBd.out.2.2.2.1;have hns:a3.ns=n1 :: r:=by rw [HBd.out.2.2.2.2.2.1,HBd.out.2.2.2.2.1];exact hn1
     have hal3:a3.ws.length+[dT t.t].length<=2000000000:=by have:=HBd.out.1.1;have:=HBd.out.2.1;have:=HBd.out.2.2.1;simp;omega
     have HL3:Hid (a3.ws.length+[dT t.t].length<=2000000000):=hal3;have HRo:Hid (∀o,Rof (wc.drew.alloc o) (.slice p2 a3.ws.length c2) a3.ws):=fun o=>hro.below (((gt _ _).drew).alloc (eq _) _)
     have HOut:Hid (∀o w3 q o' c',Rof w3 (.slice (some ⟨q,o',none⟩) (a3.ws.length+1) c') (a3.ws++[dT t.t])->Kp (fun k=>(Value.slice p2 a3.ws.length c2).ownBlock=some k) (wc.drew.alloc o) w3->Nb (wc.drew.alloc o) (.slice p2 a3.ws.length c2) (.slice (some ⟨q,o',none⟩) (a3.ws.length+1) c') ->
       (w3.frozen? ⟨g,1,none⟩=false/\w3.frozen? ⟨g,2,none⟩=false/\w3.frozen? ⟨g,3,none⟩=false/\w3.frozen? ⟨g,4,none⟩=false/\w3.frozen? ⟨g,5,none⟩=false)/\(w3.cell? ⟨g,1,none⟩=some (.slice p2 a3.ws.length c2)/\w3.cell? ⟨g,2,none⟩=some (.int .i64 (lw a3.mr))/\w3.cell? ⟨g,3,none⟩=some (.bool a3.wr)/\w3.cell? ⟨g,4,none⟩=some (.bool a3.en)/\w3.cell? ⟨g,5,none⟩=some (.bool a3.pt)) /\
       Aa 76 #[spg g,.string ⟨(B.pz.map pzb).toArray⟩] (jQ w3 g) fun rr w'=>rr=.returned (.tuple #[])/\DA S g W w' (.slice (some ⟨q,o',none⟩) (a3.ws.length+1) c') (a3.ws++[dT t.t]) (a3.after B)):=fun o w3 q o' c' z1 z2 z3=>by
      obtain ⟨g1,g2,g3,g4⟩:=sP hS5 e1 (((gt _ _).drew).alloc (eq _) _) z1 z2 z3;refine ⟨⟨g1 1,g1 2,g1 3,g1 4,g1 5⟩,⟨g3,g2 2 _ (by omega) (by omega) e2,g2 3 _ (by omega) (by omega) e3,g2 4 _ (by omega) (by omega) e4,g2 5 _ (by omega) (by omega) e5⟩,?_⟩;refine (g4.waits (n:=n1) (r:=r) hns B.pz (sV B) ⟨(B.pz.map pzb).toArray⟩ (by simp) (by have:=HBd.out.2.2.2.2.2.2.2;omega) ?_).mono ?_
      ·refine ⟨by simp,?_,?_⟩
       ·show a3.ns.length<=_
        have:=HBd.out.1.2.1;rw [HBd.out.2.2.2.2.2.1,HBd.out.2.2.2.2.1];omega
       ·show ∀x∈a3.ns,_
        rw [HBd.out.2.2.2.2.2.1,HBd.out.2.2.2.2.1];intro x hx;have:=HBd.out.1.2.2 x hx;omega
      ·rintro rr w' ⟨e,hA⟩;exact ⟨e,DA.first HFst.out (hseq5 _ _ _ _ hA)⟩
     clear hS5 hseq5 hro hfz e0 e2 e3 e4 e5 e6 hn1 hns hal3 HBd HFst
     go_upto_region 10 with fail
     go_region_law (refine cP (by rfl) _ _ (by rfl) (.slice p2 a3.ws.length c2) a3.ws [dT t.t] (by rfl) (HRo.out _) ⟨wc.heap.size,0,none⟩ 1 1 (by rfl) (by rfl) (aT (ag wc.drew _)) (AB _) HL3.out ?_;intro q o' c' w3 z1 z2 z3;obtain ⟨⟨j1,j2,j3,j4,j5⟩,⟨l1,l2,l3,l4,l5⟩,l6⟩:=HOut.out _ w3 q o' c' z1 z2 z3;have HZ:Hid (Aa 76 #[spg g,.string ⟨(B.pz.map pzb).toArray⟩] (jQ w3 g) fun rr w'=>rr=.returned (.tuple #[])/\DA S g W w' (.slice (some ⟨q,o',none⟩) (a3.ws.length+1) c') (a3.ws++[dT t.t]) (a3.after B)):=l6;clear l6 z1 z2 z3)
     all_goals (
      unfold jQ at HZ
      go_wp2_with (go_at_call 76;refine HZ.out.mono ?_;rintro r1 w4 ⟨rfl,hA⟩;have HA9:Hid (DA S g W w4 (.slice (some ⟨q,o',none⟩) (a3.ws.length+1) c') (a3.ws++[dT t.t]) (a3.after B)):=hA;clear hA)
      go_ret
      exact ⟨_,rfl,HA9.out⟩)
end Go.Proofs.YtpdlohfdjiaegaaGreatDoor
