import Derived.Deep.CutBlock
import Derived.Test.YtkigadnkclkopaaGreatDoorM24
import Derived.Test.YtkigadnkclkopaaGreatDoorM47
import Derived.Test.YtkigadnkclkopaaGreatDoorM48
set_option linter.unusedVariables false
set_option linter.unusedSimpArgs false
namespace Go.Proofs.YtkigadnkclkopaaGreatDoor
open Go.RowKit
set_option maxRecDepth 100000 in
set_option maxHeartbeats 4000000 in
theorem top_walk (w:World) (s:ByteArray) (ao:Option Addr) (cs:List Int) (cap:Nat) (hT:Lx.Kab w) (hI:Is w ao cs) :
  Calls Tryz.prog 3 #[.string s,.slice ao cs.length cap] w fun r w'=>r=.returned (.bool true)∧Below w.heap.size w w':=by
 have HTk:Hid (Calls Tryz.prog 4 #[] w fun r w'=>r=.returned (.bool true)∧Below w.heap.size w w'):=taken_any w (Lx.all_any _ w hT (by decide))
 obtain ⟨TL,hTL⟩:∃TL,(Lx.scn s).1.map (Lx.tv s)=TL:=⟨_,rfl⟩
 obtain ⟨eS,heS⟩:∃eS,(Lx.scn s).2.1=eS:=⟨_,rfl⟩
 obtain ⟨E,code,a,m1⟩:=alr_ex TL (.live [] 0) good_new
 have HM:Hid (Alr (.live [] 0) TL E code a∧(Lx.scn s).1.map (Lx.tv s)=TL∧(Lx.scn s).2.1=eS):=⟨m1,hTL,heS⟩
 have HAll:Hid (∀V,Below w.heap.size w V→s.size≤1048576→Calls Tryz.prog 5 #[.string s] V fun e w'=>∃(p:Option Addr) (c:Nat) (X1 X2 X3:Int),e=.returned (.tuple #[.slice p TL.length c,.int .i64 eS,.agg #[.int .i64 X1,.int .i64 X2,.int .i64 X3]])∧Lt w' p TL∧Below V.heap.size V w'∧TL.length≤1048576):=fun V hb hz=>by
  refine (Lx.all_any s V (hT.below hb) (by omega)).mono ?_
  rintro e w' ⟨⟨v,he,hr⟩,hb'⟩
  rw [hTL] at hr
  obtain ⟨p,c,rfl,hl,_⟩:=Lt.row hr
  rw [heS] at he
  refine ⟨p,c,_,_,_,he,hl,hb',?_⟩
  rw [←hTL,List.length_map]
  have:=Cov_len (s:=s) (Lk:=(Lx.scn s).1) (E:=(Lx.scn s).2.1) (a:=(Lx.scn s).2.2) rfl
  omega
 have HK:Hid (∀V,Below w.heap.size w V→Lx.Kab V):=fun V hb=>hT.below hb
 have HI:Hid (∀V,Below w.heap.size w V→s.size≤1048576→cs.length≤1048576→Calls Tryz.prog 8 #[.string s,.slice ao cs.length cap] V fun e w'=>∃p l c,e=.returned (.slice p l.length c)∧Ss w' p l∧(∀a,p=some a→V.heap.size≤a.block)∧cat l=s∧l.length≤4001∧Below V.heap.size V w'):=fun V hb h1 h2=>by
  refine (cut_any s ao cs cap V (hI.below hb) h1 h2).mono ?_
  rintro e w' ⟨v,l,rfl,hr,hc,hl,hb'⟩
  obtain ⟨p,c,rfl,h3,h4⟩:=hr.row
  exact ⟨p,l,c,rfl,h3,fun a ha=>(h4 a ha).1,hc,hl,hb'⟩
 clear hT hI m1 hTL heS
 go_enter Tryz.func3,Tryz.ntmps3
 go_wp2_with fail
 refine HTk.out.mono ?_
 rintro r w1 ⟨rfl,hb1⟩
 have H1:Hid (Below w.heap.size w w1):=hb1
 clear hb1 HTk
 by_cases hm1:s.size≤1048576
 ·have q1:¬((s.size:Int)>1048576):=by omega
  by_cases hm2:cs.length≤1048576
  ·have q2:¬((cs.length:Int)>1048576):=by omega
   go_wp2_with fail
   refine (HAll.out w1 H1.out hm1).mono ?_
   rintro r w2 ⟨pA,cA,X1,X2,X3,rfl,hl,hb2,hTz⟩
   have H2:Hid (Lt (w2.alloc (.cells #[.int .i64 X1,.int .i64 X2,.int .i64 X3] 27)) pA TL∧Below w.heap.size w (w2.alloc (.cells #[.int .i64 X1,.int .i64 X2,.int .i64 X3] 27))):=⟨hl.below ((Below.refl _ _).alloc (Nat.le_refl _) _),by
    have h1:=H1.out.trans (hb2.mono H1.out.size)
    exact h1.alloc h1.size _⟩
   clear hl hb2 HAll H1
   go_wp2_with fail
   generalize w2.alloc (.cells #[.int .i64 X1,.int .i64 X2,.int .i64 X3] 27)=V2 at H2 ⊢
   refine (Lx.lnew_any V2).mono ?_
   rintro r w3 ⟨gx,rfl,hx1,hx2,hb3,hz3⟩
   have H3:Hid (V2.heap.size≤gx∧gx<w3.heap.size∧Below V2.heap.size V2 w3∧Lx.LZ (fun q=>q=gx) w3 gx ByteArray.empty [] 0 0 0):=⟨hx1,hx2,hb3,hz3⟩
   clear hx1 hx2 hb3 hz3
   go_wp2_with fail
   refine (new_st w3).mono ?_
   rintro r w4 ⟨rfl,hq,hb4,hs4⟩
   have H4:Hid (Pq (fun k=>k=w3.heap.size) w4 w3.heap.size (.live [] 0)∧Below w3.heap.size w3 w4∧w4.heap.size=w3.heap.size+1∧Below w.heap.size w w4):=⟨hq,hb4,hs4,by
    have h1:=H2.out.2.trans (H3.out.2.2.1.mono H2.out.2.size)
    exact h1.trans (hb4.mono h1.size)⟩
   clear hq hb4 hs4
   go_wp2_with fail
   refine (HI.out w4 H4.out.2.2.2 hm1 hm2).mono ?_
   rintro r w5 ⟨pc,l,cc,rfl,hsS,hpc,hcat,hlen,hb5⟩
   obtain ⟨g,hg⟩:∃g,w3.heap.size=g:=⟨_,rfl⟩
   obtain ⟨U,hU⟩:∃U:Nat→Prop,(fun q=>q=gx∨q=g)=U:=⟨_,rfl⟩
   have H5:Hid (Gn V2 g gx nilS nilS s ByteArray.empty TL E code a U w5 w5):=by
    rw [←hU]
    refine gn_start HM.out.1 H3.out.2.2.1 ⟨H3.out.1,H3.out.2.1⟩ H3.out.2.2.2 hg.symm ?_ H4.out.2.1 H4.out.2.2.1 hb5
    rw [←hg];exact H4.out.1
   have HS:Hid (∀V,Kp U w5 V→Ss V pc l):=fun V hV=>hsS.kp hV (fun b hb e=>by
    rw [←hU] at e
    have h1:=hpc b hb
    have h2:=H4.out.2.2.1
    have h3:=H3.out.2.1
    rcases e with e|e <;> omega)
   have HC:Hid (cat l=s∧l.length≤4001∧∀k,s=cat (l.take k)++cat (l.drop k)):=⟨hcat,hlen,fun k=>by rw [←hcat];exact cat_cut l k⟩
   have HV:Hid (∀V,Below V2.heap.size V2 V→Below w.heap.size w V∧Lt V pA TL):=fun V hb=>⟨H2.out.2.trans (hb.mono H2.out.2.size),H2.out.1.below hb⟩
   have HKb:Hid (Lx.Kab V2):=HK.out V2 H2.out.2
   rw [hg]
   have hln:(l.length:Int)≤4001:=by omega
   have hTn:(TL.length:Int)≤1048576:=by omega
   clear hsS hpc hcat hlen hb5 hg hU H2 H3 H4 HK HI
   go_upto_block 0 with fail
   go_cut [11,12,13,14,15] from 32 to 119 (fun v1 v2 wv av bv wx=>∃(c x b:Int) (m:Nat),wv=.int .i64 c∧av=.int .i64 x∧bv=.int .i64 b∧m≤TL.length∧Hid (Rt V2.heap.size wx v1 (TL.take m)∧Below V2.heap.size V2 wx∧((c=0∧b=eS∧m=TL.length∧Dne V2 g v1 v2 TL E code a U w5 wx)∨(c=code∧code≠0∧x=a∧m=a+1))))
   case first=>
    go_wp2_with fail
    go_loopw [11,12,13,14,15,17,18,19,20] (fun v1 v2 wv av bv iv _ _ _ wr=>∃(k b:Nat),iv=.int .i64 k∧bv=.int .i64 b∧k≤l.length+1∧((wv=.int .i64 0∧av=.int .i64 (-1)∧Hid ((b=0∧k≤l.length∧Gn V2 g gx v1 v2 s (cat (l.take k)) TL E code a U w5 wr)∨((b≠0∨k=l.length+1)∧b=eS∧Dne V2 g v1 v2 TL E code a U w5 wr)))∨(wv=.int .i64 code∧av=.int .i64 a∧Hid (Bz V2 v1 TL code a wr)))) (fun _ _ _ _ _ iv _ _ _ _=>l.length+1-(intOf iv).toNat)
    case atStart=>exact ⟨0,0,rfl,rfl,Nat.zero_le _,.inl ⟨rfl,rfl,.inl ⟨rfl,Nat.zero_le _,H5.out⟩⟩⟩
    case round=>
     obtain ⟨k,b,rfl,rfl,hk,hd⟩:=hrel
     have q0:(0:Int)≤k:=by omega
     rcases hd with ⟨rfl,rfl,HG⟩|⟨rfl,rfl,HG⟩
     ·rcases HG.out with ⟨rfl,hkl,hgn⟩|⟨hb,hbe,hdn⟩
      ·have q1:(k:Int)≤l.length:=by omega
       have HGn:Hid (Gn V2 g gx u11 u12 s (cat (l.take k)) TL E code a U w5 wr):=hgn
       clear hgn HG
       obtain ⟨hkp,⟨p1,c1,n1,hv1⟩,⟨p2,c2,n2,hv2⟩⟩:=HGn.out.kp
       by_cases hlt:k<l.length
       ·have q2:(k:Int)<l.length:=by omega
        obtain ⟨x,hx⟩:∃x,l[k]?=some x:=⟨_,List.getElem?_eq_getElem hlt⟩
        obtain ⟨ab,aoff,rfl,z0⟩:=(HS.out wr hkp) k x hx
        have hct:=cat_take hx
        have hcu:s=(cat (l.take k)++x)++cat (l.drop (k+1)):=by rw [←hct];exact HC.out.2.2 (k+1)
        have HF:Hid (Calls Tryz.prog 9 #[.pointer (some ⟨gx,0,none⟩),.string x] wr fun r w'=>∃(vl:Value) (e:Nat) (A L C:Int) (T0 N R:List Tv) (E0:List Ev) (st:Pst) (Us:Nat→Prop),r=.returned (.tuple #[vl,.int .i64 e,.agg #[.int .i64 A,.int .i64 L,.int .i64 C]])∧Md V2 g u11 u12 TL E code a vl T0 N R E0 st Us w' (fun v1' v2' V=>(e=0∧Gn V2 g gx v1' v2' s (cat (l.take (k+1))) TL E code a U w5 V)∨(e≠0∧e=eS∧Dne V2 g v1' v2' TL E code a U w5 V))):=by
         have h1:=tfeed_any HGn.out HKb.out hcu hm1 HM.out.2.1.symm
         rw [←hct,HM.out.2.2] at h1
         exact h1
        subst hv1 hv2
        clear hx hct hcu hkp
        go_wp2_with fail
        refine HF.out.mono ?_
        rintro r w6 ⟨vl,e,A,L,C,T0,N,R,E0,st,Us,rfl,hM⟩
        clear HF HGn z0
        obtain ⟨Bl,hrl⟩:=hM.rl
        obtain ⟨pl,cl,hvl,hLl,_⟩:=Lt.row hrl
        subst hvl
        have HLn:Hid (∀V,Kp Us w6 V→Lt V pl N):=fun V hV=>by
         obtain ⟨pl',cl',e',h',hg',_⟩:=Lt.row hrl
         cases e'
         refine h'.kp hV (fun b hb=>hM.nl b.block ?_)
         rcases hg' with rfl|⟨q,rfl,_⟩
         ·cases hb
         ·cases hb;rfl
        have HMd:Hid (Md V2 g (.slice p1 n1 c1) (.slice p2 n2 c2) TL E code a (.slice pl N.length cl) T0 N R E0 st Us w6 (fun v1' v2' V=>(e=0∧Gn V2 g gx v1' v2' s (cat (l.take (k+1))) TL E code a U w5 V)∨(e≠0∧e=eS∧Dne V2 g v1' v2' TL E code a U w5 V))):=hM
        have hNl:(N.length:Int)≤1048576:=by
         have h1:=congrArg List.length hM.pg.tl
         simp only [List.length_append] at h1
         omega
        clear hM hrl hLl
        go_wp2_with fail
        go_loopw [11,12,13,14,19,20] (fun v1 v2 wv av kv _ wr=>∃j:Nat,kv=.int .i64 j∧j≤N.length∧((wv=.int .i64 0∧av=.int .i64 (-1)∧Hid (∃S st' E' T1,T1=T0++N.take j∧TI V2 g v1 v2 T1 E' st' S Us w6 wr∧Pg TL E code a T1 (N.drop j++R) E' st'))∨(wv=.int .i64 code∧av=.int .i64 a∧Hid (Bz V2 v1 TL code a wr)))) (fun _ _ _ _ kv _ _=>N.length-(intOf kv).toNat)
        case atStart=>
         obtain ⟨S,hti⟩:=HMd.out.ti
         exact ⟨0,rfl,Nat.zero_le _,.inl ⟨rfl,rfl,S,st,E0,T0,by simp,hti,by simpa using HMd.out.pg⟩⟩
        case round=>
         obtain ⟨j,rfl,hj,hd⟩:=hrel
         have q4:(0:Int)≤j:=by omega
         rcases hd with ⟨rfl,rfl,HJ⟩|⟨rfl,rfl,HJ⟩
         ·obtain ⟨S,st',E',T1,hT1,hti,hpg⟩:=HJ.out
          obtain ⟨p1,c1,hv1,_⟩:=hti.rt.shape
          obtain ⟨p2,c2,hv2,_⟩:=hti.re.shape
          subst hv1 hv2
          have hTT:=congrArg List.length hpg.tl
          rw [List.length_append] at hTT
          have hT1n:(T1.length:Int)≤1048576:=by omega
          have hEl:=hpg.len
          by_cases hjl:j<N.length
          ·have q3:(j:Int)<N.length:=by omega
           obtain ⟨t,ht⟩:∃t,N[j]?=some t:=⟨_,List.getElem?_eq_getElem hjl⟩
           have hdr:N.drop j++R=t :: (N.drop (j+1)++R):=by
            obtain ⟨a1,a2⟩:=List.getElem?_eq_some_iff.1 ht
            rw [List.drop_eq_getElem_cons a1,a2]
            rfl
           have htk:T1++[t]=T0++N.take (j+1):=by rw [hT1,List.take_add_one,ht,List.append_assoc];rfl
           rw [hdr] at hpg
           obtain ⟨b9,off,rfl,x0,x1,x2,x3,x4,x5⟩:=(HLn.out wr hti.kp).cell6 ht
           have HB:Hid (∀W,Below wr.heap.size wr W∨Kp Us w6 W→Lt W (some ⟨b9,off,none⟩) N):=fun W hW=>by
            rcases hW with hW|hW
            ·exact (HLn.out wr hti.kp).below hW
            ·exact HLn.out W hW
           rcases hpg.step hti.gd with ⟨ev,st2,hp,hc,ha⟩|⟨ev,st2,hp,hpg2,hlen⟩
           ·have hel:ev.length≤30000:=(put_keep hti.gd hp).2.1
            have hTa:T1++[t]=TL.take (a+1):=by
             rw [hpg.tl,ha,List.take_append,List.take_of_length_le (by omega)]
             simp
            have HX:Hid (a=T1.length∧code≠0∧T1++[t]=TL.take (a+1)∧a<TL.length∧E'.length+ev.length≤1000000000000∧T1.length≤1000000000):=⟨ha,hc,hTa,by rw [hpg.tl,ha];simp,by omega,by omega⟩
            have HP:Hid (Calls Tryz.prog 11 #[pt g,.agg #[.int .u8 t.k,.string t.t,.int .i64 t.a,.int .i64 t.l,.int .i64 t.c,.int .i64 t.f]] wr fun r w'=>∃v,r=.returned (.tuple #[v,.int .i64 code])∧Pa S g wr w' v ev st2):=pput_any hti.pq (fun k hk=>(hti.sB k hk).2) hti.gd.ok hp
            have HN:Hid (∀w' x,Pa S g wr w' x ev st2→TJ V2 g (.slice p1 T1.length c1) (.slice p2 E'.length c2) x T1 E' ev st2 Us w6 w'):=fun w' x hx=>hti.put hx (put_keep hti.gd hp).1
            have q5:(code != 0)=true:=by simpa using hc
            have q6:¬(code=0):=hc
            clear hti hpg hp hc ha hTT hEl hel hTa hdr HJ htk hT1
            go_wp2_with fail
            refine HP.out.mono ?_
            rintro r w7 ⟨x,rfl,hx⟩
            have H7:Hid (TJ V2 g (.slice p1 T1.length c1) (.slice p2 E'.length c2) x T1 E' ev st2 Us w6 w7):=HN.out _ _ hx
            obtain ⟨px,cx,hxs,_⟩:=hx.re.shape
            subst hxs
            obtain ⟨S7,h7,_⟩:=H7.out.ex
            obtain ⟨b8,off8,e8,y0,y1,y2,y3,y4,y5⟩:=(HB.out w7 (.inr h7.kp)).cell6 ht
            cases e8
            have H8:Hid (∀o,TJ V2 g (.slice p1 T1.length c1) (.slice p2 E'.length c2) (.slice px ev.length cx) T1 E' ev st2 Us w6 (w7.alloc o)∧Rt V2.heap.size (w7.alloc o) (.slice p1 T1.length c1) T1∧V2.heap.size≤(w7.alloc o).heap.size):=fun o=>by
             have hb:Below w7.heap.size w7 (w7.alloc o):=(Below.refl _ _).alloc (Nat.le_refl _) _
             exact ⟨H7.out.below hb,h7.rt.below hb,Nat.le_trans h7.bel.size hb.size⟩
            clear hx h7 x0 x1 x2 x3 x4 x5 ht
            go_wp2_with (first|(at_builtin;refine app_tok (by rfl) _ _ (by rfl) V2.heap.size (.slice p1 T1.length c1) T1 ⟨t.k,t.t,t.a,t.l,t.c,t.f⟩ (by rfl) (H8.out _).2.1 w7.heap.size 1 (by rfl) (new_at _ _) HX.out.2.2.2.2.2 (H8.out _).2.2 ?_;intro v1' w8 h1 h2 h3 h4;have H9:Hid (TJ V2 g v1' (.slice p2 E'.length c2) (.slice px ev.length cx) (T1++[t]) E' ev st2 Us w6 w8):=(H8.out _).1.tok h1 (Kp.of_grown h3) h4;clear h1 h2 h3 h4;have H9r:Hid (Re w8 (.slice p2 E'.length c2) E'):=(H9.out.ex.elim fun _ h=>h.1.re))|(at_builtin;refine app_evs (by rfl) _ _ (by rfl) (.slice p2 E'.length c2) (.slice px ev.length cx) E' ev (by rfl) H9r.out (by rfl) H9.out.rx HX.out.2.2.2.2.1 ?_;intro v2' w9 h1 h2 h3;have H10:Hid (∃S,TI V2 g v1' v2' (T1++[t]) (E'++ev) st2 S Us w6 w9):=H9.out.evs h1 h2 h3;clear h1 h2 h3))
            obtain ⟨S10,h10⟩:=H10.out
            refine ⟨⟨j+1,by go_num,hjl,.inr ⟨rfl,by rw [HX.out.1],HX.out.2.1,HX.out.2.2.2.1,?_,h10.bel⟩⟩,by simp [intOf] <;> omega⟩
            rw [←HX.out.2.2.1]
            exact h10.rt
           ·have HX:Hid (Pg TL E code a (T1++[t]) (N.drop (j+1)++R) (E'++ev) st2∧T1++[t]=T0++N.take (j+1)∧E'.length+ev.length≤1000000000000∧T1.length≤1000000000):=⟨hpg2,htk,by omega,by omega⟩
            have HP:Hid (Calls Tryz.prog 11 #[pt g,.agg #[.int .u8 t.k,.string t.t,.int .i64 t.a,.int .i64 t.l,.int .i64 t.c,.int .i64 t.f]] wr fun r w'=>∃v,r=.returned (.tuple #[v,.int .i64 0])∧Pa S g wr w' v ev st2):=pput_any hti.pq (fun k hk=>(hti.sB k hk).2) hti.gd.ok hp
            have HN:Hid (∀w' x,Pa S g wr w' x ev st2→TJ V2 g (.slice p1 T1.length c1) (.slice p2 E'.length c2) x T1 E' ev st2 Us w6 w'):=fun w' x hx=>hti.put hx (put_keep hti.gd hp).1
            clear hti hpg hp hTT hEl hdr HJ htk hpg2 hlen hT1
            go_wp2_with fail
            refine HP.out.mono ?_
            rintro r w7 ⟨x,rfl,hx⟩
            have H7:Hid (TJ V2 g (.slice p1 T1.length c1) (.slice p2 E'.length c2) x T1 E' ev st2 Us w6 w7):=HN.out _ _ hx
            obtain ⟨px,cx,hxs,_⟩:=hx.re.shape
            subst hxs
            obtain ⟨S7,h7,_⟩:=H7.out.ex
            obtain ⟨b8,off8,e8,y0,y1,y2,y3,y4,y5⟩:=(HB.out w7 (.inr h7.kp)).cell6 ht
            cases e8
            have H8:Hid (∀o,TJ V2 g (.slice p1 T1.length c1) (.slice p2 E'.length c2) (.slice px ev.length cx) T1 E' ev st2 Us w6 (w7.alloc o)∧Rt V2.heap.size (w7.alloc o) (.slice p1 T1.length c1) T1∧V2.heap.size≤(w7.alloc o).heap.size):=fun o=>by
             have hb:Below w7.heap.size w7 (w7.alloc o):=(Below.refl _ _).alloc (Nat.le_refl _) _
             exact ⟨H7.out.below hb,h7.rt.below hb,Nat.le_trans h7.bel.size hb.size⟩
            clear hx h7 x0 x1 x2 x3 x4 x5 ht
            go_wp2_with (first|(at_builtin;refine app_tok (by rfl) _ _ (by rfl) V2.heap.size (.slice p1 T1.length c1) T1 ⟨t.k,t.t,t.a,t.l,t.c,t.f⟩ (by rfl) (H8.out _).2.1 w7.heap.size 1 (by rfl) (new_at _ _) HX.out.2.2.2 (H8.out _).2.2 ?_;intro v1' w8 h1 h2 h3 h4;have H9:Hid (TJ V2 g v1' (.slice p2 E'.length c2) (.slice px ev.length cx) (T1++[t]) E' ev st2 Us w6 w8):=(H8.out _).1.tok h1 (Kp.of_grown h3) h4;clear h1 h2 h3 h4;have H9r:Hid (Re w8 (.slice p2 E'.length c2) E'):=(H9.out.ex.elim fun _ h=>h.1.re))|(at_builtin;refine app_evs (by rfl) _ _ (by rfl) (.slice p2 E'.length c2) (.slice px ev.length cx) E' ev (by rfl) H9r.out (by rfl) H9.out.rx HX.out.2.2.1 ?_;intro v2' w9 h1 h2 h3;have H10:Hid (∃S,TI V2 g v1' v2' (T1++[t]) (E'++ev) st2 S Us w6 w9):=H9.out.evs h1 h2 h3;clear h1 h2 h3))
            obtain ⟨S10,h10⟩:=H10.out
            exact ⟨⟨j+1,by go_num,hjl,.inl ⟨rfl,rfl,S10,st2,E'++ev,T1++[t],HX.out.2.1,h10,HX.out.1⟩⟩,by simp [intOf] <;> omega⟩
          ·obtain rfl:j=N.length:=by omega
           have q3:¬((N.length:Int)<N.length):=by omega
           have hT2:T1=T0++N:=by rw [hT1,List.take_length]
           subst hT2
           rw [List.drop_length,List.nil_append] at hpg
           have HO:Hid ((fun v1' v2' V=>(e=0∧Gn V2 g gx v1' v2' s (cat (l.take (k+1))) TL E code a U w5 V)∨(e≠0∧e=eS∧Dne V2 g v1' v2' TL E code a U w5 V)) (.slice p1 (T0++N).length c1) (.slice p2 E'.length c2) wr):=HMd.out.fin _ _ _ _ _ _ hti hpg
           clear hti hpg hTT hEl HJ hT1n
           generalize (T0++N).length=n1 at *
           go_wp2_with fail
           exact ⟨⟨k+1,e,by go_num,rfl,by omega,.inl ⟨rfl,rfl,by
            rcases HO.out with ⟨h1,h2⟩|⟨h1,h2,h3⟩
            ·exact .inl ⟨h1,hlt,h2⟩
            ·exact .inr ⟨.inl h1,h2,h3⟩⟩⟩,by simp [intOf] <;> omega⟩
         ·have q5:(code == 0)=false:=by simpa using HJ.out.1
          have q6:¬(code=0):=HJ.out.1
          by_cases hjl:j<N.length
          ·have q3:(j:Int)<N.length:=by omega
           go_wp2_with fail
           exact ⟨⟨k+1,e,by go_num,rfl,by omega,.inr ⟨rfl,rfl,HJ.out⟩⟩,by simp [intOf] <;> omega⟩
          ·have q3:¬((j:Int)<N.length):=by omega
           go_wp2_with fail
           exact ⟨⟨k+1,e,by go_num,rfl,by omega,.inr ⟨rfl,rfl,HJ.out⟩⟩,by simp [intOf] <;> omega⟩
       ·obtain rfl:k=l.length:=by omega
        have q2:¬((l.length:Int)<l.length):=by omega
        have hcu:cat (l.take l.length)=s:=by rw [List.take_length];exact HC.out.1
        have HF:Hid (Calls Tryz.prog 10 #[.pointer (some ⟨gx,0,none⟩)] wr fun r w'=>∃(vl:Value) (A L C:Int) (T0 N R:List Tv) (E0:List Ev) (st:Pst) (Us:Nat→Prop),r=.returned (.tuple #[vl,.int .i64 eS,.agg #[.int .i64 A,.int .i64 L,.int .i64 C]])∧Md V2 g u11 u12 TL E code a vl T0 N R E0 st Us w' (fun v1' v2' V=>Dne V2 g v1' v2' TL E code a U w5 V)):=by
         have h0:=HGn.out
         rw [hcu] at h0
         have h1:=tclose_any h0 HKb.out hm1 HM.out.2.1.symm
         rw [HM.out.2.2] at h1
         exact h1
        subst hv1 hv2
        clear hcu hkp
        go_wp2_with fail
        refine HF.out.mono ?_
        rintro r w6 ⟨vl,A,L,C,T0,N,R,E0,st,Us,rfl,hM⟩
        clear HF HGn
        obtain ⟨Bl,hrl⟩:=hM.rl
        obtain ⟨pl,cl,hvl,hLl,_⟩:=Lt.row hrl
        subst hvl
        have HLn:Hid (∀V,Kp Us w6 V→Lt V pl N):=fun V hV=>by
         obtain ⟨pl',cl',e',h',hg',_⟩:=Lt.row hrl
         cases e'
         refine h'.kp hV (fun b hb=>hM.nl b.block ?_)
         rcases hg' with rfl|⟨q,rfl,_⟩
         ·cases hb
         ·cases hb;rfl
        have HMd:Hid (Md V2 g (.slice p1 n1 c1) (.slice p2 n2 c2) TL E code a (.slice pl N.length cl) T0 N R E0 st Us w6 (fun v1' v2' V=>Dne V2 g v1' v2' TL E code a U w5 V)):=hM
        have hNl:(N.length:Int)≤1048576:=by
         have h1:=congrArg List.length hM.pg.tl
         simp only [List.length_append] at h1
         omega
        clear hM hrl hLl
        go_wp2_with fail
        go_loopw [11,12,13,14,19,20] (fun v1 v2 wv av kv _ wr=>∃j:Nat,kv=.int .i64 j∧j≤N.length∧((wv=.int .i64 0∧av=.int .i64 (-1)∧Hid (∃S st' E' T1,T1=T0++N.take j∧TI V2 g v1 v2 T1 E' st' S Us w6 wr∧Pg TL E code a T1 (N.drop j++R) E' st'))∨(wv=.int .i64 code∧av=.int .i64 a∧Hid (Bz V2 v1 TL code a wr)))) (fun _ _ _ _ kv _ _=>N.length-(intOf kv).toNat)
        case atStart=>
         obtain ⟨S,hti⟩:=HMd.out.ti
         exact ⟨0,rfl,Nat.zero_le _,.inl ⟨rfl,rfl,S,st,E0,T0,by simp,hti,by simpa using HMd.out.pg⟩⟩
        case round=>
         obtain ⟨j,rfl,hj,hd⟩:=hrel
         have q4:(0:Int)≤j:=by omega
         rcases hd with ⟨rfl,rfl,HJ⟩|⟨rfl,rfl,HJ⟩
         ·obtain ⟨S,st',E',T1,hT1,hti,hpg⟩:=HJ.out
          obtain ⟨p1,c1,hv1,_⟩:=hti.rt.shape
          obtain ⟨p2,c2,hv2,_⟩:=hti.re.shape
          subst hv1 hv2
          have hTT:=congrArg List.length hpg.tl
          rw [List.length_append] at hTT
          have hT1n:(T1.length:Int)≤1048576:=by omega
          have hEl:=hpg.len
          by_cases hjl:j<N.length
          ·have q3:(j:Int)<N.length:=by omega
           obtain ⟨t,ht⟩:∃t,N[j]?=some t:=⟨_,List.getElem?_eq_getElem hjl⟩
           have hdr:N.drop j++R=t :: (N.drop (j+1)++R):=by
            obtain ⟨a1,a2⟩:=List.getElem?_eq_some_iff.1 ht
            rw [List.drop_eq_getElem_cons a1,a2]
            rfl
           have htk:T1++[t]=T0++N.take (j+1):=by rw [hT1,List.take_add_one,ht,List.append_assoc];rfl
           rw [hdr] at hpg
           obtain ⟨b9,off,rfl,x0,x1,x2,x3,x4,x5⟩:=(HLn.out wr hti.kp).cell6 ht
           have HB:Hid (∀W,Below wr.heap.size wr W∨Kp Us w6 W→Lt W (some ⟨b9,off,none⟩) N):=fun W hW=>by
            rcases hW with hW|hW
            ·exact (HLn.out wr hti.kp).below hW
            ·exact HLn.out W hW
           rcases hpg.step hti.gd with ⟨ev,st2,hp,hc,ha⟩|⟨ev,st2,hp,hpg2,hlen⟩
           ·have hel:ev.length≤30000:=(put_keep hti.gd hp).2.1
            have hTa:T1++[t]=TL.take (a+1):=by
             rw [hpg.tl,ha,List.take_append,List.take_of_length_le (by omega)]
             simp
            have HX:Hid (a=T1.length∧code≠0∧T1++[t]=TL.take (a+1)∧a<TL.length∧E'.length+ev.length≤1000000000000∧T1.length≤1000000000):=⟨ha,hc,hTa,by rw [hpg.tl,ha];simp,by omega,by omega⟩
            have HP:Hid (Calls Tryz.prog 11 #[pt g,.agg #[.int .u8 t.k,.string t.t,.int .i64 t.a,.int .i64 t.l,.int .i64 t.c,.int .i64 t.f]] wr fun r w'=>∃v,r=.returned (.tuple #[v,.int .i64 code])∧Pa S g wr w' v ev st2):=pput_any hti.pq (fun k hk=>(hti.sB k hk).2) hti.gd.ok hp
            have HN:Hid (∀w' x,Pa S g wr w' x ev st2→TJ V2 g (.slice p1 T1.length c1) (.slice p2 E'.length c2) x T1 E' ev st2 Us w6 w'):=fun w' x hx=>hti.put hx (put_keep hti.gd hp).1
            have q5:(code != 0)=true:=by simpa using hc
            have q6:¬(code=0):=hc
            clear hti hpg hp hc ha hTT hEl hel hTa hdr HJ htk hT1
            go_wp2_with fail
            refine HP.out.mono ?_
            rintro r w7 ⟨x,rfl,hx⟩
            have H7:Hid (TJ V2 g (.slice p1 T1.length c1) (.slice p2 E'.length c2) x T1 E' ev st2 Us w6 w7):=HN.out _ _ hx
            obtain ⟨px,cx,hxs,_⟩:=hx.re.shape
            subst hxs
            obtain ⟨S7,h7,_⟩:=H7.out.ex
            obtain ⟨b8,off8,e8,y0,y1,y2,y3,y4,y5⟩:=(HB.out w7 (.inr h7.kp)).cell6 ht
            cases e8
            have H8:Hid (∀o,TJ V2 g (.slice p1 T1.length c1) (.slice p2 E'.length c2) (.slice px ev.length cx) T1 E' ev st2 Us w6 (w7.alloc o)∧Rt V2.heap.size (w7.alloc o) (.slice p1 T1.length c1) T1∧V2.heap.size≤(w7.alloc o).heap.size):=fun o=>by
             have hb:Below w7.heap.size w7 (w7.alloc o):=(Below.refl _ _).alloc (Nat.le_refl _) _
             exact ⟨H7.out.below hb,h7.rt.below hb,Nat.le_trans h7.bel.size hb.size⟩
            clear hx h7 x0 x1 x2 x3 x4 x5 ht
            go_wp2_with (first|(at_builtin;refine app_tok (by rfl) _ _ (by rfl) V2.heap.size (.slice p1 T1.length c1) T1 ⟨t.k,t.t,t.a,t.l,t.c,t.f⟩ (by rfl) (H8.out _).2.1 w7.heap.size 1 (by rfl) (new_at _ _) HX.out.2.2.2.2.2 (H8.out _).2.2 ?_;intro v1' w8 h1 h2 h3 h4;have H9:Hid (TJ V2 g v1' (.slice p2 E'.length c2) (.slice px ev.length cx) (T1++[t]) E' ev st2 Us w6 w8):=(H8.out _).1.tok h1 (Kp.of_grown h3) h4;clear h1 h2 h3 h4;have H9r:Hid (Re w8 (.slice p2 E'.length c2) E'):=(H9.out.ex.elim fun _ h=>h.1.re))|(at_builtin;refine app_evs (by rfl) _ _ (by rfl) (.slice p2 E'.length c2) (.slice px ev.length cx) E' ev (by rfl) H9r.out (by rfl) H9.out.rx HX.out.2.2.2.2.1 ?_;intro v2' w9 h1 h2 h3;have H10:Hid (∃S,TI V2 g v1' v2' (T1++[t]) (E'++ev) st2 S Us w6 w9):=H9.out.evs h1 h2 h3;clear h1 h2 h3))
            obtain ⟨S10,h10⟩:=H10.out
            refine ⟨⟨j+1,by go_num,hjl,.inr ⟨rfl,by rw [HX.out.1],HX.out.2.1,HX.out.2.2.2.1,?_,h10.bel⟩⟩,by simp [intOf] <;> omega⟩
            rw [←HX.out.2.2.1]
            exact h10.rt
           ·have HX:Hid (Pg TL E code a (T1++[t]) (N.drop (j+1)++R) (E'++ev) st2∧T1++[t]=T0++N.take (j+1)∧E'.length+ev.length≤1000000000000∧T1.length≤1000000000):=⟨hpg2,htk,by omega,by omega⟩
            have HP:Hid (Calls Tryz.prog 11 #[pt g,.agg #[.int .u8 t.k,.string t.t,.int .i64 t.a,.int .i64 t.l,.int .i64 t.c,.int .i64 t.f]] wr fun r w'=>∃v,r=.returned (.tuple #[v,.int .i64 0])∧Pa S g wr w' v ev st2):=pput_any hti.pq (fun k hk=>(hti.sB k hk).2) hti.gd.ok hp
            have HN:Hid (∀w' x,Pa S g wr w' x ev st2→TJ V2 g (.slice p1 T1.length c1) (.slice p2 E'.length c2) x T1 E' ev st2 Us w6 w'):=fun w' x hx=>hti.put hx (put_keep hti.gd hp).1
            clear hti hpg hp hTT hEl hdr HJ htk hpg2 hlen hT1
            go_wp2_with fail
            refine HP.out.mono ?_
            rintro r w7 ⟨x,rfl,hx⟩
            have H7:Hid (TJ V2 g (.slice p1 T1.length c1) (.slice p2 E'.length c2) x T1 E' ev st2 Us w6 w7):=HN.out _ _ hx
            obtain ⟨px,cx,hxs,_⟩:=hx.re.shape
            subst hxs
            obtain ⟨S7,h7,_⟩:=H7.out.ex
            obtain ⟨b8,off8,e8,y0,y1,y2,y3,y4,y5⟩:=(HB.out w7 (.inr h7.kp)).cell6 ht
            cases e8
            have H8:Hid (∀o,TJ V2 g (.slice p1 T1.length c1) (.slice p2 E'.length c2) (.slice px ev.length cx) T1 E' ev st2 Us w6 (w7.alloc o)∧Rt V2.heap.size (w7.alloc o) (.slice p1 T1.length c1) T1∧V2.heap.size≤(w7.alloc o).heap.size):=fun o=>by
             have hb:Below w7.heap.size w7 (w7.alloc o):=(Below.refl _ _).alloc (Nat.le_refl _) _
             exact ⟨H7.out.below hb,h7.rt.below hb,Nat.le_trans h7.bel.size hb.size⟩
            clear hx h7 x0 x1 x2 x3 x4 x5 ht
            go_wp2_with (first|(at_builtin;refine app_tok (by rfl) _ _ (by rfl) V2.heap.size (.slice p1 T1.length c1) T1 ⟨t.k,t.t,t.a,t.l,t.c,t.f⟩ (by rfl) (H8.out _).2.1 w7.heap.size 1 (by rfl) (new_at _ _) HX.out.2.2.2 (H8.out _).2.2 ?_;intro v1' w8 h1 h2 h3 h4;have H9:Hid (TJ V2 g v1' (.slice p2 E'.length c2) (.slice px ev.length cx) (T1++[t]) E' ev st2 Us w6 w8):=(H8.out _).1.tok h1 (Kp.of_grown h3) h4;clear h1 h2 h3 h4;have H9r:Hid (Re w8 (.slice p2 E'.length c2) E'):=(H9.out.ex.elim fun _ h=>h.1.re))|(at_builtin;refine app_evs (by rfl) _ _ (by rfl) (.slice p2 E'.length c2) (.slice px ev.length cx) E' ev (by rfl) H9r.out (by rfl) H9.out.rx HX.out.2.2.1 ?_;intro v2' w9 h1 h2 h3;have H10:Hid (∃S,TI V2 g v1' v2' (T1++[t]) (E'++ev) st2 S Us w6 w9):=H9.out.evs h1 h2 h3;clear h1 h2 h3))
            obtain ⟨S10,h10⟩:=H10.out
            exact ⟨⟨j+1,by go_num,hjl,.inl ⟨rfl,rfl,S10,st2,E'++ev,T1++[t],HX.out.2.1,h10,HX.out.1⟩⟩,by simp [intOf] <;> omega⟩
          ·obtain rfl:j=N.length:=by omega
           have q3:¬((N.length:Int)<N.length):=by omega
           have hT2:T1=T0++N:=by rw [hT1,List.take_length]
           subst hT2
           rw [List.drop_length,List.nil_append] at hpg
           have HO:Hid ((fun v1' v2' V=>Dne V2 g v1' v2' TL E code a U w5 V) (.slice p1 (T0++N).length c1) (.slice p2 E'.length c2) wr):=HMd.out.fin _ _ _ _ _ _ hti hpg
           clear hti hpg hTT hEl HJ hT1n
           generalize (T0++N).length=n1 at *
           go_wp2_with fail
           exact ⟨⟨l.length+1,eS,by go_num,rfl,by omega,.inl ⟨rfl,rfl,.inr ⟨.inr (by omega),rfl,HO.out⟩⟩⟩,by simp [intOf] <;> omega⟩
         ·have q5:(code == 0)=false:=by simpa using HJ.out.1
          have q6:¬(code=0):=HJ.out.1
          by_cases hjl:j<N.length
          ·have q3:(j:Int)<N.length:=by omega
           go_wp2_with fail
           exact ⟨⟨l.length+1,eS,by go_num,rfl,by omega,.inr ⟨rfl,rfl,HJ.out⟩⟩,by simp [intOf] <;> omega⟩
          ·have q3:¬((j:Int)<N.length):=by omega
           go_wp2_with fail
           exact ⟨⟨l.length+1,eS,by go_num,rfl,by omega,.inr ⟨rfl,rfl,HJ.out⟩⟩,by simp [intOf] <;> omega⟩
      ·have HDn:Hid (Dne V2 g u11 u12 TL E code a U w5 wr):=hdn
       replace hbe:=hbe.symm
       subst hbe
       clear HG hdn
       by_cases hkl:k≤l.length
       ·have q1:(k:Int)≤l.length:=by omega
        have hb0:eS≠0:=by omega
        have q2:((eS:Int) == 0)=false:=by simp;omega
        have q3:¬((eS:Int)=0):=by omega
        go_wp2_with fail
        go_meet
        case rel=>
         obtain ⟨S,st,E0,h1,h2⟩:=HDn.out
         exact ⟨0,-1,eS,TL.length,rfl,rfl,rfl,Nat.le_refl _,by rw [List.take_length];exact h1.rt,h1.bel,.inl ⟨rfl,rfl,rfl,S,st,E0,h1,h2⟩⟩
       ·have q1:¬((k:Int)≤l.length):=by omega
        go_wp2_with fail
        go_meet
        case rel=>
         obtain ⟨S,st,E0,h1,h2⟩:=HDn.out
         exact ⟨0,-1,eS,TL.length,rfl,rfl,rfl,Nat.le_refl _,by rw [List.take_length];exact h1.rt,h1.bel,.inl ⟨rfl,rfl,rfl,S,st,E0,h1,h2⟩⟩
     ·have q5:(code == 0)=false:=by simpa using HG.out.1
      have q6:¬(code=0):=HG.out.1
      by_cases hkl:k≤l.length
      ·have q1:(k:Int)≤l.length:=by omega
       by_cases hb0:b=0
       ·subst hb0
        go_wp2_with fail
        go_meet
        case rel=>exact ⟨code,a,(0:Nat),a+1,rfl,rfl,rfl,HG.out.2.1,HG.out.2.2.1,HG.out.2.2.2,.inr ⟨rfl,HG.out.1,rfl,rfl⟩⟩
       ·have q2:((b:Int) == 0)=false:=by simp;omega
        have q3:¬((b:Int)=0):=by omega
        go_wp2_with fail
        go_meet
        case rel=>exact ⟨code,a,b,a+1,rfl,rfl,rfl,HG.out.2.1,HG.out.2.2.1,HG.out.2.2.2,.inr ⟨rfl,HG.out.1,rfl,rfl⟩⟩
      ·have q1:¬((k:Int)≤l.length):=by omega
       go_wp2_with fail
       go_meet
       case rel=>exact ⟨code,a,b,a+1,rfl,rfl,rfl,HG.out.2.1,HG.out.2.2.1,HG.out.2.2.2,.inr ⟨rfl,HG.out.1,rfl,rfl⟩⟩
   case rest=>
    clear H5 HS HC HKb hln
    obtain ⟨c,x,b,m,rfl,rfl,rfl,hm,HR⟩:=hcut
    obtain ⟨p1,c1,hv1,hl1,_⟩:=Lt.row HR.out.1
    have hml:(TL.take m).length=m:=by rw [List.length_take];omega
    rw [hml] at hv1
    subst hv1
    have HL1:Hid (∀V,Below wc.heap.size wc V→Lt V p1 (TL.take m)∧Lt V pA TL∧Below w.heap.size w V):=fun V hb=>by
     have h1:=HR.out.2.1.trans (hb.mono HR.out.2.1.size)
     exact ⟨hl1.below hb,(HV.out V h1).2,(HV.out V h1).1⟩
    have hmn:(m:Int)≤TL.length:=by omega
    clear hl1 hml
    go_wp2_with fail
    go_loopw [21] (fun iv wr=>∃j:Nat,j≤m∧iv=.int .i64 j∧Hid (Below wc.heap.size wc wr)) (fun iv _=>m-(intOf iv).toNat)
    case atStart=>exact ⟨0,Nat.zero_le _,rfl,Below.refl _ _⟩
    case round=>
     obtain ⟨j,hj,rfl,HJ⟩:=hrel
     by_cases hjl:j<m
     ·have y1:(j:Int)<m:=by omega
      have y2:(0:Int)≤j:=by omega
      have y3:(j:Int)<TL.length:=by omega
      have y4:¬((TL.length:Int)≤j):=by omega
      have y5:decide ((TL.length:Int)≤j)=false:=by simp;omega
      have y6:decide (TL.length≤j)=false:=by simp;omega
      have y7:¬(TL.length≤j):=by omega
      obtain ⟨t,ht⟩:∃t,TL[j]?=some t:=⟨_,List.getElem?_eq_getElem (by omega)⟩
      have ht1:(TL.take m)[j]?=some t:=by rw [List.getElem?_take,if_pos hjl];exact ht
      obtain ⟨b1,o1,rfl,z0,z1,z2,z3,z4,z5⟩:=(HL1.out _ HJ.out).1.cell6 ht1
      obtain ⟨b2,o2,rfl,d0,d1,d2,d3,d4,d5⟩:=(HL1.out _ HJ.out).2.1.cell6 ht
      have cl:=World.block_lt_of_cell? _ _ z0
      have dl:=World.block_lt_of_cell? _ _ d0
      clear ht ht1
      go_wp2_with fail
      go_quiet (fail)
      go_wp2_with fail
      exact ⟨⟨j+1,hjl,by go_num,below_dn HJ.out _⟩,by simp [intOf];omega⟩
     ·obtain rfl:j=m:=by omega
      have y1:¬((j:Int)<j):=by omega
      have HP:Hid (Calls Tryz.prog 12 #[.slice pA TL.length cA] wr (Prg wr E code a)):=prg_any (HL1.out _ HJ.out).2.1 (by omega) HM.out.1
      have HW:Hid (Below w.heap.size w wr):=(HL1.out _ HJ.out).2.2
      rcases HR.out.2.2 with ⟨hc0,hb0,hm0,hdn⟩|⟨hc0,hcn,hx0,hm0⟩
      ·subst hc0 hb0
       have HDn:Hid (Dne V2 g (.slice p1 j c1) u12 TL E code a U w5 wc):=hdn
       have HJ2:Hid (Below wc.heap.size wc wr):=HJ.out
       have hjm:j=TL.length:=hm0
       subst hjm
       clear hdn HR HL1 hmn hm hj hjl hm0 HJ
       obtain ⟨S,st,E0,hti0,hpg⟩:=HDn.out
       obtain ⟨E1,k1,hR,hE,hk⟩:=hpg.ex
       obtain ⟨hc,hk1⟩:=hR.end
       have hal:a=TL.length:=by omega
       have htr:=hti0.below HJ2.out
       have hus:=htr.us
       obtain ⟨p2,c2,hv2,_⟩:=hti0.re.shape
       subst hv2
       have hEl0:=hpg.len
       have h1l:E1.length≤1:=by cases hc <;> simp
       obtain ⟨X,hX⟩:∃X,Us S (.slice p1 TL.length c1) (.slice p2 E0.length c2)=X:=⟨_,rfl⟩
       rw [hX] at hus
       have HKl:Hid (E0.length+E1.length≤1000000000000):=by
        show _≤_
        omega
       have HCl:Hid (∀V,Below wr.heap.size wr V→TI V2 g (.slice p1 TL.length c1) (.slice p2 E0.length c2) TL E0 st S X V V∧Calls Tryz.prog 13 #[pt g] V fun r w'=>∃v,r=.returned (.tuple #[v,.int .i64 code])∧TJ V2 g (.slice p1 TL.length c1) (.slice p2 E0.length c2) v TL E0 E1 .shut X V w'):=fun V hb=>by
        have h1:=(htr.below hb).base
        rw [hX] at h1
        refine ⟨h1,(close_any h1.pq (fun k hk=>(h1.sB k hk).2) h1.gd.ok hc).mono ?_⟩
        rintro r w' ⟨v,rfl,hx⟩
        exact ⟨v,rfl,h1.put hx trivial⟩
       have HEE:Hid (E=E0++E1):=hE
       have HN:Hid (∀(w4 V4:World) (n:Nd) (p:Option Addr) (cv:Nat),Below wr.heap.size wr w4→TN (fun j=>wr.heap.size≤j) w4 n (.slice p n.c.length cv)→w4.alloc (NdB n.k n.d (.slice p n.c.length cv))=V4→Below wr.heap.size wr V4∧∀V,Kp X V4 V→V.heap[w4.heap.size]?=some (NdB n.k n.d (.slice p n.c.length cv))∧Nv V (ndv n.k n.d (.slice p n.c.length cv)) n):=fun w4 V4 n p cv hb ht e=>by
        have hz:=hb.size
        have hn:Below w4.heap.size w4 V4:=by rw [←e];exact (Below.refl _ _).alloc (Nat.le_refl _) _
        refine ⟨hb.trans (hn.mono hb.size),fun V hV=>⟨hV.blk (by rw [←e];exact new_at _ _) (fun h=>by have:=hus _ h;omega),TN.see n _ (TN.kp hV (fun k hO h=>by have:=hus k h;omega) n _ (TN.kp (Kp.of_below (S:=fun _=>False) hn) (fun _ _ h=>h) n _ ht))⟩⟩
       clear hti0 hpg hR hE hk hk1 htr hus hEl0 hX HDn HJ2 hc
       by_cases hcd:code=0
       ·subst hcd
        have hEz:(E0++E1).length≤25000000:=by
         have:=alr_len HM.out.1
         rw [HEE.out] at this
         omega
        go_wp2_with fail
        refine HP.out.mono ?_
        rintro e w4 ⟨hb4,n,p,cv,rfl,ht,hn0,hn1⟩
        have q8:(if (0:Int)=0 then 0 else a)=0:=rfl
        rw [q8]
        obtain ⟨V4,eV4⟩:∃V4,w4.alloc (NdB n.k n.d (.slice p n.c.length cv))=V4:=⟨_,rfl⟩
        have H4:Hid (Below wr.heap.size wr V4∧∀V,Kp X V4 V→V.heap[w4.heap.size]?=some (NdB n.k n.d (.slice p n.c.length cv))∧Nv V (ndv n.k n.d (.slice p n.c.length cv)) n):=HN.out w4 V4 n p cv hb4 ht eV4
        have hbl:=hn0 rfl
        obtain ⟨u1,u2⟩:=evs_build hbl
        have hev:evs n=E0++E1:=by rw [u1,(alr_toks HM.out.1).2];exact HEE.out
        have HBo:Hid (bo (E0++E1)=(n,0)∧nsz n≤100000000):=by
         rw [←HEE.out]
         refine ⟨bo_some hbl,?_⟩
         have h1:=bld_nsz _ _ _ hbl
         have h2:=congrArg List.length HEE.out
         simp only [szS] at h1
         omega
        have HCv:=(HCl.out V4 H4.out.1).2
        have HC4:Hid (Calls Tryz.prog 13 #[pt g] V4 fun r w'=>∃v,r=.returned (.tuple #[v,.int .i64 0])∧TJ V2 g (.slice p1 TL.length c1) (.slice p2 E0.length c2) v TL E0 E1 .shut X V4 w'):=HCv
        dsimp only [NdB] at eV4
        clear hb4 ht hn0 hn1 HP u1 u2 q8 hbl HCv HCl HN HM
        go_wp2_with fail
        try rw [eV4]
        clear eV4
        refine HC4.out.mono ?_
        rintro r w6 ⟨x,rfl,hx⟩
        obtain ⟨px,cx,hxs,_⟩:=hx.rx.shape
        subst hxs
        have H6:Hid (TJ V2 g (.slice p1 TL.length c1) (.slice p2 E0.length c2) (.slice px E1.length cx) TL E0 E1 .shut X V4 w6):=hx
        have H6r:Hid (Re w6 (.slice p2 E0.length c2) E0):=(hx.ex.elim fun _ h=>h.1.re)
        clear hx HC4
        go_wp2_with (at_builtin;refine app_evs (by rfl) _ _ (by rfl) (.slice p2 E0.length c2) (.slice px E1.length cx) E0 E1 (by rfl) H6r.out (by rfl) H6.out.rx HKl.out ?_;intro v3 w7 h3 k3 n3;have H7:Hid (∃S,TI V2 g (.slice p1 TL.length c1) v3 TL (E0++E1) .shut S X V4 w7):=H6.out.evs h3 k3 n3;have H7k:Hid (Kp X V4 w7):=(H7.out.elim fun _ h=>h.kp);clear h3 k3 n3;obtain ⟨⟨j0,j1,j2,j3,j4,j5,j6,j7⟩,jl⟩:=nd_cells (H4.out.2 w7 H7k.out).1)
        obtain ⟨F,hF⟩:∃F,E0++E1=F:=⟨_,rfl⟩
        rw [hF] at H7 hEz HBo hev
        obtain ⟨S7,hI7⟩:=H7.out
        have H7n:Hid (∀V,Below w7.heap.size w7 V→V.heap[w4.heap.size]?=some (NdB n.k n.d (.slice p n.c.length cv))∧Nv V (ndv n.k n.d (.slice p n.c.length cv)) n∧Below w.heap.size w V):=fun V hb=>by
         have h1:=H4.out.2 w7 H7k.out
         have h2:=(HV.out w7 hI7.bel).1
         exact ⟨blk_below h1.1 hb,h1.2.below hb,h2.trans (hb.mono h2.size)⟩
        have HE:Hid (Calls Tryz.prog 14 #[ndv n.k n.d (.slice p n.c.length cv)] w7 fun r w'=>∃v',r=.returned v'∧BI w7 v' F w'):=by
         have:=events_any n _ w7 (H7n.out w7 (Below.refl _ _)).2.1 (by rw [hev];omega)
         rw [hev] at this
         exact this
        refine HE.out.mono ?_
        rintro r w8 ⟨v4,rfl,hB⟩
        obtain ⟨p8,c8,e8,hle8,_,_,_⟩:=Le.row hB.re
        obtain ⟨p7,c7,e7,hle7,_,hc7,hc7m⟩:=Le.row (hI7.re.below hB.bel)
        have HLe:Hid (∀V,Below w8.heap.size w8 V→Le V p7 F∧Le V p8 F∧V.heap[w4.heap.size]?=some (NdB n.k n.d (.slice p n.c.length cv))∧Nv V (ndv n.k n.d (.slice p n.c.length cv)) n∧Below w.heap.size w V):=fun V hb=>⟨hle7.below hb,hle8.below hb,H7n.out V (hB.bel.trans (hb.mono hB.bel.size))⟩
        have HBd:Hid (∀V,Le V p7 F→Calls Tryz.prog 15 #[.slice p7 F.length c7] V fun e w'=>∃q cq,e=.returned (.tuple #[ndv n.k n.d (.slice q n.c.length cq),.int .i64 0])∧Nv w' (ndv n.k n.d (.slice q n.c.length cq)) n∧Below V.heap.size V w'):=fun V hL=>by
         refine (build_any F V p7 c7 hL hc7 hc7m (by omega)).mono ?_
         rintro e w' ⟨sv,he,ht,hb⟩
         rw [HBo.out.1] at he ht
         obtain ⟨q,cq,rfl,_⟩:=tn_shape ht
         exact ⟨q,cq,he,TN.see n _ ht,hb⟩
        have HSa:Hid (∀V va vb,Nv V va n→Nv V vb n→Calls Tryz.prog 16 #[va,vb] V fun r w'=>r=.returned (.bool true)∧Below V.heap.size V w'):=fun V va vb h1 h2=>by
         have:=same_any n n va vb V h1 h2 HBo.out.2 HBo.out.2
         rw [same_refl] at this
         exact this
        subst e7 e8
        have hFl:(F.length:Int)≤1000000000:=by omega
        clear hB hle7 hle8 hI7 H7 H7k HE H6 H6r H4 j0 j1 j2 j3 j4 j5 j6 j7 jl hev hF hEz HBo H7n HV HW hc7 hc7m HKl HEE
        go_wp2_with fail
        go_loopw [28] (fun iv wr=>∃j:Nat,j≤F.length∧iv=.int .i64 j∧Hid (Below w8.heap.size w8 wr)) (fun iv _=>F.length-(intOf iv).toNat)
        case atStart=>exact ⟨0,Nat.zero_le _,rfl,Below.refl _ _⟩
        case round=>
         obtain ⟨j,hj,rfl,HJ⟩:=hrel
         by_cases hlt:j<F.length
         ·have y1:(j:Int)<F.length:=by omega
          have y2:(0:Int)≤j:=by omega
          obtain ⟨e,he⟩:∃e,F[j]?=some e:=⟨_,List.getElem?_eq_getElem hlt⟩
          obtain ⟨b1,o1,rfl,c0,c1,c2,c3,c4,c5,c6,c7'⟩:=(HLe.out _ HJ.out).1 j e he
          obtain ⟨b2,o2,rfl,d0,d1,d2,d3,d4,d5,d6,d7⟩:=(HLe.out _ HJ.out).2.1 j e he
          have cl:=World.block_lt_of_cell? _ _ c0
          have dl:=World.block_lt_of_cell? _ _ d0
          clear he
          go_wp2_with fail
          go_quiet (fail)
          go_wp2_with fail
          exact ⟨⟨j+1,hlt,by go_num,below_dn HJ.out _⟩,by simp [intOf];omega⟩
         ·obtain rfl:j=F.length:=by omega
          have y1:¬((F.length:Int)<F.length):=by omega
          have H9:=HLe.out _ HJ.out
          have HB9:=HBd.out wr H9.1
          have HC9:Hid (Calls Tryz.prog 15 #[.slice p7 F.length c7] wr fun e w'=>∃q cq,e=.returned (.tuple #[ndv n.k n.d (.slice q n.c.length cq),.int .i64 0])∧Nv w' (ndv n.k n.d (.slice q n.c.length cq)) n∧Below wr.heap.size wr w'):=HB9
          have HD9:Hid (wr.heap[w4.heap.size]?=some (NdB n.k n.d (.slice p n.c.length cv))∧Nv wr (ndv n.k n.d (.slice p n.c.length cv)) n∧Below w.heap.size w wr):=H9.2.2
          clear H9 HB9 HBd HLe HJ
          go_wp2_with fail
          refine HC9.out.mono ?_
          rintro r w9 ⟨q,cq,rfl,hn9,hb9⟩
          obtain ⟨V9,eV9⟩:∃V9,w9.alloc (NdB n.k n.d (.slice q n.c.length cq))=V9:=⟨_,rfl⟩
          have hbV:Below w9.heap.size w9 V9:=by rw [←eV9];exact (Below.refl _ _).alloc (Nat.le_refl _) _
          have hbW:Below wr.heap.size wr V9:=hb9.trans (hbV.mono hb9.size)
          have HX9:Hid (Nv V9 (ndv n.k n.d (.slice q n.c.length cq)) n∧Nv V9 (ndv n.k n.d (.slice p n.c.length cv)) n∧Below w.heap.size w V9):=⟨hn9.below hbV,HD9.out.2.1.below hbW,HD9.out.2.2.trans (hbW.mono HD9.out.2.2.size)⟩
          obtain ⟨⟨j0,j1,j2,j3,j4,j5,j6,j7⟩,jl⟩:=nd_cells (blk_below HD9.out.1 hbW)
          have hnw:V9.heap[w9.heap.size]?=some (NdB n.k n.d (.slice q n.c.length cq)):=by rw [←eV9];exact new_at _ _
          obtain ⟨⟨i0,i1,i2,i3,i4,i5,i6,i7⟩,il⟩:=nd_cells hnw
          dsimp only [NdB] at eV9
          clear hn9 hb9 hbV hbW hnw HC9 HD9
          go_wp2_with fail
          refine (HSa.out V9 _ _ HX9.out.1 HX9.out.2.1).mono ?_
          rintro r w10 ⟨rfl,hb10⟩
          have H10:Hid (Below w.heap.size w w10):=HX9.out.2.2.trans (hb10.mono HX9.out.2.2.size)
          clear hb10 HX9 HSa
          go_wp2_with fail
          go_ret
          exact ⟨rfl,H10.out⟩
       ·have q7:code=121:=(alr_at good_new ini_new HM.out.1 hcd).1.2 hal
        subst q7
        go_wp2_with fail
        refine HP.out.mono ?_
        rintro e w4 ⟨hb4,n,p,cv,rfl,ht,hn0,hn1⟩
        have q8:(if (121:Int)=0 then 0 else a)=TL.length:=by rw [if_neg (by decide)];exact hal
        rw [q8]
        obtain ⟨V4,eV4⟩:∃V4,w4.alloc (NdB n.k n.d (.slice p n.c.length cv))=V4:=⟨_,rfl⟩
        have H4:=HN.out w4 V4 n p cv hb4 ht eV4
        have HCv:=(HCl.out V4 H4.1).2
        have HC4:Hid (Calls Tryz.prog 13 #[pt g] V4 fun r w'=>∃v,r=.returned (.tuple #[v,.int .i64 121])∧TJ V2 g (.slice p1 TL.length c1) (.slice p2 E0.length c2) v TL E0 E1 .shut X V4 w'):=HCv
        have HV4:Hid (Below w.heap.size w V4):=HW.out.trans (H4.1.mono HW.out.size)
        dsimp only [NdB] at eV4
        clear hb4 ht hn0 hn1 HP q8 HCv HCl HN HM H4 hal
        go_wp2_with fail
        try rw [eV4]
        clear eV4
        refine HC4.out.mono ?_
        rintro r w6 ⟨x,rfl,hx⟩
        obtain ⟨px,cx,hxs,_⟩:=hx.rx.shape
        subst hxs
        have H6:Hid (Below w.heap.size w w6):=by
         obtain ⟨S6,h6,_⟩:=hx.ex
         exact (HV.out w6 h6.bel).1
        clear hx HC4
        go_wp2_with fail
        go_ret
        exact ⟨by simp,H6.out⟩
      ·subst hc0 hx0
       have q5:(c != 0)=true:=by simpa using hcn
       have q6:¬(c=0):=hcn
       have q7:(if c=0 then 0 else a)=a:=if_neg hcn
       clear HR HL1 hmn hm hj hjl hm0 HJ
       go_wp2_with fail
       refine HP.out.mono ?_
       rintro e w4 ⟨hb4,n,p,cv,rfl,ht,hn0,hn1⟩
       rw [q7]
       obtain ⟨V4,eV4⟩:∃V4,w4.alloc (NdB n.k n.d (.slice p n.c.length cv))=V4:=⟨_,rfl⟩
       have H4:Hid (Below w.heap.size w V4):=by
        have h1:=HW.out.trans (hb4.mono HW.out.size)
        rw [←eV4]
        exact h1.alloc h1.size _
       dsimp only [NdB] at eV4
       clear hb4 ht hn0 hn1 HP HW q7
       go_wp2_with fail
       go_ret
       exact ⟨rfl,H4.out⟩
  ·have q2:(cs.length:Int)>1048576:=by omega
   go_wp2_with fail
   go_ret
   exact ⟨rfl,H1.out⟩
 ·have q1:(s.size:Int)>1048576:=by omega
  go_wp2_with fail
  go_ret
  exact ⟨rfl,H1.out⟩
end Go.Proofs.YtkigadnkclkopaaGreatDoor
