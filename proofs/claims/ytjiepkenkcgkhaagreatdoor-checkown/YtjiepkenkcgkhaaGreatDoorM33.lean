import Derived.Lib.Overlaps
import Derived.Lib.AppendZerosOnto
import Derived.Laws.Externs
import Derived.Lib.SliceRun
import Derived.Test.YtjiepkenkcgkhaaGreatDoorM32
set_option linter.unusedVariables false
set_option linter.unusedSimpArgs false
set_option maxHeartbeats 4000000
set_option maxRecDepth 100000
namespace Go.Proofs.YtjiepkenkcgkhaaGreatDoor
open Go.RowKit
open Lw (Dc bE rt cy dh eZ ij bU aW cg)
variable {W w:World}{l:List Dc}{b cap i g:Nat}{st:Sy}{α:Type}{v:Value}{P:Program}{o:Oper}{a:Act}
theorem Kp.setRow (w:World) (g:Nat) (cs:Array Value):Kp (fun j=>j=g) w (w.setRow g cs):=
 ⟨rfl,rfl,rfl,by show _<=(w.setRow g cs).heap.size;simp [World.setRow],fun j hj hS=>setRow_other w g j cs hS⟩
theorem iH:∃i0,Tryz.prog.info? 71=some i0/\i0.zero=some (.agg #[.int .u8 0,.string ⟨#[]⟩,.int .i64 0,.int .i64 0,.bool false])/\i0.size=5/\i0.bytes=48:=Sa Tryz.info71
theorem kl:(Tryz.prog.info? 71).map (·.size)=some 5:=by
 obtain ⟨i0,hi,_,h1,_⟩:=iH;rw [hi];simp [h1]
theorem fR {W:World}{g:Nat}{cur:List Value}{t:TypeId}{f:Nat × Nat}(h:W.heap[g]?=some (.cells cur.toArray t f)) (o:Nat) (cs:List Value) (hc:∀j v,cs[j]?=some v->cur[o+j]?=some v):∀j v,cs[j]?=some v->W.cell? ((⟨g,o,none⟩:Addr).add j)=some v:=by
 intro j v hj;rw [SE];simp [World.cell?,h,hc j v hj]
theorem vZ (l:List Dc) (k:Nat):(bU l).take (k*5)=bU (l.take k):=qZ Dc.cs 5 Lw.Dc.cs_len k l
theorem pR (l:List Dc) (k:Nat):(bU l).drop (k*5)=bU (l.drop k):=lM Dc.cs 5 Lw.Dc.cs_len k l
theorem pQ (d:Dc):bU [d]=[.int .u8 d.k,.string d.t,.int .i64 d.b,.int .i64 d.i,.bool d.e]:=by simp [bU,bz,Dc.cs]
theorem t8 (A Z D R:List α) (k m:Nat) (hk:A.length=k) (hD:D.length=m) (hz:m+R.length<=Z.length) :
  ((A++Z).take k++D++(A++Z).drop (k+m)).take (k+m)++R++((A++Z).take k++D++(A++Z).drop (k+m)).drop (k+m+R.length)=A++D++R++Z.drop (m+R.length):=by
 subst hk;subst hD;rw [List.take_left,Uj,R9 (by omega),Rr,T1];have e1:(A++D).length=A.length+D.length:=Or;rw [RH (by omega),<-e1,RQ,Uj,R9 (by omega),Rr,T1,List.drop_drop]
theorem xC (d:Dc) {gv:Nat}(h:Rd W v l) (hg:W.heap[gv]?=some (.cells #[.int .u8 d.k,.string d.t,.int .i64 d.b,.int .i64 d.i,.bool d.e] 71 (0,0))) (hl:l.length<=1000000000) :
  Ra 133 #[v,.int .i64 l.length,.slice (some ⟨gv,0,none⟩) 1 1] W fun r w'=>∃v',r=.returned v'/\Rd w' v' (l++[d])/\Kp (fun k=>v.ownBlock=some k) W w'/\Nb W v v':=by
 obtain ⟨p,cap,rfl,hc1,hc2⟩:=bB h;have HR:Hid (Rd W (.slice p l.length cap) l):=h;have HG:Hid (W.heap[gv]?=some (.cells (bU [d]).toArray 71 (0,0))):=by rw [pQ];exact hg
 have q1:(0:Int)<=l.length:=by omega
 have q2:(cap:Int)<=9223372036854775807:=by unfold maxLen at hc2;omega
 clear h hg
 by_cases hcc:cap=l.length
 ·subst hcc
  go_enter Vk,U7
  go_wp2_with (at_builtin;refine ry rfl _ _ rfl (.slice p l.length l.length) l [d] rfl HR.out gv 1 rfl HG.out (by simp;omega) ?_;intro v' w' h1 h2 h3;have HX:Hid (Rd w' v' (l++[d])/\Kp (fun k=>(Value.slice p l.length l.length).ownBlock=some k) W w'/\Nb W (.slice p l.length l.length) v'):=⟨h1,(Kp.of_grown h2).sub (fun k e=>e.symm),h3⟩;clear h1 h2 h3)
  go_ret
  exact ⟨_,rfl,HX.out⟩
 ·go_enter Vk,U7
  go_wp2_with (at_builtin;refine ry rfl _ _ rfl (.slice p l.length cap) l [d] rfl HR.out gv 1 rfl HG.out (by simp;omega) ?_;intro v' w' h1 h2 h3;have HX:Hid (Rd w' v' (l++[d])/\Kp (fun k=>(Value.slice p l.length cap).ownBlock=some k) W w'/\Nb W (.slice p l.length cap) v'):=⟨h1,(Kp.of_grown h2).sub (fun k e=>e.symm),h3⟩;clear h1 h2 h3)
  go_ret
  exact ⟨_,rfl,HX.out⟩
theorem vk (d:Dc) {gv:Nat}(h:Rd W (.slice (some ⟨b,0,none⟩) l.length cap) l) (hi:i<l.length) (hroom:l.length+1<=cap) (hg:W.heap[gv]?=some (.cells #[.int .u8 d.k,.string d.t,.int .i64 d.b,.int .i64 d.i,.bool d.e] 71 (0,0))) (hne:gv≠b) (hl:l.length<=1000000000) :
  Ra 133 #[.slice (some ⟨b,0,none⟩) l.length cap,.int .i64 i,.slice (some ⟨gv,0,none⟩) 1 1] W fun r w'=>∃v',r=.returned v'/\Rd w' v' (l.take i++d :: l.drop i)/\Kp (fun k=>k=b) W w'/\Nb W (.slice (some ⟨b,0,none⟩) l.length cap) v':=by
 obtain ⟨cur,hb,hcm,hcs,htk⟩:∃cur:List Value,W.heap[b]?=some (.cells cur.toArray 71 (0,0))/\cap<=maxLen/\cur.length=cap*5/\cur.take (l.length*5)=bU l:=by
  rcases h.2 with ⟨h1,_⟩|⟨g,cap',cur,h1,_,h3,_,h5,h6,h7⟩
  ·cases h1
  ·cases h1;exact ⟨cur.toList,by simpa using h3,h5,by simpa using h6,h7⟩
 obtain ⟨n,hn⟩:∃n,l.length=n:=⟨_,rfl⟩;rw [hn] at hi hroom hl htk;have hcap:(cap:Int)<=9223372036854775807:=by unfold maxLen at hcm;omega
 have hR:(bU (l.drop i)).length=(n-i)*5:=by rw [aW,Rf,hn]
 have hcp1:∀ty dc sc,(Builtin.copy_ #[35,35] ty #[.slice (some ⟨b,(i+1)*5,none⟩) (n-i) dc,.slice (some ⟨b,i*5,none⟩) (n+1-i) sc]).run Tryz.prog W.drew=.ok (goInt ((n-i:Nat):Int)) (W.drew.setRow b (cur.take ((i+1)*5)++bU (l.drop i)++cur.drop ((i+1)*5+(bU (l.drop i)).length)).toArray):=fun ty dc sc=>by
  have hm:Nat.min (n+1-i) (n-i)=n-i:=by show min _ _=_;omega
  have:=et (P:=Tryz.prog) W.drew 35 35 ty 71 5 b ((i+1)*5) (n-i) dc ⟨b,i*5,none⟩ (n+1-i) sc cur.toArray 71 (bU (l.drop i)) RD kl hb (by rw [hR,hm]) (fR (W:=W.drew) hb (i*5) _ (fun j v hj=>by
   rw [<-pR,RC,<-htk,RI] at hj
   split at hj
   ·exact hj
   ·cases hj)) (by rw [hR];simp;omega) (cg _)
  rw [hm] at this
  simpa using this
 obtain ⟨c1,hc1⟩:∃c1:List Value,cur.take ((i+1)*5)++bU (l.drop i)++cur.drop ((i+1)*5+(bU (l.drop i)).length)=c1:=⟨_,rfl⟩;rw [hc1] at hcp1;have hl1:c1.length=cap*5:=by rw [<-hc1];simp only [Or,Ri,Rf,hR,hcs];omega
 obtain ⟨W1,hW1⟩:∃W1,W.drew.setRow b c1.toArray=W1:=⟨_,rfl⟩;rw [hW1] at hcp1;have hb1:W1.heap[b]?=some (.cells c1.toArray 71 (0,0)):=by rw [<-hW1];exact Ub W.drew b _ _ _ _ hb
 have hk1:Kp (fun k=>k=b) W W1:=by rw [<-hW1];exact ((Kp.of_below ((hH _ W).drew)).step (Kp.setRow W.drew b c1.toArray) (fun _ _ h=>h))
 have hg1:=hk1.blk hg hne
 have hcp2:∀ty dc,(Builtin.copy_ #[35,35] ty #[.slice (some ⟨b,i*5,none⟩) (n+1-i) dc,.slice (some ⟨gv,0,none⟩) 1 1]).run Tryz.prog W1=.ok (goInt 1) (W1.setRow b (c1.take (i*5)++bU [d]++c1.drop (i*5+5)).toArray):=fun ty dc=>by
  have hm:Nat.min 1 (n+1-i)=1:=by show min _ _=_;omega
  have:=et (P:=Tryz.prog) W1 35 35 ty 71 5 b (i*5) (n+1-i) dc ⟨gv,0,none⟩ 1 1 c1.toArray 71 (bU [d]) RD kl hb1 (by rw [aW,hm];rfl) (fR (cur:=bU [d]) (by rw [pQ];exact hg1) 0 _ (fun j v hj=>by rw [QU];exact hj)) (by rw [aW];simp;omega) (cg _);rw [hm] at this
  simpa [aW] using this
 obtain ⟨c2,hc2⟩:∃c2:List Value,c1.take (i*5)++bU [d]++c1.drop (i*5+5)=c2:=⟨_,rfl⟩;rw [hc2] at hcp2;have hl2:c2.length=cap*5:=by rw [<-hc2];simp only [Or,Ri,Rf,aW,hl1,List.length_cons,List.length_nil];omega
 have hk2:Kp (fun k=>k=b) W (W1.setRow b c2.toArray):=hk1.trans (Kp.setRow W1 b _);have hb2:(W1.setRow b c2.toArray).heap[b]?=some (.cells c2.toArray 71 (0,0)):=Ub W1 b _ _ _ _ hb1
 have hfin:c2.take ((n+1)*5)=bU (l.take i++d :: l.drop i):=by
  have e1:c1.take (i*5)=bU (l.take i):=by
   rw [<-hc1,QM,RH (by rw [Ri,hcs];omega),Uc,Vg (by omega),<-vZ,<-htk,Uc,Vg (by omega)]
  have e2:c1.drop (i*5+5)=bU (l.drop i)++cur.drop ((i+1)*5+(bU (l.drop i)).length):=by
   rw [<-hc1,QM,Uj,R9 (by rw [Ri,hcs];omega),Rr,Ri,hcs];rw [show i*5+5-min ((i+1)*5) (cap*5)=0 by omega,List.drop_zero]
  have e3:bU (l.take i++d :: l.drop i)=bU (l.take i)++(bU [d]++bU (l.drop i)):=by rw [gy,show d :: l.drop i=[d]++l.drop i from rfl,gy]
  rw [<-hc2,e1,e2,e3,QM,<-QM (bU [d]),<-QM];rw [RH (by simp only [Or,aW,Ri,Rf,hn,List.length_cons,List.length_nil];omega)];rw [RK (by simp only [Or,aW,Ri,Rf,hn,List.length_cons,List.length_nil];omega)]
 have HX:Hid (Rd (W1.setRow b c2.toArray) (.slice (some ⟨b,0,none⟩) (n+1) cap) (l.take i++d :: l.drop i)/\Kp (fun k=>k=b) W (W1.setRow b c2.toArray)/\Nb W (.slice (some ⟨b,0,none⟩) n cap) (.slice (some ⟨b,0,none⟩) (n+1) cap)):=by
  have hlen:(l.take i++d :: l.drop i).length=n+1:=by simp [hn];omega
  refine ⟨⟨by rw [aW],.inr ⟨b,cap,c2.toArray,by rw [hlen],QK _,hb2,by rw [hlen];omega,hcm,by simp [hl2],?_⟩⟩,hk2,.inl rfl⟩;rw [hlen]
  simpa using hfin
 have hov:∀lb cb,(callFunc 169 #[.slice (some ⟨gv,0,none⟩) 1 1,.slice (some ⟨b,(i+1)*5,none⟩) lb cb]).run Tryz.prog W=.ok (.value (.bool false)) W:=fun lb cb=>by
  have hz:∀w,(Go.sizeOf 71).run Tryz.prog w=.ok 5 w:=fun w=>by
   obtain ⟨i0,hi0,_,h1,_⟩:=iH;simp [sizeOf,typeInfo,hi0,h1]
  rw [run_callFunc_extern Tryz.func169 (by kernel_rfl) (by kernel_rfl) (by kernel_rfl) (e:=Extern.SlicesOverlaps.overlaps #[35,35] #[4]) (by kernel_rfl),
   Lib.run_overlaps_apart W 35 4 71 RD 5 hz ⟨gv,0,none⟩ ⟨b,(i+1)*5,none⟩ 1 1 lb cb hne 71 71 5 (cap*5) (by simp [World.shape?,hg]) (by simp [World.shape?,hb,hcs]) (by omega) (am hg) (am hg)]
  rfl
 rw [hn];clear h hb hcm hcs htk hR hc1 hl1 hW1 hb1 hk1 hg1 hc2 hl2 hk2 hb2 hfin hg hn;have z1:¬((i:Int)=(n:Int)):=by omega
 have z2:IntKind.i64.wrap ((n:Int)+1)=(n:Int)+1:=by rw [RA];omega
 have z3:¬((cap:Int)<(n:Int)+1):=by omega
 have z4:IntKind.i64.wrap ((i:Int)+1)=(i:Int)+1:=by rw [RA];omega
 have z5:¬(cap=i+1):=by omega
 have z6:¬(cap=i):=by omega
 have z7:((i:Int)+1).toNat=i+1:=by omega
 have z8:(0:Int)<=(i:Int)+1:=by omega
 have z9:(i:Int)<=(n:Int):=by omega
 have y1:(i:Int)<=(n:Int)+1:=by omega
 have y2:((n:Int)+1).toNat=n+1:=by omega
 have y3:(0:Int)<=(n:Int)+1:=by omega
 have y4:(n:Int)+1<=(cap:Int):=by omega
 have y5:(i:Int)+1<=(n:Int)+1:=by omega
 go_enter Vk,U7
 go_wp2_with (simp only [hov])
 go_region_law (refine step_copy_r rfl _ _ 35 35 rfl _ _ (by simp [Act.eval,Act.put]) (by simp [Act.eval,Act.put]) (hcp1 _ _ _) ?_)
 go_wp2_with (at_builtin;refine wpList_copy_r _ rfl _ _ 35 35 rfl _ _ rfl rfl (hcp2 _ _) ?_)
 go_ret
 exact ⟨_,rfl,HX.out⟩
theorem mG (w:World) {ops:Array Oper}{rest:List Oper}{o:Oper}{a:Act}{Q:Exit->Act->World->Prop}(hgd:o.guard=none) (d s:Operand) (t t':TypeId)
  (ho:o.op=.call { callee:=.builtin .append,args:=#[d,s],argTypes:=#[t,t'] }) (v u:Value) (hd:a.eval d=v) (hs:a.eval s=u) {v':Value} {w':World}
  (hr:(Builtin.append_ #[t,t'] o.type #[v,u]).run P w=.ok v' w') (h:wpList P ops Q rest (a.put o.dst v') w'):wpList P ops Q (o :: rest) a w:=by
 refine wpList_plain hgd fun _ hK=>?_
 unfold Oper.wp execOp;simp only [ho,resolve,invoke,builtin,Ud,Sem.run_pure,Result.andThen_ok,List.map_toArray,Sg,UG,hd,hs,hr];exact hK _ _ h
theorem vm (d:Dc) {gv:Nat}(h:Rd W (.slice (some ⟨b,0,none⟩) l.length cap) l) (hi:i<l.length) (hroom:¬l.length+1<=cap) (hg:W.heap[gv]?=some (.cells #[.int .u8 d.k,.string d.t,.int .i64 d.b,.int .i64 d.i,.bool d.e] 71 (0,0))) (hl:l.length<=1000000000) :
  Ra 133 #[.slice (some ⟨b,0,none⟩) l.length cap,.int .i64 i,.slice (some ⟨gv,0,none⟩) 1 1] W fun r w'=>∃v',r=.returned v'/\Rd w' v' (l.take i++d :: l.drop i)/\Kp (fun k=>k=b) W w'/\Nb W (.slice (some ⟨b,0,none⟩) l.length cap) v':=by
 obtain ⟨cur,hb,hcm,hcl,hcs,htk⟩:∃cur:List Value,W.heap[b]?=some (.cells cur.toArray 71 (0,0))/\cap<=maxLen/\l.length<=cap/\cur.length=cap*5/\cur.take (l.length*5)=bU l:=by
  rcases h.2 with ⟨h1,_⟩|⟨g,cap',cur,h1,_,h3,h4,h5,h6,h7⟩
  ·cases h1
  ·cases h1;exact ⟨cur.toList,by simpa using h3,h5,h4,by simpa using h6,h7⟩
 obtain ⟨n,hn⟩:∃n,l.length=n:=⟨_,rfl⟩;rw [hn] at hi hroom hl htk hcl;obtain rfl:cap=n:=by omega
 have hcur:cur=bU l:=by rw [<-htk,RK (by omega)]
 subst hcur;clear htk hcl hroom;obtain ⟨i0,hi0,hz0,hz1,hz2⟩:=iH;have hA:(bU (l.take i)).length=i*5:=by rw [aW,Ri,hn];congr 1;omega
 have hR:(bU (l.drop i)).length=(cap-i)*5:=by rw [aW,Rf,hn]
 have hap:∀ty,(Builtin.append_ #[35,3] ty #[.slice (some ⟨b,0,none⟩) i cap,.int .i64 ((cap+1-i:Nat):Int)]).run Tryz.prog W=.ok (.slice (some ⟨W.heap.size,0,none⟩) (cap+1) (grownCap W (cap+1) cap 71))
    (W.drew.alloc (.cells ((bU (l.take i)).toArray++Builtin.zeroCells (Value.agg #[.int .u8 0,.string ⟨#[]⟩,.int .i64 0,.int .i64 0,.bool false]).cells (cap+1-i)++Builtin.zeroCells (Value.agg #[.int .u8 0,.string ⟨#[]⟩,.int .i64 0,.int .i64 0,.bool false]).cells (grownCap W (cap+1) cap 71-(cap+1))) 71)):=fun ty=>by
  have h1:(Builtin.firstCells i0.size i (.slice (some ⟨b,0,none⟩) i cap)).run Tryz.prog W.drew=.ok (bU (l.take i)).toArray W.drew:=by
   rw [hz1];refine run_firstCells_some (w:=W.drew) 5 i ⟨b,0,none⟩ i cap (bU (l.take i)) hA (fR (W:=W.drew) hb 0 _ (fun j v hj=>?_));rw [QU];rw [<-vZ,RI] at hj
   split at hj
   ·exact hj
   ·cases hj
  have:=Lib.run_append_grow_zeros (P:=Tryz.prog) W 35 3 ty 71 i0 _ .i64 .i64 RD RE hi0 hz0 (some ⟨b,0,none⟩) i cap (bU (l.take i)) h1 (cap+1-i) (by omega) (by rw [hz1];omega) (by omega) (by omega) (by rw [hz2];omega) (by rw [hz2];exact growslice_fits (by omega) (by omega));rw [show i+(cap+1-i)=cap+1 by omega] at this;exact this
 obtain ⟨C,hC⟩:∃C,grownCap W (cap+1) cap 71=C:=⟨_,rfl⟩;have hC1:cap+1<=C:=by rw [<-hC];exact grownCap_ge _ _ _ _
 have hC2:C<=maxLen:=by rw [<-hC];exact grownCap_le_maxLen _ _ _ _ (by unfold maxLen;omega)
 rw [hC] at hap;obtain ⟨Z,hZ⟩:∃Z:List Value,(Builtin.zeroCells (Value.agg #[.int .u8 0,.string ⟨#[]⟩,.int .i64 0,.int .i64 0,.bool false]).cells (cap+1-i)++Builtin.zeroCells (Value.agg #[.int .u8 0,.string ⟨#[]⟩,.int .i64 0,.int .i64 0,.bool false]).cells (C-(cap+1))).toList=Z:=⟨_,rfl⟩
 have hZl:Z.length=(C-i)*5:=by
  rw [<-hZ,RG,Array.size_append,size_zeroCells,size_zeroCells];show (cap+1-i)*5+(C-(cap+1))*5=_;omega
 have hZa:(bU (l.take i)).toArray++Builtin.zeroCells (Value.agg #[.int .u8 0,.string ⟨#[]⟩,.int .i64 0,.int .i64 0,.bool false]).cells (cap+1-i)++Builtin.zeroCells (Value.agg #[.int .u8 0,.string ⟨#[]⟩,.int .i64 0,.int .i64 0,.bool false]).cells (C-(cap+1))=(bU (l.take i)++Z).toArray:=by
  rw [Array.append_assoc]
  apply SQ.1
  rw [Array.toList_append,hZ]
 rw [hZa] at hap;clear hZ hZa;obtain ⟨N,hN⟩:∃N,W.heap.size=N:=⟨_,rfl⟩;obtain ⟨W0,hW0⟩:∃W0,W.drew.alloc (.cells (bU (l.take i)++Z).toArray 71)=W0:=⟨_,rfl⟩;rw [hW0,hN] at hap;have hB0:Below W.heap.size W W0:=by rw [<-hW0];exact ((hH _ W).drew).alloc (gt _) _
 have hb0:W0.heap[N]?=some (.cells (bU (l.take i)++Z).toArray 71 (0,0)):=by rw [<-hW0,<-hN];exact au W.drew _
 have hgN:gv<N:=by rw [<-hN];exact aq hg
 have hbN:b<N:=by rw [<-hN];exact aq hb
 have hg0:=ag hg hB0;have hs0:=ag hb hB0
 have hcp1:∀ty dc,(Builtin.copy_ #[35,35] ty #[.slice (some ⟨N,i*5,none⟩) (cap+1-i) dc,.slice (some ⟨gv,0,none⟩) 1 1]).run Tryz.prog W0=.ok (goInt 1) (W0.setRow N ((bU (l.take i)++Z).take (i*5)++bU [d]++(bU (l.take i)++Z).drop (i*5+5)).toArray):=fun ty dc=>by
  have hm:Nat.min 1 (cap+1-i)=1:=by show min _ _=_;omega
  have:=et (P:=Tryz.prog) W0 35 35 ty 71 5 N (i*5) (cap+1-i) dc ⟨gv,0,none⟩ 1 1 (bU (l.take i)++Z).toArray 71 (bU [d]) RD kl hb0 (by rw [aW,hm];rfl) (fR (cur:=bU [d]) (by rw [pQ];exact hg0) 0 _ (fun j v hj=>by rw [QU];exact hj)) (by rw [aW];simp [hA,hZl];omega) (cg _);rw [hm] at this
  simpa [aW] using this
 obtain ⟨c1,hc1⟩:∃c1:List Value,(bU (l.take i)++Z).take (i*5)++bU [d]++(bU (l.take i)++Z).drop (i*5+5)=c1:=⟨_,rfl⟩;rw [hc1] at hcp1;have hl1:c1.length=C*5:=by rw [<-hc1];simp only [Or,Ri,Rf,aW,hA,hZl,List.length_cons,List.length_nil,hn];omega
 obtain ⟨W1,hW1⟩:∃W1,W0.setRow N c1.toArray=W1:=⟨_,rfl⟩;rw [hW1] at hcp1;have hb1:W1.heap[N]?=some (.cells c1.toArray 71 (0,0)):=by rw [<-hW1];exact Ub W0 N _ _ _ _ hb0
 have hk1:Kp (fun k=>k=b) W W1:=by rw [<-hW1];exact (Kp.of_below hB0).step (Kp.setRow W0 N c1.toArray) (fun k hk e=>by omega)
 have hs1:W1.heap[b]?=some (.cells (bU l).toArray 71 (0,0)):=by rw [<-hW1,setRow_other W0 N b _ (by omega)];exact hs0
 have hcp2:∀ty dc sc,(Builtin.copy_ #[35,35] ty #[.slice (some ⟨N,(i+1)*5,none⟩) (cap-i) dc,.slice (some ⟨b,i*5,none⟩) (cap-i) sc]).run Tryz.prog W1.drew=.ok (goInt ((cap-i:Nat):Int)) (W1.drew.setRow N (c1.take ((i+1)*5)++bU (l.drop i)++c1.drop ((i+1)*5+(bU (l.drop i)).length)).toArray):=fun ty dc sc=>by
  have hm:Nat.min (cap-i) (cap-i)=cap-i:=by show min _ _=_;omega
  have:=et (P:=Tryz.prog) W1.drew 35 35 ty 71 5 N ((i+1)*5) (cap-i) dc ⟨b,i*5,none⟩ (cap-i) sc c1.toArray 71 (bU (l.drop i)) RD kl hb1 (by rw [hR,hm]) (fR (W:=W1.drew) hs1 (i*5) _ (fun j v hj=>by rw [<-pR,RC] at hj;exact hj)) (by rw [hR];simp;omega) (cg _);rw [hm] at this
  simpa using this
 obtain ⟨c2,hc2⟩:∃c2:List Value,c1.take ((i+1)*5)++bU (l.drop i)++c1.drop ((i+1)*5+(bU (l.drop i)).length)=c2:=⟨_,rfl⟩;rw [hc2] at hcp2
 have hfin:c2=bU (l.take i++d :: l.drop i)++Z.drop (5+(bU (l.drop i)).length):=by
  have e3:bU (l.take i++d :: l.drop i)=bU (l.take i)++bU [d]++bU (l.drop i):=by rw [gy,show d :: l.drop i=[d]++l.drop i from rfl,gy,QM]
  have:=t8 (bU (l.take i)) Z (bU [d]) (bU (l.drop i)) (i*5) 5 hA (by rw [aW];rfl) (by rw [hR,hZl];omega);rw [hc1,show i*5+5=(i+1)*5 by omega,hc2] at this;rw [this,e3]
 have hl2:c2.length=C*5:=by rw [<-hc2];simp only [Or,Ri,Rf,hR,hl1];omega
 have hk2:Kp (fun k=>k=b) W (W1.drew.setRow N c2.toArray):=(hk1.step (Kp.of_below (S:=fun _=>False) ((hH _ W1).drew)) (fun _ _ h=>h.elim)).step (Kp.setRow W1.drew N _) (fun k hk e=>by omega);have hb2:(W1.drew.setRow N c2.toArray).heap[N]?=some (.cells c2.toArray 71 (0,0)):=Ub W1.drew N _ _ _ _ hb1
 have HX:Hid (Rd (W1.drew.setRow N c2.toArray) (.slice (some ⟨N,0,none⟩) (cap+1) C) (l.take i++d :: l.drop i)/\Kp (fun k=>k=b) W (W1.drew.setRow N c2.toArray)/\Nb W (.slice (some ⟨b,0,none⟩) cap cap) (.slice (some ⟨N,0,none⟩) (cap+1) C)):=by
  have hlen:(l.take i++d :: l.drop i).length=cap+1:=by simp [hn];omega
  refine ⟨⟨by rw [aW],.inr ⟨N,C,c2.toArray,by rw [hlen],QK _,hb2,by rw [hlen];omega,hC2,by simp [hl2],?_⟩⟩,hk2,.inr ⟨N,rfl,by omega⟩⟩;rw [hfin,Vj (by rw [aW])]
 rw [hn];clear h hb hcm hcs hR hc1 hl1 hW1 hb1 hk1 hc2 hl2 hk2 hb2 hfin hg hn hC hi0 hz0 hz1 hz2 hA hZl hN hW0 hB0 hb0 hg0 hs0 hs1 hC2 hgN hbN;have z1:¬((i:Int)=(cap:Int)):=by omega
 have z2:IntKind.i64.wrap ((cap:Int)+1)=(cap:Int)+1:=by rw [RA];omega
 have z3:(cap:Int)<(cap:Int)+1:=by omega
 have z4:IntKind.i64.wrap ((i:Int)+1)=(i:Int)+1:=by rw [RA];omega
 have z5:¬(C=i+1):=by omega
 have z6:¬(cap=i):=by omega
 have z7:((i:Int)+1).toNat=i+1:=by omega
 have z8:(0:Int)<=(i:Int)+1:=by omega
 have z9:(i:Int)<=(cap:Int):=by omega
 have y1:IntKind.i64.wrap ((cap:Int)+1-(i:Int))=((cap+1-i:Nat):Int):=by rw [RA];omega
 have y2:¬(C=i):=by omega
 have y3:(i:Int)<=(cap:Int)+1:=by omega
 have y5:(i:Int)+1<=(cap:Int)+1:=by omega
 go_enter Vk,U7
 go_wp2_with (first|(at_builtin;refine mG _ rfl _ _ 35 3 rfl _ _ rfl rfl (hap _) ?_)|(at_builtin;refine wpList_copy_r _ rfl _ _ 35 35 rfl _ _ rfl rfl (hcp1 _ _) ?_))
 go_region_law (refine step_copy_r rfl _ _ 35 35 rfl _ _ (by simp [Act.eval,Act.put]) (by simp [Act.eval,Act.put]) (hcp2 _ _ _) ?_)
 go_wp2_with fail
 go_ret
 exact ⟨_,rfl,HX.out⟩
theorem xD (d:Dc) {gv:Nat}(h:Rd W v l) (hi:i<=l.length) (hg:W.heap[gv]?=some (.cells #[.int .u8 d.k,.string d.t,.int .i64 d.b,.int .i64 d.i,.bool d.e] 71 (0,0))) (hne:v.ownBlock≠some gv) (hl:l.length<=1000000000) :
  Ra 133 #[v,.int .i64 i,.slice (some ⟨gv,0,none⟩) 1 1] W fun r w'=>∃v',r=.returned v'/\Rd w' v' (l.take i++d :: l.drop i)/\Kp (fun k=>v.ownBlock=some k) W w'/\Nb W v v':=by
 by_cases h1:i=l.length
 ·subst h1;rw [RQ,TF];exact xC d h hg hl
 ·have h2:i<l.length:=by omega
  rcases h.2 with ⟨h3,h4⟩|⟨b,cap,cur,rfl,_⟩
  ·omega
  ·have hne':gv≠b:=fun e=>hne (by rw [e];rfl)
   by_cases h5:l.length+1<=cap
   ·refine (vk d h h2 h5 hg hne' hl).mono ?_;rintro r w' ⟨v',a1,a2,a3,a4⟩;exact ⟨v',a1,a2,a3.sub (fun k e=>by rw [e];rfl),a4⟩
   ·refine (vm d h h2 h5 hg hl).mono ?_;rintro r w' ⟨v',a1,a2,a3,a4⟩;exact ⟨v',a1,a2,a3.sub (fun k e=>by rw [e];rfl),a4⟩
theorem jI {ops:Array Oper}{K:Act->World->Prop}{Q:Exit->Act->World->Prop}{E:Prop}
  (hg:o.guard=none) (d x:Operand) (dT sT:TypeId) (hop:o.op=Op.call { callee:=Callee.builtin Builtin.append,args:=#[d,x],argTypes:=#[dT,sT] })
  (v u:Value) (hd:a.eval d=v) (hx:a.eval x=u) {v':Value} {w':World} (hr:(Builtin.append_ #[dT,sT] o.type #[v,u]).run P w=.ok v' w') (hK:K (a.put o.dst v') w') :
  if Region.wanted o (yielded ops a.tmps)=true then Oper.wp P o a w K Q else E:=by
 have hw:Region.wanted o (yielded ops a.tmps)=true:=by simp [Region.wanted,hg]
 rw [IO hw];unfold Oper.wp;simp [execOp,hop,resolve,invoke,builtin,hd,hx,hr,Result.andThen];exact hK
theorem qj (w:World) (b o n:Nat) (hn:0<n) (cur:List Value) (hb:w.heap[b]?=some (.cells cur.toArray 71 (0,0))) (ho:o+n*5<=cur.length) :
  ∃c2:List Value,(∀ty c,(Builtin.clear_ #[35] ty #[.slice (some ⟨b,o,none⟩) n c]).run Tryz.prog w=.ok (.tuple #[]) (w.setRow b c2.toArray))/\c2.length=cur.length/\c2.take o=cur.take o:=by
 obtain ⟨i0,hi0,hz0,hz1,hz2⟩:=iH;have hz:∀w,(zeroValue 71).run Tryz.prog w=.ok (.agg #[.int .u8 0,.string ⟨#[]⟩,.int .i64 0,.int .i64 0,.bool false]) w:=fun w=>by simp [zeroValue,typeInfo,hi0,hz0]
 obtain ⟨Z,hZ⟩:∃Z:List Value,(Builtin.zeroCells (Value.agg #[.int .u8 0,.string ⟨#[]⟩,.int .i64 0,.int .i64 0,.bool false]).cells n).toList=Z:=⟨_,rfl⟩;have hZl:Z.length=n*5:=by rw [<-hZ,RG,size_zeroCells];rfl
 have hZ1:∀v∈Z,v.oneCell'=true:=by
  intro v hv;rw [<-hZ] at hv;rw [Builtin.zeroCells,Array.mem_toList_iff,Array.mem_map] at hv;obtain ⟨k,_,rfl⟩:=hv;have hk:k % 5<5:=Nat.mod_lt _ (by omega);show Value.oneCell' (#[Value.int .u8 0,.string ⟨#[]⟩,.int .i64 0,.int .i64 0,.bool false][k % 5]!)=true
  generalize k % 5=q at hk
  match q,hk with
  |0,_=>rfl
  |1,_=>rfl
  |2,_=>rfl
  |3,_=>rfl
  |4,_=>rfl
 have hst:=UT Tryz.prog b o 71 Z 0 cur.toArray w hb (by rw [hZl];simpa using ho) hZ1;refine ⟨cur.take o++Z++cur.drop (o+Z.length),?_,?_,?_⟩
 ·intro ty c;obtain ⟨m,rfl⟩:∃m,n=m+1:=⟨n-1,by omega⟩;simp only [R7] at hst;simp [Builtin.clear_,run_underlying RD,hz,hZ,hst]
 ·simp only [Or,Ri,Rf,hZl];omega
 ·rw [QM,RH (by rw [Ri];omega),Uc,Nat.min_self]
theorem ny {S:Nat->Prop}{B:Nat}{W':World}(h:Below B w W) (hk:Kp S W W') (hS:∀k,S k->B<=k) (hB:B<=W.heap.size):Below B w W':=
 ⟨hk.os.trans h.os,hk.tape.trans h.tape,hk.output.trans h.output,QQ h.size hk.size,fun k hk'=>(hk.block k (Q1 hk' hB) (fun hs=>by have:=hS k hs;omega)).trans (h.block k hk')⟩
theorem Il (W:World):Rd (W.alloc (.cells #[] 71)) (.slice (some ⟨W.heap.size,0,none⟩) 0 0) []:=
 ⟨rfl,.inr ⟨_,0,#[],rfl,QK _,au W _,gt _,QK _,rfl,rfl⟩⟩
theorem No {ops:Array Oper}{rest:List Oper}{Q:Exit->Act->World->Prop}(hgd:o.guard=none) (s x:Operand)
  (ho:o.op=.call { callee:=.builtin .append,args:=#[s,x],argTypes:=#[35,35] }) (v:Value) (l ds:List Dc) (hs:a.eval s=v) (hr:Rd W v l)
  (ad:Addr) (c:Nat) (hx:a.eval x=.slice (some ad) ds.length c) (hc:∀j u,(bU ds)[j]?=some u->W.cell? (ad.add j)=some u) (hl:l.length+ds.length<=2000000000)
  (h:∀v' w',Rd w' v' (l++ds)->W.grownBy w' v.ownBlock->Nb W v v'->wpList Tryz.prog ops Q rest (a.put o.dst v') w'):wpList Tryz.prog ops Q (o :: rest) a W:=by
 obtain ⟨i0,hi,hz0,hz1,hz2⟩:=Sa Tryz.info71;refine RT (P:=Tryz.prog) (w:=W) hgd s x 35 ho 0 71 i0 _ 5 48 RD hi hz0 hz1 hz2 rfl (by decide) v _ _ hs hr ad ds.length c (bU ds) hx (by rw [aW]) hc (cg ds) (by unfold maxLen;omega) (by omega) (QK _) ?_;intro v' w' h1 h2 _ h4;refine h v' w' ?_ h2 ?_
 ·unfold Rd;rw [Or,gy];exact h1
 ·rcases h4 with h4|h4
  ·exact .inl h4
  ·exact .inr ⟨_,h4,gt _⟩
theorem EC (h:Ld w (some ⟨b,0,none⟩) l):∀j u,(bU l)[j]?=some u->w.cell? ((⟨b,0,none⟩:Addr).add j)=some u:=by
 intro j u hu;have hj:j<l.length*5:=by rw [<-aW];exact (QT.1 hu).1
 obtain ⟨d,hd⟩:∃d,l[j / 5]?=some d:=⟨_,Pi (by omega)⟩;obtain ⟨b',off,e,c0,c1,c2,c3,c4⟩:=h _ d hd;cases e;have hu2:(bU l)[j / 5*5+j % 5]?=some u:=by rw [show j / 5*5+j % 5=j by omega];exact hu
 have hm:j % 5<5:=Nat.mod_lt _ (by omega);rw [SE];have hj2:(0:Nat)+j=0+j / 5*5+j % 5:=by omega
 rw [hj2]
 generalize j % 5=q at hu2 hm ⊢
 match q,hm with
 |0,_=>rw [show (bU l)[j / 5*5+0]?=_ from aU Dc.cs 5 Lw.Dc.cs_len l _ 0 _ _ hd rfl] at hu2;cases hu2;exact c0
 |1,_=>rw [show (bU l)[j / 5*5+1]?=_ from aU Dc.cs 5 Lw.Dc.cs_len l _ 1 _ _ hd rfl] at hu2;cases hu2;exact c1
 |2,_=>rw [show (bU l)[j / 5*5+2]?=_ from aU Dc.cs 5 Lw.Dc.cs_len l _ 2 _ _ hd rfl] at hu2;cases hu2;exact c2
 |3,_=>rw [show (bU l)[j / 5*5+3]?=_ from aU Dc.cs 5 Lw.Dc.cs_len l _ 3 _ _ hd rfl] at hu2;cases hu2;exact c3
 |4,_=>rw [show (bU l)[j / 5*5+4]?=_ from aU Dc.cs 5 Lw.Dc.cs_len l _ 4 _ _ hd rfl] at hu2;cases hu2;exact c4
theorem Cf (W:World) (n c:Nat):Ra 167 #[.slice none n c] W fun r w'=>r=.returned (.slice none 0 0)/\w'=W:=by
 have hE:(binOp .eql 35 (.slice none n c) (.slice none 0 0)).run Tryz.prog W=.ok (.bool true) W:=Lib.run_eql_slice_nil W _ _ none n c 0 0 RD
 go_enter Tryz.func167,Tryz.ntmps167
 go_wp2_with fail
 go_ret
 exact ⟨rfl,rfl⟩
theorem xW {W:World}{b cap:Nat}{l:List Dc}(h:Ld W (some ⟨b,0,none⟩) l) (hl:l.length<=1000000000):Ra 167 #[.slice (some ⟨b,0,none⟩) l.length cap] W fun r w'=>∃v',r=.returned v'/\Rd w' v' l/\Below W.heap.size W w'/\∀k,v'.ownBlock=some k->W.heap.size<=k:=by
 have HB:Hid (Below W.heap.size W (W.alloc (.cells #[] 71))):=(hH _ _).alloc (gt _) _;have HC:Hid (∀j u,(bU l)[j]?=some u->(W.alloc (.cells #[] 71)).cell? ((⟨b,0,none⟩:Addr).add j)=some u):=EC (h.below HB.out);have HR:Hid (Rd (W.alloc (.cells #[] 71)) (.slice (some ⟨W.heap.size,0,none⟩) 0 0) []):=Il W;have hs:(W.alloc (.cells #[] 71)).heap.size=W.heap.size+1:=by show (W.heap.push _).size=_;simp
 have HF:Hid (∀v' w',Rd w' v' ([]++l)->(W.alloc (.cells #[] 71)).grownBy w' (some W.heap.size)->Nb (W.alloc (.cells #[] 71)) (.slice (some ⟨W.heap.size,0,none⟩) 0 0) v'->Rd w' v' l/\Below W.heap.size W w'/\∀k,v'.ownBlock=some k->W.heap.size<=k):=fun v' w' h1 h2 h3=>by
  refine ⟨h1,ny HB.out (Kp.of_grown h2) (fun k e=>by cases e;exact gt _) HB.out.size ,fun k e=>?_⟩
  rcases h3 with h3|⟨q,hq,hq2⟩
  ·rw [h3] at e;cases e;exact gt _
  ·rw [hq] at e;cases e;omega
 have hE:(binOp .eql 35 (.slice (some ⟨b,0,none⟩) l.length cap) (.slice none 0 0)).run Tryz.prog W=.ok (.bool false) W:=Lib.run_eql_slice_nil W _ _ (some ⟨b,0,none⟩) l.length cap 0 0 RD;clear h hs
 go_enter Tryz.func167,Tryz.ntmps167
 go_wp2_with (at_builtin;refine No rfl _ _ rfl (.slice (some ⟨W.heap.size,0,none⟩) 0 0) [] l rfl HR.out ⟨b,0,none⟩ _ rfl HC.out (by simp;omega) ?_;intro v' w' h1 h2 h3;have HX:=show Hid _ from HF.out v' w' h1 h2 h3;clear h1 h2 h3)
 go_ret
 exact ⟨_,rfl,HX.out⟩
theorem vW (v:Value) {l:List Dc}(h:Rd W v l) (hl:l.length<=1000000000):Ra 168 #[v,.int .i64 0,.int .i64 0] W fun r w'=>r=.returned v/\w'=W:=by
 obtain ⟨p,cap,rfl,hc1,hc2⟩:=bB h;have q2:(l.length:Int)<=(cap:Int):=by omega
 clear h hc2;cases p
 all_goals (
  go_enter Tryz.func168,Tryz.ntmps168
  go_wp2_with fail
  all_goals (go_ret;exact ⟨rfl,rfl⟩))
theorem vV {W:World}{b cap n:Nat}{l:List Dc}(h:Rd W (.slice (some ⟨b,0,none⟩) l.length cap) l) (hn0:0<n) (hnl:n<=l.length) (hl:l.length<=1000000000) :
  Ra 168 #[.slice (some ⟨b,0,none⟩) l.length cap,.int .i64 0,.int .i64 n] W fun r w'=>r=.returned (.slice (some ⟨b,0,none⟩) (l.length-n) cap)/\Rd w' (.slice (some ⟨b,0,none⟩) (l.length-n) cap) (l.drop n)/\Kp (fun k=>k=b) W w':=by
 obtain ⟨cur,hb,hcm,hcl,hcs,htk⟩:∃cur:List Value,W.heap[b]?=some (.cells cur.toArray 71 (0,0))/\cap<=maxLen/\l.length<=cap/\cur.length=cap*5/\cur.take (l.length*5)=bU l:=by
  rcases h.2 with ⟨h1,_⟩|⟨g,cap',cur,h1,_,h3,h4,h5,h6,h7⟩
  ·cases h1
  ·cases h1;exact ⟨cur.toList,by simpa using h3,h5,h4,by simpa using h6,h7⟩
 obtain ⟨m,hm⟩:∃m,l.length=m:=⟨_,rfl⟩;rw [hm] at hnl hl hcl htk ⊢;obtain ⟨i0,hi0,hz0,hz1,hz2⟩:=iH;have hR:(bU (l.drop n)).length=(m-n)*5:=by rw [aW,Rf,hm]
 obtain ⟨ad,had⟩:∃ad:Nat,(if cap=n then 0 else n*5)=ad:=⟨_,rfl⟩
 have hsrc:∀j u,(bU (l.drop n))[j]?=some u->W.cell? ((⟨b,ad,none⟩:Addr).add j)=some u:=by
  refine fR hb ad _ (fun j v hj=>?_);have hjl:=(QT.1 hj).1;rw [hR] at hjl;rw [<-had,Eq (by omega)];rw [<-pR,RC,<-htk,RI] at hj
  split at hj
  ·exact hj
  ·cases hj
 have hap:∀ty c,(Builtin.append_ #[35,35] ty #[.slice (some ⟨b,0,none⟩) 0 cap,.slice (some ⟨b,ad,none⟩) (m-n) c]).run Tryz.prog W.drew=.ok (.slice (some ⟨b,0,none⟩) (m-n) cap) (W.drew.setRow b (bU (l.drop n)++cur.drop ((m-n)*5)).toArray):=fun ty c=>by
  have:=run_append_room (P:=Tryz.prog) W.drew 35 ty 71 i0 RD hi0 b 0 cap cur.toArray hb ⟨b,ad,none⟩ (m-n) c (bU (l.drop n)) (by rw [hR,hz1]) hsrc (cg _) (by omega) (by rw [hR];simp;omega)
  simpa [hR] using this
 obtain ⟨c1,hc1⟩:∃c1:List Value,bU (l.drop n)++cur.drop ((m-n)*5)=c1:=⟨_,rfl⟩;rw [hc1] at hap;have hl1:c1.length=cap*5:=by rw [<-hc1,Or,Rf,hR,hcs];omega
 obtain ⟨W1,hW1⟩:∃W1,W.drew.setRow b c1.toArray=W1:=⟨_,rfl⟩;rw [hW1] at hap;have hb1:W1.heap[b]?=some (.cells c1.toArray 71 (0,0)):=by rw [<-hW1];exact Ub W.drew b _ _ _ _ hb
 have hk1:Kp (fun k=>k=b) W W1:=by rw [<-hW1];exact ((Kp.of_below ((hH _ W).drew)).step (Kp.setRow W.drew b c1.toArray) (fun _ _ h=>h))
 obtain ⟨c2,hcl2,h1,h2⟩:=qj W1 b ((m-n)*5) n hn0 c1 hb1 (by omega)
 have HX:Hid (Rd (W1.setRow b c2.toArray) (.slice (some ⟨b,0,none⟩) (m-n) cap) (l.drop n)/\Kp (fun k=>k=b) W (W1.setRow b c2.toArray)):=by
  have hlen:(l.drop n).length=m-n:=by rw [Rf,hm]
  refine ⟨⟨by rw [aW],.inr ⟨b,cap,c2.toArray,by rw [hlen],QK _,Ub W1 b _ _ _ _ hb1,by rw [hlen];omega,hcm,by simp [h1,hl1],?_⟩⟩,hk1.trans (Kp.setRow W1 b _)⟩;rw [hlen];show c2.take _=_;rw [h2,<-hc1,Vj hR]
 have had':(if cap=n then (⟨b,0,none⟩:Addr) else ⟨b,n*5,none⟩)=⟨b,ad,none⟩:=by rw [<-had];split <;> rfl
 clear h1 h2 h hb hcm hcs hR hc1 hl1 hW1 hb1 hk1 htk hi0 hz0 hz1 hz2 hsrc hm;have z1:¬((0:Int)=(n:Int)):=by omega
 have z2:(0:Int)<=(n:Int):=by omega
 have z3:(n:Int)<=(m:Int):=by omega
 have z4:(m:Int)<=(cap:Int):=by omega
 have z5:((m-n:Nat):Int)<=(m:Int):=by omega
 have z6:¬(cap=m-n):=by omega
 have z7:m-(m-n)=n:=by omega
 have z8:(n:Int)<=(cap:Int):=by omega
 by_cases hcn:cap=n
 ·rw [IO hcn] at had;subst had;have e0:m=n:=by omega
  subst e0;subst hcn;clear z3 z4 z5 z7 z8;have z9:cap-cap=0:=by omega
  rw [z9] at hap hcl2 HX ⊢
  go_enter Tryz.func168,Tryz.ntmps168
  go_wp2_with fail
  go_region_law (refine jI (by rfl) _ _ 35 35 (by rfl) (.slice (some ⟨b,0,none⟩) 0 cap) (.slice (some ⟨b,0,none⟩) 0 0) (by simp [Act.eval,Act.put]) (by simp [Act.eval,Act.put]) (hap _ _) ?_)
  all_goals (
   go_wp2_with (at_builtin;refine wpList_clear_r _ (by rfl) _ 35 (by rfl) (.slice (some ⟨b,0*5,none⟩) cap _) (by rfl) (hcl2 _ _) ?_)
   go_ret
   exact ⟨rfl,HX.out⟩)
 ·rw [Eq hcn] at had;subst had
  go_enter Tryz.func168,Tryz.ntmps168
  go_wp2_with fail
  go_region_law (refine jI (by rfl) _ _ 35 35 (by rfl) (.slice (some ⟨b,0,none⟩) 0 cap) (.slice (some ⟨b,n*5,none⟩) (m-n) (cap-n)) (by simp [Act.eval,Act.put]) (by simp [Act.eval,Act.put]) (hap _ _) ?_)
  all_goals (
   go_wp2_with (at_builtin;refine wpList_clear_r _ (by rfl) _ 35 (by rfl) (.slice (some ⟨b,(m-n)*5,none⟩) n _) (by rfl) (hcl2 _ _) ?_)
   go_ret
   exact ⟨rfl,HX.out⟩)
def An (S:Nat->Prop) (g:Nat) (W W':World) (v:Value) (l:List Dc) (st:Sy):Prop:=
 (∃S',SS S' W' g st/\(∀k,S' k->S k\/W.heap.size<=k)/\∀k,v.ownBlock=some k->(S k\/W.heap.size<=k)/\¬S' k)/\Rd W' v l/\Kp S W W'
theorem G1 (p:α->Bool) (l:List α) (k:Nat) (hk:k<=l.length) (h:∀x∈l.take k,p x=true) (h2:∀x,l[k]?=some x->p x=false):l.takeWhile p=l.take k/\l.dropWhile p=l.drop k:=by
 induction l generalizing k with
 |nil=>simp at hk;subst hk;simp
 |cons a r ih=>
  cases k with
  |zero=>
   have:=h2 a rfl;simp [List.takeWhile_cons,UC,this]
  |succ k=>
   have ha:=h a (by simp);obtain ⟨i1,i2⟩:=ih k (by simpa using hk) (fun x hx=>h x (by simp [hx])) (fun x hx=>h2 x (by simpa using hx));simp [List.takeWhile_cons,UC,ha,i1,i2]
theorem ox {S:Nat->Prop}(h:SS S W g st) (hl:st.ws.length<=1000000000) :
  Ra 131 #[bV g] W fun r w'=>∃v,r=.returned v/\An S g W w' v (st.ws.takeWhile be) { st with ws:=st.ws.dropWhile be }:=by
 obtain ⟨vn,vw,hv,s1,s2⟩:=h.ex;have hsg:=h.sg;have hlt:=h.lt;obtain ⟨p,cap,e,hc1,hc2⟩:=bB hv.rd;subst e;obtain ⟨L,hL⟩:∃L,st.ws=L:=⟨_,rfl⟩;have hlL:L.length<=1000000000:=by rw [<-hL];exact hl
 have hcL:L.length<=cap:=by rw [<-hL];exact hc1
 have HV:Hid (∀V,Rc W V->V.cell? ⟨g,2,none⟩=some (.slice p L.length cap)/\V.frozen? ⟨g,2,none⟩=false/\Ld V p L):=fun V hb=>by
  have:=hv.below hb;rw [<-hL];exact ⟨this.sb.cells.2.2.1,this.sb.frozen 2,uC this.rd⟩
 have HD:Hid (∀(n:Nat),n<=L.length->∀V,Rc W V->Ra 167 #[.slice p n cap] V fun r w'=>∃v,r=.returned v/\Rd w' v (L.take n)/\Rc W w'/\(∀k,v.ownBlock=some k->W.heap.size<=k)):=fun n hn V hb=>by
  have hq:=hv.below hb;have hr:=hq.rd;rw [hL] at hr;cases p with
  |none=>
   refine (Cf V n cap).mono ?_;rintro r w' ⟨rfl,rfl⟩
   have h0:L=[]:=by
    rcases hr.2 with ⟨_,h0⟩|⟨_,_,_,h1,_⟩
    ·exact QZ h0
    ·cases h1
   refine ⟨_,rfl,by rw [h0,List.take_nil];exact lA _,hb,fun k e=>by cases e⟩
  |some a=>
   obtain ⟨b,ha⟩:∃b,a=⟨b,0,none⟩:=by
    rcases hr.2 with ⟨h1,_⟩|⟨b,_,_,h1,_⟩
    ·cases h1
    ·cases h1;exact ⟨b,rfl⟩
   subst ha;have hl2:(L.take n).length=n:=by rw [Ri];omega
   have:=xW (cap:=cap) ((uC hr).take n) (by omega);rw [hl2] at this;refine this.mono ?_;rintro r w' ⟨v',rfl,a1,a2,a3⟩;exact ⟨v',rfl,a1,hb.trans (a2.mono hb.size),fun k e=>QQ hb.size (a3 k e)⟩
 have HE:Hid (∀(n:Nat),n<=L.length->(L.takeWhile be=L.take n/\L.dropWhile be=L.drop n)->∀V v,Rc W V->Rd V v (L.take n)->(∀k,v.ownBlock=some k->W.heap.size<=k)->Ra 168 #[.slice p L.length cap,.int .i64 0,.int .i64 n] V fun r w'=>∃p' n' c',r=.returned (.slice p' n' c')/\(w'.cell? ⟨g,2,none⟩=some (.slice p L.length cap)/\w'.frozen? ⟨g,2,none⟩=false)/\An S g W (w'.setCell ⟨g,2,none⟩ (.slice p' n' c')) v (L.takeWhile be) { st with ws:=L.dropWhile be }):=fun n hn htw V v hb hvr hvn=>by
  have hq:=hv.below hb;have hr:=hq.rd;rw [hL] at hr;rw [htw.1,htw.2]
  have fin:∀(w':World) (v':Value),Rd w' v' (L.drop n)->Kp (fun k=>(Value.slice p L.length cap).ownBlock=some k) V w'->Nb V (.slice p L.length cap) v'->(w'.cell? ⟨g,2,none⟩=some (.slice p L.length cap)/\w'.frozen? ⟨g,2,none⟩=false)/\An S g W (w'.setCell ⟨g,2,none⟩ v') v (L.take n) { st with ws:=L.drop n }:=fun w' v' b1 b2 b3=>by
   have hq':SV V g st vn (.slice p L.length cap):=by rw [<-hL];exact hq
   obtain ⟨c1,c2⟩:=hq'.ws (hH _ _) b2 b1 b3;refine ⟨c1,?_⟩;obtain ⟨vw',d1,d2⟩:=c2.ex;have hvne:∀k,v.ownBlock=some k->¬S k:=fun k e hs=>by have:=hlt k hs;have:=hvn k e;omega
   have hkS:Kp S V (w'.setCell ⟨g,2,none⟩ v'):=c2.kp.sub (by rintro k (e|e);rw [e];exact hsg;exact s2 k (by rw [hL];exact e));refine ⟨⟨fun k=>S k\/(W.heap.size<=k/\vw'.ownBlock=some k),⟨⟨vn,vw',d1,fun k e=>.inl (s1 k e),fun k e=>?_⟩,.inl hsg,?_⟩,?_,?_⟩,yM hvr hkS hvne,(Kp.of_below hb).step hkS (fun _ _ h=>h)⟩
   ·rcases d2 with d2|⟨q,hq1,hq2⟩
    ·exact .inl (s2 k (by rw [hL,<-d2];exact e))
    ·exact .inr ⟨by rw [hq1] at e;cases e;exact QQ hb.size hq2,e⟩
   ·rintro k (a|a)
    ·exact Q1 (hlt k a) (QQ hb.size hkS.size)
    ·exact gX d1.rd k a.2
   ·rintro k (a|a)
    ·exact .inl a
    ·exact .inr a.1
   ·intro k e;refine ⟨.inr (hvn k e),?_⟩;rintro (a|a)
    ·exact hvne k e a
    ·rcases d2 with d2|⟨q,hq1,hq2⟩
     ·have hs:=s2 k (by rw [hL,<-d2];exact a.2);exact hvne k e hs
     ·rw [hq1] at a;have h9:=gX hvr k e;have:q=k:=by simpa using a.2
      omega
  by_cases h0:n=0
  ·subst h0;refine (vW (.slice p L.length cap) hr (by omega)).mono ?_;rintro r w' ⟨rfl,rfl⟩;exact ⟨_,_,_,rfl,fin _ _ (by rw [List.drop_zero];exact hr) (Kp.refl _ _) (.inl rfl)⟩
  ·cases p with
   |none=>
    have h0':L=[]:=by
     rcases hr.2 with ⟨_,h0⟩|⟨_,_,_,h1,_⟩
     ·exact QZ h0
     ·cases h1
    rw [h0'] at hn;simp at hn;exact absurd hn h0
   |some a=>
    obtain ⟨b,ha⟩:∃b,a=⟨b,0,none⟩:=by
     rcases hr.2 with ⟨h1,_⟩|⟨b,_,_,h1,_⟩
     ·cases h1
     ·cases h1;exact ⟨b,rfl⟩
    subst ha;refine (vV (n:=n) hr (by omega) hn (by omega)).mono ?_;rintro r w' ⟨rfl,a1,a2⟩;exact ⟨_,_,_,rfl,fin _ _ a1 (a2.sub (fun k e=>by rw [e];rfl)) (.inl rfl)⟩
 have HP:Hid (∀(d:Dc) (V:World),Ra 166 #[.agg #[.int .u8 d.k,.string d.t,.int .i64 d.b,.int .i64 d.i,.bool d.e]] V fun e w'=>e=.returned (.bool (be d))/\Rc V w'):=vh;rw [hL] at ⊢;clear hv h s1 s2 hL hlt hl;have HT:Hid (∀n,n<=L.length->(∀x∈L.take n,be x=true)->(∀x,L[n]?=some x->be x=false)->L.takeWhile be=L.take n/\L.dropWhile be=L.drop n):=fun n a b c=>G1 be L n a b c
 go_enter Tryz.func131,Tryz.ntmps131
 go_wp2_with fail
 go_loopw [3] (fun i wr=>∃k:Nat,k<=L.length/\i=.int .i64 k/\Hid (∀x∈L.take k,be x=true)/\Hid (Below W.heap.size W wr)) (fun i _=>L.length-(intOf i).toNat)
 case atStart=>exact ⟨0,QK _,rfl,fun x hx=>by simp at hx,hH _ _⟩
 case round=>
  obtain ⟨k,hk,rfl,HI,HB⟩:=hrel;obtain ⟨x1,x2,x3⟩:=HV.out _ HB.out;have HL:Hid (Ld wr p L):=x3;clear x2 x3;have fin:∀w1,Hid (Below W.heap.size W w1)->(L.takeWhile be=L.take k/\L.dropWhile be=L.drop k)->True:=fun _ _ _=>trivial
  by_cases hlt:k<L.length
  ·have q1:(k:Int)<L.length:=by omega
   have q0:(0:Int)<=k:=by omega
   obtain ⟨x,hx⟩:∃x,L[k]?=some x:=⟨_,Pi hlt⟩;obtain ⟨b,off,rfl,c0,c1,c2,c3,c4⟩:=HL.out k x hx
   by_cases he:be x=true
   ·have HN:Hid (∀y∈L.take (k+1),be y=true):=fun y hy=>by
     rw [S5,hx] at hy
     rcases Q6.1 hy with hy|hy
     ·exact HI.out y hy
     ·simp at hy;rw [hy];exact he
    clear hx
    go_wp2_with (go_at_call 166;refine (HP.out x _).mono ?_;rintro e w1 ⟨rfl,hb1⟩;rw [he];have HC:Hid (Rc W w1):=HB.out.trans (hb1.mono HB.out.size);clear hb1)
    exact ⟨⟨k+1,hlt,by go_num,HN,HC⟩,by simp [intOf];omega⟩
   ·have he':be x=false:=by simpa using he
    have HW:Hid (L.takeWhile be=L.take k/\L.dropWhile be=L.drop k):=HT.out k hk HI.out (fun y hy=>by rw [hx] at hy;cases hy;exact he');have q3:(k:Int)<=cap:=by omega
    clear he hx fin
    go_wp2_with (first|(go_at_call 166;refine (HP.out x _).mono ?_;rintro e w1 ⟨rfl,hb1⟩;rw [he'];have HCW:Hid (Rc W w1):=HB.out.trans (hb1.mono HB.out.size);obtain ⟨z1,_,_⟩:=HV.out _ HCW.out;clear hb1)|(go_at_call 167;refine (HD.out k hk _ HCW.out).mono ?_;rintro e w2 ⟨v2,rfl,a1,a2,a3⟩;have HR:Hid (Rd w2 v2 (L.take k)/\Rc W w2/\∀k,v2.ownBlock=some k->W.heap.size<=k):=⟨a1,a2,a3⟩;obtain ⟨y1,_,_⟩:=HV.out _ a2;clear a1 a2 a3)|(go_at_call 168;refine (HE.out k hk HW.out _ _ HR.out.2.1 HR.out.1 HR.out.2.2).mono ?_;rintro e w3 ⟨p3,n3,c3,rfl,⟨y2,y3⟩,y4⟩;have HX:=ai y4;clear y4))
    go_ret
    exact ⟨_,rfl,HX.out⟩
  ·obtain rfl:k=L.length:=by omega
   have HW:Hid (L.takeWhile be=L.take L.length/\L.dropWhile be=L.drop L.length):=HT.out _ hk HI.out (fun y hy=>by simp at hy);have q1:¬((L.length:Int)<L.length):=by omega
   have q3:(L.length:Int)<=cap:=by omega
   have HCW:Hid (Rc W wr):=HB.out;clear fin
   go_wp2_with (first|(go_at_call 167;refine (HD.out L.length hk _ HCW.out).mono ?_;rintro e w2 ⟨v2,rfl,a1,a2,a3⟩;have HR:Hid (Rd w2 v2 (L.take L.length)/\Rc W w2/\∀k,v2.ownBlock=some k->W.heap.size<=k):=⟨a1,a2,a3⟩;obtain ⟨y1,_,_⟩:=HV.out _ a2;clear a1 a2 a3)|(go_at_call 168;refine (HE.out L.length hk HW.out _ _ HR.out.2.1 HR.out.1 HR.out.2.2).mono ?_;rintro e w3 ⟨p3,n3,c3,rfl,⟨y2,y3⟩,y4⟩;have HX:=ai y4;clear y4))
   go_ret
   exact ⟨_,rfl,HX.out⟩
theorem vo {S:Nat->Prop}{vn:Value}{p:Option Addr}{n0:Nat}(hv:SV W g st vn (.slice p n0 cap)) (hs:S g) (h1:∀k,vn.ownBlock=some k->S k) (h2:∀k,(Value.slice p n0 cap).ownBlock=some k->S k) (hl:st.ws.length<=1000000000) (d:Dc) {i:Nat}(hi:i<=st.ws.length) {V:World}(hb:Below W.heap.size W V) :
  Ra 133 #[.slice p n0 cap,.int .i64 i,.slice (some ⟨V.heap.size,0,none⟩) 1 1] (V.alloc (.cells #[.int .u8 d.k,.string d.t,.int .i64 d.b,.int .i64 d.i,.bool d.e] 71)) fun r w'=>∃p' n' c',r=.returned (.slice p' n' c')/\(w'.cell? ⟨g,2,none⟩=some (.slice p n0 cap)/\w'.frozen? ⟨g,2,none⟩=false)/\Mv S g W (w'.setCell ⟨g,2,none⟩ (.slice p' n' c')) { st with ws:=st.ws.take i++d :: st.ws.drop i }:=by
 have hb2:Below W.heap.size W (V.alloc (.cells #[.int .u8 d.k,.string d.t,.int .i64 d.b,.int .i64 d.i,.bool d.e] 71)):=hb.alloc hb.size _;have hq:=hv.below hb2;have hne:(Value.slice p n0 cap).ownBlock≠some V.heap.size:=fun e=>by have:=gX (hv.below hb).rd _ e;omega
 refine (xD d hq.rd hi (au V _) hne hl).mono ?_;rintro r w' ⟨v',rfl,a1,a2,a3⟩;obtain ⟨p',c',e,_⟩:=bB a1;obtain ⟨c1,c2⟩:=hv.ws hb2 a2 a1 a3;subst e;exact ⟨_,_,_,rfl,c1,c2.mv hv hs h1 h2⟩
theorem mz {S:Nat->Prop}(h:SS S W g st) (hl:st.ws.length<=1000000000) :
  Ra 78 #[bV g] W fun r w'=>r=.returned (.tuple #[])/\Mv S g W w' st.endl:=by
 obtain ⟨vn,vw,hv,s1,s2⟩:=h.ex;have hsg:=h.sg;obtain ⟨p,cap,e,hc1,hc2⟩:=bB hv.rd;subst e;obtain ⟨c0,c1,c2,c3,c4,c5,c6,c7⟩:=hv.sb.cells
 by_cases he:st.en=true
 ·have HA:Hid (Ra 127 #[bV g,.func (.func 132) #[] #[]] W fun r w'=>r=.returned (.bool (st.ws.any bD))/\Rc W w'):=Cr hv hl
  by_cases ha:st.ws.any bD=true
  ·have e9:st.endl=st:=by unfold Sy.endl;rw [Eq (by rw [ha];simp)]
   have HM:Hid (∀V,Rc W V->Mv S g W V st.endl):=fun V hb=>by rw [e9];exact Mv.quiet h hb
   rw [ha] at HA;rw [he] at c6;clear h hv s1 s2 e9
   go_enter Tryz.func78,Tryz.ntmps78
   go_wp2_with (go_at_call 127;refine HA.out.mono ?_;rintro r w1 ⟨rfl,hb1⟩;have HX:=show Hid (Mv S g W w1 st.endl) from HM.out _ hb1;clear hb1)
   go_end0
   exact ⟨rfl,HX.out⟩
  ·have ha':st.ws.any bD=false:=by simpa using ha
   have e9:st.endl={ st with ws:=st.ws.take 0++dH :: st.ws.drop 0 }:=by unfold Sy.endl;rw [IO ⟨he,ha'⟩];rfl
   have HC:Hid (∀V,Rc W V->V.cell? ⟨g,2,none⟩=some (.slice p st.ws.length cap)/\g<V.heap.size):=fun V hb=>⟨(hv.below hb).sb.cells.2.2.1,(hv.below hb).sb.lt⟩
   have HI:Hid (∀V,Rc W V->Ra 133 #[.slice p st.ws.length cap,.int .i64 0,.slice (some ⟨V.heap.size,0,none⟩) 1 1] (V.alloc (.cells #[.int .u8 4,.string ⟨#[]⟩,.int .i64 0,.int .i64 0,.bool false] 71)) fun r w'=>∃p' n' c',r=.returned (.slice p' n' c')/\(w'.cell? ⟨g,2,none⟩=some (.slice p st.ws.length cap)/\w'.frozen? ⟨g,2,none⟩=false)/\Mv S g W (w'.setCell ⟨g,2,none⟩ (.slice p' n' c')) st.endl):=fun V hb=>by rw [e9];exact vo hv hsg s1 s2 hl dH (i:=0) (QK _) hb
   rw [ha'] at HA;rw [he] at c6;clear h hv s1 s2 e9 ha ha' he
   go_enter Tryz.func78,Tryz.ntmps78
   go_wp2_with (first|(go_at_call 127;refine HA.out.mono ?_;rintro r w1 ⟨rfl,hb1⟩;have HB:=show Hid (Below W.heap.size W w1) from hb1;obtain ⟨x1,x2⟩:=HC.out _ hb1;clear hb1)|(go_at_call 133;refine (HI.out _ HB.out).mono ?_;rintro r w3 ⟨p3,n3,c3,rfl,⟨y2,y3⟩,y4⟩;have HX:=ai y4;clear y4))
   go_end0
   exact ⟨rfl,HX.out⟩
 ·have he':st.en=false:=by simpa using he
  have e9:st.endl=st:=by unfold Sy.endl;rw [Eq (by rw [he'];simp)]
  have HM:Hid (Mv S g W W st.endl):=by rw [e9];exact Mv.refl h
  rw [he'] at c6;clear h hv s1 s2 e9 he he'
  go_enter Tryz.func78,Tryz.ntmps78
  go_wp2_with fail
  go_end0
  exact ⟨rfl,HM.out⟩
end Go.Proofs.YtjiepkenkcgkhaaGreatDoor
