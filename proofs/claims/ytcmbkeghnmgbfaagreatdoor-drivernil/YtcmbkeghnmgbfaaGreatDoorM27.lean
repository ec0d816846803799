import Derived.Lib.Overlaps
import Derived.Lib.AppendZerosOnto
import Derived.Laws.Externs
import Derived.Lib.SliceRun
import Derived.Test.YtcmbkeghnmgbfaaGreatDoorM26
set_option linter.all false
set_option maxHeartbeats 4000000
set_option maxRecDepth 100000
namespace Go.Proofs.YtcmbkeghnmgbfaaGreatDoor
open Go.Proofs.Tryz
open Go.RowKit
open Lw (Dc bE rt cH cY iA me bD aQ bO)
variable {W w:World}{l:List Dc}{b cap i g:Nat}{st:Sy}{α:Type}{v:Value}{P:Program}{o:Oper}{a:Act}
theorem Kp.setRow (w:World) (g:Nat) (cs:Array Value):Kp (fun j=>j=g) w (w.setRow g cs):=
 ⟨rfl,rfl,rfl,by show _<=(w.setRow g cs).heap.size;simp[World.setRow],fun j F u=>setRow_other w g j cs u⟩
theorem gm:∃u,Tryz.prog.info? 151=some u/\u.zero=some (.agg #[.int .u8 0,.string ⟨#[]⟩,.int .i64 0,.int .i64 0,.bool false])/\u.size=5/\u.bytes=48:=LJ Tryz.info151
theorem iv:(Tryz.prog.info? 151).map (·.size)=some 5:=by
 obtain⟨G,F,_,u,_⟩:=gm;rw[F];simp[u]
theorem eE {W:World}{g:Nat}{cur:List Value}{t:TypeId}{f:Nat × Nat}(h:W.heap[g]?=some (.cells cur.toArray t f)) (o:Nat) (cs:List Value) (hc:∀j v,cs[j]?=some v->cur[o+j]?=some v):∀j v,cs[j]?=some v->W.cell? ((⟨g,o,none⟩:Addr).add j)=some v:=by
 intro j v u;rw[KV];simp[World.cell?,h,hc j v u]
theorem rI (l:List Dc) (k:Nat):(bD l).take (k*5)=bD (l.take k):=ez Dc.cs 5 Lw.Dc.cs_len k l
theorem lM (l:List Dc) (k:Nat):(bD l).drop (k*5)=bD (l.drop k):=bR Dc.cs 5 Lw.Dc.cs_len k l
theorem lL (d:Dc):bD [d]=[.int .u8 d.k,.string d.t,.int .i64 d.b,.int .i64 d.i,.bool d.e]:=by simp[bD,au,Dc.cs]
theorem pT (A Z D R:List α) (k m:Nat) (G:A.length=k) (F:D.length=m) (H:m+R.length<=Z.length) :
  ((A++Z).take k++D++(A++Z).drop (k+m)).take (k+m)++R++((A++Z).take k++D++(A++Z).drop (k+m)).drop (k+m+R.length)=A++D++R++Z.drop (m+R.length):=by
 subst G;subst F;rw[List.take_left,M6,Lu (by omega),LA,Nv];have u:(A++D).length=A.length+D.length:=Kf;rw[Lm (by omega),<-u,L6,M6,Lu (by omega),LA,Nv,M4]
theorem tP (d:Dc) {gv:Nat}(h:Rd W v l) (hg:W.heap[gv]?=some (.cells #[.int .u8 d.k,.string d.t,.int .i64 d.b,.int .i64 d.i,.bool d.e] 151 (0,0))) (hl:l.length<=1000000000) :
  Kb 118 #[v,.int .i64 l.length,.slice (some ⟨gv,0,none⟩) 1 1] W fun r w'=>∃v',r=.returned v'/\Rd w' v' (l++[d])/\Kp (fun k=>v.ownBlock=some k) W w'/\Nb W v v':=by
 obtain⟨p,cap,rfl,aa,I⟩:=bG h;have O:=ku h;have M:Hid (W.heap[gv]?=some (.cells (bD [d]).toArray 151 (0,0))):=by rw[lL];exact hg
 have q1:(0:Int)<=l.length:=by omega
 have q2:(cap:Int)<=9223372036854775807:=by unfold maxLen at I;omega
 clear h hg
 by_cases J:cap=l.length
 ·subst J
  go_enter func118,ntmps118
  go_wp2_with(at_builtin;refine nJ rfl _ _ rfl (.slice p l.length l.length) l [d] rfl O.out gv 1 rfl M.out (by simp;omega) ?_;intro v' w' u F G;have H:Hid (Rd w' v' (l++[d])/\Kp (fun k=>(Value.slice p l.length l.length).ownBlock=some k) W w'/\Nb W (.slice p l.length l.length) v'):=⟨u,(Kp.of_grown F).sub (fun k e=>e.symm),G⟩;clear u F G)
  go_ret
  exact⟨_,rfl,H.out⟩
 ·go_enter func118,ntmps118
  go_wp2_with(at_builtin;refine nJ rfl _ _ rfl (.slice p l.length cap) l [d] rfl O.out gv 1 rfl M.out (by simp;omega) ?_;intro v' w' u F G;have H:Hid (Rd w' v' (l++[d])/\Kp (fun k=>(Value.slice p l.length cap).ownBlock=some k) W w'/\Nb W (.slice p l.length cap) v'):=⟨u,(Kp.of_grown F).sub (fun k e=>e.symm),G⟩;clear u F G)
  go_ret
  exact⟨_,rfl,H.out⟩
theorem ri (d:Dc) {gv:Nat}(h:Rd W (.slice (some ⟨b,0,none⟩) l.length cap) l) (hi:i<l.length) (af:l.length+1<=cap) (hg:W.heap[gv]?=some (.cells #[.int .u8 d.k,.string d.t,.int .i64 d.b,.int .i64 d.i,.bool d.e] 151 (0,0))) (am:gv≠b) (hl:l.length<=1000000000) :
  Kb 118 #[.slice (some ⟨b,0,none⟩) l.length cap,.int .i64 i,.slice (some ⟨gv,0,none⟩) 1 1] W fun r w'=>∃v',r=.returned v'/\Rd w' v' (l.take i++d :: l.drop i)/\Kp (fun k=>k=b) W w'/\Nb W (.slice (some ⟨b,0,none⟩) l.length cap) v':=by
 obtain⟨u,hb,ad,F,O⟩:∃u:List Value,W.heap[b]?=some (.cells u.toArray 151 (0,0))/\cap<=maxLen/\u.length=cap*5/\u.take (l.length*5)=bD l:=by
  rcases h.2 with⟨h1,_⟩|⟨g,aq,u,h1,_,h3,_,h5,h6,h7⟩
  ·cases h1
  ·cases h1;exact⟨u.toList,by simpa using h3,h5,by simpa using h6,h7⟩
 obtain⟨n,hn⟩:∃n,l.length=n:=⟨_,rfl⟩;rw[hn]at hi af hl O;have ar:(cap:Int)<=9223372036854775807:=by unfold maxLen at ad;omega
 have hR:(bD (l.drop i)).length=(n-i)*5:=by rw[aQ,KB,hn]
 have H:∀ty dc sc,(Builtin.copy_ #[91,91] ty #[.slice (some ⟨b,(i+1)*5,none⟩) (n-i) dc,.slice (some ⟨b,i*5,none⟩) (n+1-i) sc]).run Tryz.prog W.drew=.ok (goInt ((n-i:Nat):Int)) (W.drew.setRow b (u.take ((i+1)*5)++bD (l.drop i)++u.drop ((i+1)*5+(bD (l.drop i)).length)).toArray):=fun ty dc sc=>by
  have hm:Nat.min (n+1-i) (n-i)=n-i:=by show min _ _=_;omega
  have:=ci (P:=Tryz.prog) W.drew 91 91 ty 151 5 b ((i+1)*5) (n-i) dc ⟨b,i*5,none⟩ (n+1-i) sc u.toArray 151 (bD (l.drop i)) underlying91 iv hb (by rw[hR,hm]) (eE (W:=W.drew) hb (i*5) _ (fun j v hj=>by
   rw[<-lM,KD,<-O,KI]at hj
   split at hj
   ·exact hj
   ·cases hj)) (by rw[hR];simp;omega) (bO _)
  rw[hm]at this
  simpa using this
 obtain⟨c1,G⟩:∃c1:List Value,u.take ((i+1)*5)++bD (l.drop i)++u.drop ((i+1)*5+(bD (l.drop i)).length)=c1:=⟨_,rfl⟩;rw[G]at H;have ak:c1.length=cap*5:=by rw[<-G];simp only[Kf,Kz,KB,hR,F];omega
 obtain⟨W1,J⟩:∃W1,W.drew.setRow b c1.toArray=W1:=⟨_,rfl⟩;rw[J]at H;have ac:W1.heap[b]?=some (.cells c1.toArray 151 (0,0)):=by rw[<-J];exact Na W.drew b _ _ _ _ hb
 have ae:Kp (fun k=>k=b) W W1:=by rw[<-J];exact((Kp.of_below ((gt _ W).drew)).step (Kp.setRow W.drew b c1.toArray) (fun _ _ h=>h))
 have ah:=ae.blk hg am
 have aa:∀ty dc,(Builtin.copy_ #[91,91] ty #[.slice (some ⟨b,i*5,none⟩) (n+1-i) dc,.slice (some ⟨gv,0,none⟩) 1 1]).run Tryz.prog W1=.ok (goInt 1) (W1.setRow b (c1.take (i*5)++bD [d]++c1.drop (i*5+5)).toArray):=fun ty dc=>by
  have hm:Nat.min 1 (n+1-i)=1:=by show min _ _=_;omega
  have:=ci (P:=Tryz.prog) W1 91 91 ty 151 5 b (i*5) (n+1-i) dc ⟨gv,0,none⟩ 1 1 c1.toArray 151 (bD [d]) underlying91 iv ac (by rw[aQ,hm];rfl) (eE (cur:=bD [d]) (by rw[lL];exact ah) 0 _ (fun j v hj=>by rw[Km];exact hj)) (by rw[aQ];simp;omega) (bO _);rw[hm]at this
  simpa[aQ]using this
 obtain⟨c2,M⟩:∃c2:List Value,c1.take (i*5)++bD [d]++c1.drop (i*5+5)=c2:=⟨_,rfl⟩;rw[M]at aa;have al:c2.length=cap*5:=by rw[<-M];simp only[Kf,Kz,KB,aQ,ak,List.length_cons,LB];omega
 have ai:Kp (fun k=>k=b) W (W1.setRow b c2.toArray):=ae.trans (Kp.setRow W1 b _);have ag:(W1.setRow b c2.toArray).heap[b]?=some (.cells c2.toArray 151 (0,0)):=Na W1 b _ _ _ _ ac
 have ab:c2.take ((n+1)*5)=bD (l.take i++d :: l.drop i):=by
  have e1:c1.take (i*5)=bD (l.take i):=by
   rw[<-G,Ks,Lm (by rw[Kz,F];omega),M5,LE (by omega),<-rI,<-O,M5,LE (by omega)]
  have e2:c1.drop (i*5+5)=bD (l.drop i)++u.drop ((i+1)*5+(bD (l.drop i)).length):=by
   rw[<-G,Ks,M6,Lu (by rw[Kz,F];omega),LA,Kz,F];rw[show i*5+5-min ((i+1)*5) (cap*5)=0 by omega,List.drop_zero]
  have e3:bD (l.take i++d :: l.drop i)=bD (l.take i)++(bD [d]++bD (l.drop i)):=by rw[fR,show d :: l.drop i=[d]++l.drop i from rfl,fR]
  rw[<-M,e1,e2,e3,Ks,<-Ks (bD [d]),<-Ks];rw[Lm (by simp only[Kf,aQ,Kz,KB,hn,List.length_cons,LB];omega)];rw[Ly (by simp only[Kf,aQ,Kz,KB,hn,List.length_cons,LB];omega)]
 have HX:Hid (Rd (W1.setRow b c2.toArray) (.slice (some ⟨b,0,none⟩) (n+1) cap) (l.take i++d :: l.drop i)/\Kp (fun k=>k=b) W (W1.setRow b c2.toArray)/\Nb W (.slice (some ⟨b,0,none⟩) n cap) (.slice (some ⟨b,0,none⟩) (n+1) cap)):=by
  have I:(l.take i++d :: l.drop i).length=n+1:=by simp[hn];omega
  refine⟨⟨by rw[aQ],.inr ⟨b,cap,c2.toArray,by rw[I],Kj _,ag,by rw[I];omega,ad,by simp[al],?_⟩⟩,ai,.inl rfl⟩;rw[I]
  simpa using ab
 have ap:∀lb cb,(callFunc 160 #[.slice (some ⟨gv,0,none⟩) 1 1,.slice (some ⟨b,(i+1)*5,none⟩) lb cb]).run Tryz.prog W=.ok (.value (.bool false)) W:=fun lb cb=>by
  have hz:∀w,(Go.sizeOf 151).run Tryz.prog w=.ok 5 w:=fun w=>by
   obtain⟨i0,an,_,h1,_⟩:=gm;simp[sizeOf,typeInfo,an,h1]
  rw[run_callFunc_extern func160 (by kernel_rfl) (by kernel_rfl) (by kernel_rfl) (e:=Extern.SlicesOverlaps.overlaps #[91,91] #[4]) (by kernel_rfl),
   Lib.run_overlaps_apart W 91 4 151 underlying91 5 hz ⟨gv,0,none⟩ ⟨b,(i+1)*5,none⟩ 1 1 lb cb am 151 151 5 (cap*5) (by simp[World.shape?,hg]) (by simp[World.shape?,hb,F]) (by omega) (aj hg) (aj hg)]
  rfl
 rw[hn];clear h hb ad F O hR G ak J ac ae ah M al ai ag ab hg hn;have z1:¬((i:Int)=(n:Int)):=by omega
 have z2:IntKind.i64.wrap ((n:Int)+1)=(n:Int)+1:=by rw[Ki];omega
 have z3:¬((cap:Int)<(n:Int)+1):=by omega
 have z4:IntKind.i64.wrap ((i:Int)+1)=(i:Int)+1:=by rw[Ki];omega
 have z5:¬(cap=i+1):=by omega
 have z6:¬(cap=i):=by omega
 have z7:((i:Int)+1).toNat=i+1:=by omega
 have z8:(0:Int)<=(i:Int)+1:=by omega
 have z9:(i:Int)<=(n:Int):=by omega
 have y1:(i:Int)<=(n:Int)+1:=by omega
 have y2:((n:Int)+1).toNat=n+1:=by omega
 have y3:(0:Int)<=(n:Int)+1:=by omega
 have y4:(n:Int)+1<=(cap:Int):=by omega
 have y5:(i:Int)+1<=(n:Int)+1:=by omega
 go_enter func118,ntmps118
 go_wp2_with(simp only[ap])
 go_region_law (refine step_copy_r rfl _ _ 91 91 rfl _ _ (by simp[Act.eval,Act.put]) (by simp[Act.eval,Act.put]) (H _ _ _) ?_)
 go_wp2_with(at_builtin;refine wpList_copy_r _ rfl _ _ 91 91 rfl _ _ rfl rfl (aa _ _) ?_)
 go_ret
 exact⟨_,rfl,HX.out⟩
theorem jV (w:World) {F:Array Oper}{rest:List Oper}{o:Oper}{a:Act}{Q:Exit->Act->World->Prop}(G:o.guard=none) (d s:Operand) (t H:TypeId)
  (J:o.op=.call { callee:=.builtin .append,args:=#[d,s],argTypes:=#[t,H] }) (v u:Value) (hd:a.eval d=v) (O:a.eval s=u) {v':Value} {w':World}
  (M:(Builtin.append_ #[t,H] o.type #[v,u]).run P w=.ok v' w') (h:wpList P F Q rest (a.put o.dst v') w'):wpList P F Q (o :: rest) a w:=by
 refine wpList_plain G fun _ I=>?_
 unfold Oper.wp execOp;simp only[J,resolve,invoke,builtin,NM,Sem.run_pure,Result.andThen_ok,List.map_toArray,Np,List.map_nil,hd,O,M];exact I _ _ h
theorem rj (d:Dc) {gv:Nat}(h:Rd W (.slice (some ⟨b,0,none⟩) l.length cap) l) (hi:i<l.length) (I:¬l.length+1<=cap) (hg:W.heap[gv]?=some (.cells #[.int .u8 d.k,.string d.t,.int .i64 d.b,.int .i64 d.i,.bool d.e] 151 (0,0))) (hl:l.length<=1000000000) :
  Kb 118 #[.slice (some ⟨b,0,none⟩) l.length cap,.int .i64 i,.slice (some ⟨gv,0,none⟩) 1 1] W fun r w'=>∃v',r=.returned v'/\Rd w' v' (l.take i++d :: l.drop i)/\Kp (fun k=>k=b) W w'/\Nb W (.slice (some ⟨b,0,none⟩) l.length cap) v':=by
 obtain⟨u,hb,bg,au,bh,ak⟩:∃u:List Value,W.heap[b]?=some (.cells u.toArray 151 (0,0))/\cap<=maxLen/\l.length<=cap/\u.length=cap*5/\u.take (l.length*5)=bD l:=by
  rcases h.2 with⟨h1,_⟩|⟨g,bj,u,h1,_,h3,h4,h5,h6,h7⟩
  ·cases h1
  ·cases h1;exact⟨u.toList,by simpa using h3,h5,h4,by simpa using h6,h7⟩
 obtain⟨n,hn⟩:∃n,l.length=n:=⟨_,rfl⟩;rw[hn]at hi I hl ak au;obtain rfl:cap=n:=by omega
 have be:u=bD l:=by rw[<-ak,Ly (by omega)]
 subst be;clear ak au I;obtain⟨i0,aw,bd,al,an⟩:=gm;have hA:(bD (l.take i)).length=i*5:=by rw[aQ,Kz,hn];congr 1;omega
 have hR:(bD (l.drop i)).length=(cap-i)*5:=by rw[aQ,KB,hn]
 have aa:∀F,(Builtin.append_ #[91,3] F #[.slice (some ⟨b,0,none⟩) i cap,.int .i64 ((cap+1-i:Nat):Int)]).run Tryz.prog W=.ok (.slice (some ⟨W.heap.size,0,none⟩) (cap+1) (grownCap W (cap+1) cap 151))
    (W.drew.alloc (.cells ((bD (l.take i)).toArray++Builtin.zeroCells (Value.agg #[.int .u8 0,.string ⟨#[]⟩,.int .i64 0,.int .i64 0,.bool false]).cells (cap+1-i)++Builtin.zeroCells (Value.agg #[.int .u8 0,.string ⟨#[]⟩,.int .i64 0,.int .i64 0,.bool false]).cells (grownCap W (cap+1) cap 151-(cap+1))) 151)):=fun F=>by
  have h1:(Builtin.firstCells i0.size i (.slice (some ⟨b,0,none⟩) i cap)).run Tryz.prog W.drew=.ok (bD (l.take i)).toArray W.drew:=by
   rw[al];refine run_firstCells_some (w:=W.drew) 5 i ⟨b,0,none⟩ i cap (bD (l.take i)) hA (eE (W:=W.drew) hb 0 _ (fun j v J=>?_));rw[Km];rw[<-rI,KI]at J
   split at J
   ·exact J
   ·cases J
  have:=Lib.run_append_grow_zeros (P:=Tryz.prog) W 91 3 F 151 i0 _ .i64 .i64 underlying91 underlying3 aw bd (some ⟨b,0,none⟩) i cap (bD (l.take i)) h1 (cap+1-i) (by omega) (by rw[al];omega) (by omega) (by omega) (by rw[an];omega) (by rw[an];exact growslice_fits (by omega) (by omega));rw[show i+(cap+1-i)=cap+1 by omega]at this;exact this
 obtain⟨C,hC⟩:∃C,grownCap W (cap+1) cap 151=C:=⟨_,rfl⟩;have bk:cap+1<=C:=by rw[<-hC];exact grownCap_ge _ _ _ _
 have ap:C<=maxLen:=by rw[<-hC];exact grownCap_le_maxLen _ _ _ _ (by unfold maxLen;omega)
 rw[hC]at aa;obtain⟨Z,hZ⟩:∃Z:List Value,(Builtin.zeroCells (Value.agg #[.int .u8 0,.string ⟨#[]⟩,.int .i64 0,.int .i64 0,.bool false]).cells (cap+1-i)++Builtin.zeroCells (Value.agg #[.int .u8 0,.string ⟨#[]⟩,.int .i64 0,.int .i64 0,.bool false]).cells (C-(cap+1))).toList=Z:=⟨_,rfl⟩
 have O:Z.length=(C-i)*5:=by
  rw[<-hZ,KY,Array.size_append,size_zeroCells,size_zeroCells];show(cap+1-i)*5+(C-(cap+1))*5=_;omega
 have aq:(bD (l.take i)).toArray++Builtin.zeroCells (Value.agg #[.int .u8 0,.string ⟨#[]⟩,.int .i64 0,.int .i64 0,.bool false]).cells (cap+1-i)++Builtin.zeroCells (Value.agg #[.int .u8 0,.string ⟨#[]⟩,.int .i64 0,.int .i64 0,.bool false]).cells (C-(cap+1))=(bD (l.take i)++Z).toArray:=by
  rw[Array.append_assoc]
  apply L4.1
  rw[Array.toList_append,hZ]
 rw[aq]at aa;clear hZ aq;obtain⟨N,hN⟩:∃N,W.heap.size=N:=⟨_,rfl⟩;obtain⟨W0,hW0⟩:∃W0,W.drew.alloc (.cells (bD (l.take i)++Z).toArray 151)=W0:=⟨_,rfl⟩;rw[hW0,hN]at aa;have M:Below W.heap.size W W0:=by rw[<-hW0];exact((gt _ W).drew).alloc (ge _) _
 have ah:W0.heap[N]?=some (.cells (bD (l.take i)++Z).toArray 151 (0,0)):=by rw[<-hW0,<-hN];exact am W.drew _
 have bi:gv<N:=by rw[<-hN];exact ai hg
 have bf:b<N:=by rw[<-hN];exact ai hb
 have av:=af hg M;have bb:=af hb M
 have H:∀F dc,(Builtin.copy_ #[91,91] F #[.slice (some ⟨N,i*5,none⟩) (cap+1-i) dc,.slice (some ⟨gv,0,none⟩) 1 1]).run Tryz.prog W0=.ok (goInt 1) (W0.setRow N ((bD (l.take i)++Z).take (i*5)++bD [d]++(bD (l.take i)++Z).drop (i*5+5)).toArray):=fun F dc=>by
  have hm:Nat.min 1 (cap+1-i)=1:=by show min _ _=_;omega
  have:=ci (P:=Tryz.prog) W0 91 91 F 151 5 N (i*5) (cap+1-i) dc ⟨gv,0,none⟩ 1 1 (bD (l.take i)++Z).toArray 151 (bD [d]) underlying91 iv ah (by rw[aQ,hm];rfl) (eE (cur:=bD [d]) (by rw[lL];exact av) 0 _ (fun j v J=>by rw[Km];exact J)) (by rw[aQ];simp[hA,O];omega) (bO _);rw[hm]at this
  simpa[aQ]using this
 obtain⟨c1,ab⟩:∃c1:List Value,(bD (l.take i)++Z).take (i*5)++bD [d]++(bD (l.take i)++Z).drop (i*5+5)=c1:=⟨_,rfl⟩;rw[ab]at H;have az:c1.length=C*5:=by rw[<-ab];simp only[Kf,Kz,KB,aQ,hA,O,List.length_cons,LB,hn];omega
 obtain⟨W1,G⟩:∃W1,W0.setRow N c1.toArray=W1:=⟨_,rfl⟩;rw[G]at H;have aj:W1.heap[N]?=some (.cells c1.toArray 151 (0,0)):=by rw[<-G];exact Na W0 N _ _ _ _ ah
 have ax:Kp (fun k=>k=b) W W1:=by rw[<-G];exact(Kp.of_below M).step (Kp.setRow W0 N c1.toArray) (fun k hk e=>by omega)
 have bc:W1.heap[b]?=some (.cells (bD l).toArray 151 (0,0)):=by rw[<-G,setRow_other W0 N b _ (by omega)];exact bb
 have ad:∀F dc sc,(Builtin.copy_ #[91,91] F #[.slice (some ⟨N,(i+1)*5,none⟩) (cap-i) dc,.slice (some ⟨b,i*5,none⟩) (cap-i) sc]).run Tryz.prog W1.drew=.ok (goInt ((cap-i:Nat):Int)) (W1.drew.setRow N (c1.take ((i+1)*5)++bD (l.drop i)++c1.drop ((i+1)*5+(bD (l.drop i)).length)).toArray):=fun F dc sc=>by
  have hm:Nat.min (cap-i) (cap-i)=cap-i:=by show min _ _=_;omega
  have:=ci (P:=Tryz.prog) W1.drew 91 91 F 151 5 N ((i+1)*5) (cap-i) dc ⟨b,i*5,none⟩ (cap-i) sc c1.toArray 151 (bD (l.drop i)) underlying91 iv aj (by rw[hR,hm]) (eE (W:=W1.drew) bc (i*5) _ (fun j v J=>by rw[<-lM,KD]at J;exact J)) (by rw[hR];simp;omega) (bO _);rw[hm]at this
  simpa using this
 obtain⟨c2,ac⟩:∃c2:List Value,c1.take ((i+1)*5)++bD (l.drop i)++c1.drop ((i+1)*5+(bD (l.drop i)).length)=c2:=⟨_,rfl⟩;rw[ac]at ad
 have ae:c2=bD (l.take i++d :: l.drop i)++Z.drop (5+(bD (l.drop i)).length):=by
  have e3:bD (l.take i++d :: l.drop i)=bD (l.take i)++bD [d]++bD (l.drop i):=by rw[fR,show d :: l.drop i=[d]++l.drop i from rfl,fR,Ks]
  have:=pT (bD (l.take i)) Z (bD [d]) (bD (l.drop i)) (i*5) 5 hA (by rw[aQ];rfl) (by rw[hR,O];omega);rw[ab,show i*5+5=(i+1)*5 by omega,ac]at this;rw[this,e3]
 have ba:c2.length=C*5:=by rw[<-ac];simp only[Kf,Kz,KB,hR,az];omega
 have ay:Kp (fun k=>k=b) W (W1.drew.setRow N c2.toArray):=(ax.step (Kp.of_below (S:=fun _=>False) ((gt _ W1).drew)) (fun _ _ h=>h.elim)).step (Kp.setRow W1.drew N _) (fun k hk e=>by omega);have ar:(W1.drew.setRow N c2.toArray).heap[N]?=some (.cells c2.toArray 151 (0,0)):=Na W1.drew N _ _ _ _ aj
 have HX:Hid (Rd (W1.drew.setRow N c2.toArray) (.slice (some ⟨N,0,none⟩) (cap+1) C) (l.take i++d :: l.drop i)/\Kp (fun k=>k=b) W (W1.drew.setRow N c2.toArray)/\Nb W (.slice (some ⟨b,0,none⟩) cap cap) (.slice (some ⟨N,0,none⟩) (cap+1) C)):=by
  have ag:(l.take i++d :: l.drop i).length=cap+1:=by simp[hn];omega
  refine⟨⟨by rw[aQ],.inr ⟨N,C,c2.toArray,by rw[ag],Kj _,ar,by rw[ag];omega,ap,by simp[ba],?_⟩⟩,ay,.inr ⟨N,rfl,by omega⟩⟩;rw[ae,N6 (by rw[aQ])]
 rw[hn];clear h hb bg bh hR ab az G aj ax ac ba ay ar ae hg hn hC aw bd al an hA O hN hW0 M ah av bb bc ap bi bf;have z1:¬((i:Int)=(cap:Int)):=by omega
 have z2:IntKind.i64.wrap ((cap:Int)+1)=(cap:Int)+1:=by rw[Ki];omega
 have z3:(cap:Int)<(cap:Int)+1:=by omega
 have z4:IntKind.i64.wrap ((i:Int)+1)=(i:Int)+1:=by rw[Ki];omega
 have z5:¬(C=i+1):=by omega
 have z6:¬(cap=i):=by omega
 have z7:((i:Int)+1).toNat=i+1:=by omega
 have z8:(0:Int)<=(i:Int)+1:=by omega
 have z9:(i:Int)<=(cap:Int):=by omega
 have y1:IntKind.i64.wrap ((cap:Int)+1-(i:Int))=((cap+1-i:Nat):Int):=by rw[Ki];omega
 have y2:¬(C=i):=by omega
 have y3:(i:Int)<=(cap:Int)+1:=by omega
 have y5:(i:Int)+1<=(cap:Int)+1:=by omega
 go_enter func118,ntmps118
 go_wp2_with(first|(at_builtin;refine jV _ rfl _ _ 91 3 rfl _ _ rfl rfl (aa _) ?_)|(at_builtin;refine wpList_copy_r _ rfl _ _ 91 91 rfl _ _ rfl rfl (H _ _) ?_))
 go_region_law (refine step_copy_r rfl _ _ 91 91 rfl _ _ (by simp[Act.eval,Act.put]) (by simp[Act.eval,Act.put]) (ad _ _ _) ?_)
 go_wp2_with fail
 go_ret
 exact⟨_,rfl,HX.out⟩
theorem tQ (d:Dc) {gv:Nat}(h:Rd W v l) (hi:i<=l.length) (J:W.heap[gv]?=some (.cells #[.int .u8 d.k,.string d.t,.int .i64 d.b,.int .i64 d.i,.bool d.e] 151 (0,0))) (M:v.ownBlock≠some gv) (hl:l.length<=1000000000) :
  Kb 118 #[v,.int .i64 i,.slice (some ⟨gv,0,none⟩) 1 1] W fun r w'=>∃v',r=.returned v'/\Rd w' v' (l.take i++d :: l.drop i)/\Kp (fun k=>v.ownBlock=some k) W w'/\Nb W v v':=by
 by_cases h1:i=l.length
 ·subst h1;rw[L6,LT];exact tP d h J hl
 ·have O:i<l.length:=by omega
  rcases h.2 with⟨h3,h4⟩|⟨b,cap,aa,rfl,_⟩
  ·omega
  ·have u:gv≠b:=fun e=>M (by rw[e];rfl)
   by_cases h5:l.length+1<=cap
   ·refine(ri d h O h5 J u hl).mono ?_;rintro r w'⟨v',F,G,H,I⟩;exact⟨v',F,G,H.sub (fun k e=>by rw[e];rfl),I⟩
   ·refine(rj d h O h5 J hl).mono ?_;rintro r w'⟨v',F,G,H,I⟩;exact⟨v',F,G,H.sub (fun k e=>by rw[e];rfl),I⟩
theorem gX {F:Array Oper}{K:Act->World->Prop}{Q:Exit->Act->World->Prop}{E:Prop}
  (J:o.guard=none) (d x:Operand) (dT H:TypeId) (G:o.op=Op.call { callee:=Callee.builtin Builtin.append,args:=#[d,x],argTypes:=#[dT,H] })
  (v u:Value) (hd:a.eval d=v) (hx:a.eval x=u) {v':Value} {w':World} (M:(Builtin.append_ #[dT,H] o.type #[v,u]).run P w=.ok v' w') (I:K (a.put o.dst v') w') :
  if Region.wanted o (yielded F a.tmps)=true then Oper.wp P o a w K Q else E:=by
 have O:Region.wanted o (yielded F a.tmps)=true:=by simp[Region.wanted,J]
 rw[Kd O];unfold Oper.wp;simp[execOp,G,resolve,invoke,builtin,hd,hx,M,Result.andThen];exact I
theorem mc (w:World) (b o n:Nat) (hn:0<n) (cur:List Value) (hb:w.heap[b]?=some (.cells cur.toArray 151 (0,0))) (ho:o+n*5<=cur.length) :
  ∃c2:List Value,(∀ty c,(Builtin.clear_ #[91] ty #[.slice (some ⟨b,o,none⟩) n c]).run Tryz.prog w=.ok (.tuple #[]) (w.setRow b c2.toArray))/\c2.length=cur.length/\c2.take o=cur.take o:=by
 obtain⟨i0,J,M,aa,ab⟩:=gm;have hz:∀w,(zeroValue 151).run Tryz.prog w=.ok (.agg #[.int .u8 0,.string ⟨#[]⟩,.int .i64 0,.int .i64 0,.bool false]) w:=fun w=>by simp[zeroValue,typeInfo,J,M]
 obtain⟨Z,G⟩:∃Z:List Value,(Builtin.zeroCells (Value.agg #[.int .u8 0,.string ⟨#[]⟩,.int .i64 0,.int .i64 0,.bool false]).cells n).toList=Z:=⟨_,rfl⟩;have u:Z.length=n*5:=by rw[<-G,KY,size_zeroCells];rfl
 have I:∀v∈Z,v.oneCell'=true:=by
  intro v H;rw[<-G]at H;rw[Builtin.zeroCells,Array.mem_toList_iff,Array.mem_map]at H;obtain⟨k,_,rfl⟩:=H;have O:k % 5<5:=LU _ (by omega);show Value.oneCell' (#[Value.int .u8 0,.string ⟨#[]⟩,.int .i64 0,.int .i64 0,.bool false][k % 5]!)=true
  generalize k % 5=q at O
  match q,O with
  |0,_=>rfl
  |1,_=>rfl
  |2,_=>rfl
  |3,_=>rfl
  |4,_=>rfl
 have F:=OC Tryz.prog b o 151 Z 0 cur.toArray w hb (by rw[u];simpa using ho) I;refine⟨cur.take o++Z++cur.drop (o+Z.length),?_,?_,?_⟩
 ·intro ty c;obtain⟨m,rfl⟩:∃m,n=m+1:=⟨n-1,by omega⟩;simp only[K0]at F;simp[Builtin.clear_,NL underlying91,hz,G,F]
 ·simp only[Kf,Kz,KB,u];omega
 ·rw[Ks,Lm (by rw[Kz];omega),M5,Nat.min_self]
theorem cy {S:Nat->Prop}{B:Nat}{w W W':World}(h:Below B w W) (u:Kp S W W') (H:∀k,S k->B<=k) (G:B<=W.heap.size):Below B w W':=
 ⟨u.os.trans h.os,u.tape.trans h.tape,u.output.trans h.output,Kh h.size u.size,fun k F=>(u.block k (Kl F G) (fun I=>by have:=H k I;omega)).trans (h.block k F)⟩
theorem DN (W:World):Rd (W.alloc (.cells #[] 151)) (.slice (some ⟨W.heap.size,0,none⟩) 0 0) []:=
 ⟨rfl,.inr ⟨_,0,#[],rfl,Kj _,am W _,ge _,Kj _,rfl,rfl⟩⟩
theorem Ib {H:Array Oper}{rest:List Oper}{Q:Exit->Act->World->Prop}(I:o.guard=none) (s x:Operand)
  (ho:o.op=.call { callee:=.builtin .append,args:=#[s,x],argTypes:=#[91,91] }) (v:Value) (l F:List Dc) (hs:a.eval s=v) (hr:Rd W v l)
  (ad:Addr) (c:Nat) (hx:a.eval x=.slice (some ad) F.length c) (hc:∀j u,(bD F)[j]?=some u->W.cell? (ad.add j)=some u) (hl:l.length+F.length<=2000000000)
  (h:∀v' w',Rd w' v' (l++F)->W.grownBy w' v.ownBlock->Nb W v v'->wpList Tryz.prog H Q rest (a.put o.dst v') w'):wpList Tryz.prog H Q (o :: rest) a W:=by
 obtain⟨i0,hi,J,M,O⟩:=LJ Tryz.info151;refine L7 (P:=Tryz.prog) (w:=W) I s x 91 ho 0 151 i0 _ 5 48 underlying91 hi J M O rfl (by decide) v _ _ hs hr ad F.length c (bD F) hx (by rw[aQ]) hc (bO F) (by unfold maxLen;omega) (by omega) (Kj _) ?_;intro v' w' h1 h2 _ G;refine h v' w' ?_ h2 ?_
 ·unfold Rd;rw[Kf,fR];exact h1
 ·rcases G with G|G
  ·exact .inl G
  ·exact .inr ⟨_,G,ge _⟩
theorem AY (h:Ld w (some ⟨b,0,none⟩) l):∀j u,(bD l)[j]?=some u->w.cell? ((⟨b,0,none⟩:Addr).add j)=some u:=by
 intro j u I;have J:j<l.length*5:=by rw[<-aQ];exact(Kq.1 I).1
 obtain⟨d,hd⟩:∃d,l[j / 5]?=some d:=⟨_,Ke (by omega)⟩;obtain⟨b',off,e,c0,c1,c2,c3,c4⟩:=h _ d hd;cases e;have F:(bD l)[j / 5*5+j % 5]?=some u:=by rw[show j / 5*5+j % 5=j by omega];exact I
 have H:j % 5<5:=LU _ (by omega);rw[KV];have G:(0:Nat)+j=0+j / 5*5+j % 5:=by omega
 rw[G]
 generalize j % 5=q at F H ⊢
 match q,H with
 |0,_=>rw[show(bD l)[j / 5*5+0]?=_ from aO Dc.cs 5 Lw.Dc.cs_len l _ 0 _ _ hd rfl]at F;cases F;exact c0
 |1,_=>rw[show(bD l)[j / 5*5+1]?=_ from aO Dc.cs 5 Lw.Dc.cs_len l _ 1 _ _ hd rfl]at F;cases F;exact c1
 |2,_=>rw[show(bD l)[j / 5*5+2]?=_ from aO Dc.cs 5 Lw.Dc.cs_len l _ 2 _ _ hd rfl]at F;cases F;exact c2
 |3,_=>rw[show(bD l)[j / 5*5+3]?=_ from aO Dc.cs 5 Lw.Dc.cs_len l _ 3 _ _ hd rfl]at F;cases F;exact c3
 |4,_=>rw[show(bD l)[j / 5*5+4]?=_ from aO Dc.cs 5 Lw.Dc.cs_len l _ 4 _ _ hd rfl]at F;cases F;exact c4
theorem yJ (W:World) (n c:Nat):Kb 172 #[.slice none n c] W fun r w'=>r=.returned (.slice none 0 0)/\w'=W:=by
 have u:(binOp .eql 91 (.slice none n c) (.slice none 0 0)).run Tryz.prog W=.ok (.bool true) W:=Lib.run_eql_slice_nil W _ _ none n c 0 0 underlying91
 go_enter func172,ntmps172
 go_wp2_with fail
 go_ret
 exact⟨rfl,rfl⟩
theorem ug {W:World}{b cap:Nat}{l:List Dc}(h:Ld W (some ⟨b,0,none⟩) l) (hl:l.length<=1000000000):Kb 172 #[.slice (some ⟨b,0,none⟩) l.length cap] W fun r w'=>∃v',r=.returned v'/\Rd w' v' l/\Below W.heap.size W w'/\∀k,v'.ownBlock=some k->W.heap.size<=k:=by
 have I:Hid (Below W.heap.size W (W.alloc (.cells #[] 151))):=(gt _ _).alloc (ge _) _;have HC:Hid (∀j u,(bD l)[j]?=some u->(W.alloc (.cells #[] 151)).cell? ((⟨b,0,none⟩:Addr).add j)=some u):=AY (h.below I.out);have M:=ku (DN W);have hs:(W.alloc (.cells #[] 151)).heap.size=W.heap.size+1:=by show(W.heap.push _).size=_;simp
 have J:Hid (∀v' w',Rd w' v' ([]++l)->(W.alloc (.cells #[] 151)).grownBy w' (some W.heap.size)->Nb (W.alloc (.cells #[] 151)) (.slice (some ⟨W.heap.size,0,none⟩) 0 0) v'->Rd w' v' l/\Below W.heap.size W w'/\∀k,v'.ownBlock=some k->W.heap.size<=k):=fun v' w' G H F=>by
  refine⟨G,cy I.out (Kp.of_grown H) (fun k e=>by cases e;exact ge _) I.out.size ,fun k e=>?_⟩
  rcases F with F|⟨q,hq,aa⟩
  ·rw[F]at e;cases e;exact ge _
  ·rw[hq]at e;cases e;omega
 have hE:(binOp .eql 91 (.slice (some ⟨b,0,none⟩) l.length cap) (.slice none 0 0)).run Tryz.prog W=.ok (.bool false) W:=Lib.run_eql_slice_nil W _ _ (some ⟨b,0,none⟩) l.length cap 0 0 underlying91;clear h hs
 go_enter func172,ntmps172
 go_wp2_with(at_builtin;refine Ib rfl _ _ rfl (.slice (some ⟨W.heap.size,0,none⟩) 0 0) [] l rfl M.out ⟨b,0,none⟩ _ rfl HC.out (by simp;omega) ?_;intro v' w' G H F;have O:=show Hid _ from J.out v' w' G H F;clear G H F)
 go_ret
 exact⟨_,rfl,O.out⟩
theorem rH (v:Value) {l:List Dc}(h:Rd W v l) (hl:l.length<=1000000000):Kb 173 #[v,.int .i64 0,.int .i64 0] W fun r w'=>r=.returned v/\w'=W:=by
 obtain⟨p,cap,rfl,F,u⟩:=bG h;have G:(l.length:Int)<=(cap:Int):=by omega
 clear h u;cases p
 all_goals(
  go_enter func173,ntmps173
  go_wp2_with fail
  all_goals(go_ret;exact⟨rfl,rfl⟩))
theorem rG {W:World}{b cap n:Nat}{l:List Dc}(h:Rd W (.slice (some ⟨b,0,none⟩) l.length cap) l) (al:0<n) (am:n<=l.length) (hl:l.length<=1000000000) :
  Kb 173 #[.slice (some ⟨b,0,none⟩) l.length cap,.int .i64 0,.int .i64 n] W fun r w'=>r=.returned (.slice (some ⟨b,0,none⟩) (l.length-n) cap)/\Rd w' (.slice (some ⟨b,0,none⟩) (l.length-n) cap) (l.drop n)/\Kp (fun k=>k=b) W w':=by
 obtain⟨F,hb,af,aj,ag,ae⟩:∃F:List Value,W.heap[b]?=some (.cells F.toArray 151 (0,0))/\cap<=maxLen/\l.length<=cap/\F.length=cap*5/\F.take (l.length*5)=bD l:=by
  rcases h.2 with⟨h1,_⟩|⟨g,an,F,h1,_,h3,h4,h5,h6,h7⟩
  ·cases h1
  ·cases h1;exact⟨F.toList,by simpa using h3,h5,h4,by simpa using h6,h7⟩
 obtain⟨m,hm⟩:∃m,l.length=m:=⟨_,rfl⟩;rw[hm]at am hl aj ae ⊢;obtain⟨i0,hi0,hz0,hz1,hz2⟩:=gm;have hR:(bD (l.drop n)).length=(m-n)*5:=by rw[aQ,KB,hm]
 obtain⟨ad,G⟩:∃ad:Nat,(if cap=n then 0 else n*5)=ad:=⟨_,rfl⟩
 have aa:∀j u,(bD (l.drop n))[j]?=some u->W.cell? ((⟨b,ad,none⟩:Addr).add j)=some u:=by
  refine eE hb ad _ (fun j v hj=>?_);have ak:=(Kq.1 hj).1;rw[hR]at ak;rw[<-G,IO (by omega)];rw[<-lM,KD,<-ae,KI]at hj
  split at hj
  ·exact hj
  ·cases hj
 have H:∀ty c,(Builtin.append_ #[91,91] ty #[.slice (some ⟨b,0,none⟩) 0 cap,.slice (some ⟨b,ad,none⟩) (m-n) c]).run Tryz.prog W.drew=.ok (.slice (some ⟨b,0,none⟩) (m-n) cap) (W.drew.setRow b (bD (l.drop n)++F.drop ((m-n)*5)).toArray):=fun ty c=>by
  have:=run_append_room (P:=Tryz.prog) W.drew 91 ty 151 i0 underlying91 hi0 b 0 cap F.toArray hb ⟨b,ad,none⟩ (m-n) c (bD (l.drop n)) (by rw[hR,hz1]) aa (bO _) (by omega) (by rw[hR];simp;omega)
  simpa[hR]using this
 obtain⟨c1,O⟩:∃c1:List Value,bD (l.drop n)++F.drop ((m-n)*5)=c1:=⟨_,rfl⟩;rw[O]at H;have ai:c1.length=cap*5:=by rw[<-O,Kf,KB,hR,ag];omega
 obtain⟨W1,M⟩:∃W1,W.drew.setRow b c1.toArray=W1:=⟨_,rfl⟩;rw[M]at H;have ab:W1.heap[b]?=some (.cells c1.toArray 151 (0,0)):=by rw[<-M];exact Na W.drew b _ _ _ _ hb
 have ah:Kp (fun k=>k=b) W W1:=by rw[<-M];exact((Kp.of_below ((gt _ W).drew)).step (Kp.setRow W.drew b c1.toArray) (fun _ _ h=>h))
 obtain⟨c2,I,h1,h2⟩:=mc W1 b ((m-n)*5) n al c1 ab (by omega)
 have HX:Hid (Rd (W1.setRow b c2.toArray) (.slice (some ⟨b,0,none⟩) (m-n) cap) (l.drop n)/\Kp (fun k=>k=b) W (W1.setRow b c2.toArray)):=by
  have J:(l.drop n).length=m-n:=by rw[KB,hm]
  refine⟨⟨by rw[aQ],.inr ⟨b,cap,c2.toArray,by rw[J],Kj _,Na W1 b _ _ _ _ ab,by rw[J];omega,af,by simp[h1,ai],?_⟩⟩,ah.trans (Kp.setRow W1 b _)⟩;rw[J];show c2.take _=_;rw[h2,<-O,N6 hR]
 have ap:(if cap=n then(⟨b,0,none⟩:Addr)else⟨b,n*5,none⟩)=⟨b,ad,none⟩:=by rw[<-G];split<;>rfl
 clear h1 h2 h hb af ag hR O ai M ab ah ae hi0 hz0 hz1 hz2 aa hm;have z1:¬((0:Int)=(n:Int)):=by omega
 have z2:(0:Int)<=(n:Int):=by omega
 have z3:(n:Int)<=(m:Int):=by omega
 have z4:(m:Int)<=(cap:Int):=by omega
 have z5:((m-n:Nat):Int)<=(m:Int):=by omega
 have z6:¬(cap=m-n):=by omega
 have z7:m-(m-n)=n:=by omega
 have z8:(n:Int)<=(cap:Int):=by omega
 by_cases ac:cap=n
 ·rw[Kd ac]at G;subst G;have e0:m=n:=by omega
  subst e0;subst ac;clear z3 z4 z5 z7 z8;have z9:cap-cap=0:=by omega
  rw[z9]at H I HX ⊢
  go_enter func173,ntmps173
  go_wp2_with fail
  go_region_law (refine gX (by rfl) _ _ 91 91 (by rfl) (.slice (some ⟨b,0,none⟩) 0 cap) (.slice (some ⟨b,0,none⟩) 0 0) (by simp[Act.eval,Act.put]) (by simp[Act.eval,Act.put]) (H _ _) ?_)
  all_goals(
   go_wp2_with(at_builtin;refine wpList_clear_r _ (by rfl) _ 91 (by rfl) (.slice (some ⟨b,0*5,none⟩) cap _) (by rfl) (I _ _) ?_)
   go_ret
   exact⟨rfl,HX.out⟩)
 ·rw[IO ac]at G;subst G
  go_enter func173,ntmps173
  go_wp2_with fail
  go_region_law (refine gX (by rfl) _ _ 91 91 (by rfl) (.slice (some ⟨b,0,none⟩) 0 cap) (.slice (some ⟨b,n*5,none⟩) (m-n) (cap-n)) (by simp[Act.eval,Act.put]) (by simp[Act.eval,Act.put]) (H _ _) ?_)
  all_goals(
   go_wp2_with(at_builtin;refine wpList_clear_r _ (by rfl) _ 91 (by rfl) (.slice (some ⟨b,(m-n)*5,none⟩) n _) (by rfl) (I _ _) ?_)
   go_ret
   exact⟨rfl,HX.out⟩)
def An (S:Nat->Prop) (g:Nat) (W W':World) (v:Value) (l:List Dc) (st:Sy):Prop:=
 (∃S',SS S' W' g st/\(∀k,S' k->S k\/W.heap.size<=k)/\∀k,v.ownBlock=some k->(S k\/W.heap.size<=k)/\¬S' k)/\Rd W' v l/\Kp S W W'
theorem C9 (p:α->Bool) (l:List α) (k:Nat) (u:k<=l.length) (h:∀x∈l.take k,p x=true) (G:∀x,l[k]?=some x->p x=false):l.takeWhile p=l.take k/\l.dropWhile p=l.drop k:=by
 induction l generalizing k with
 |nil=>simp at u;subst u;simp
 |cons a r ih=>
  cases k with
  |zero=>
   have:=G a rfl;simp[List.takeWhile_cons,List.dropWhile_cons,this]
  |succ k=>
   have H:=h a (by simp);obtain⟨I,J⟩:=ih k (by simpa using u) (fun x F=>h x (by simp[F])) (fun x F=>G x (by simpa using F));simp[List.takeWhile_cons,List.dropWhile_cons,H,I,J]
theorem kP {S:Nat->Prop}(h:SS S W g st) (hl:st.ws.length<=1000000000) :
  Kb 134 #[bv g] W fun r w'=>∃v,r=.returned v/\An S g W w' v (st.ws.takeWhile bC) { st with ws:=st.ws.dropWhile bC }:=by
 obtain⟨vn,vw,hv,s1,s2⟩:=h.ex;have af:=h.sg;have u:=h.lt;obtain⟨p,cap,e,hc1,hc2⟩:=bG hv.rd;subst e;obtain⟨L,hL⟩:∃L,st.ws=L:=⟨_,rfl⟩;have an:L.length<=1000000000:=by rw[<-hL];exact hl
 have am:L.length<=cap:=by rw[<-hL];exact hc1
 have HV:Hid (∀V,Kc W V->V.cell? ⟨g,2,none⟩=some (.slice p L.length cap)/\V.frozen? ⟨g,2,none⟩=false/\Ld V p L):=fun V F=>by
  have:=hv.below F;rw[<-hL];exact⟨this.sb.cells.2.2.1,this.sb.frozen 2,qp this.rd⟩
 have HD:Hid (∀(n:Nat),n<=L.length->∀V,Kc W V->Kb 172 #[.slice p n cap] V fun r w'=>∃v,r=.returned v/\Rd w' v (L.take n)/\Kc W w'/\(∀k,v.ownBlock=some k->W.heap.size<=k)):=fun n hn V F=>by
  have hq:=hv.below F;have J:=hq.rd;rw[hL]at J;cases p with
  |none=>
   refine(yJ V n cap).mono ?_;rintro r w'⟨rfl,rfl⟩
   have h0:L=[]:=by
    rcases J.2 with⟨_,h0⟩|⟨_,_,_,I,_⟩
    ·exact Kx h0
    ·cases I
   refine⟨_,rfl,by rw[h0,List.take_nil];exact kX _,F,fun k e=>by cases e⟩
  |some a=>
   obtain⟨b,ha⟩:∃b,a=⟨b,0,none⟩:=by
    rcases J.2 with⟨I,_⟩|⟨b,_,_,I,_⟩
    ·cases I
    ·cases I;exact⟨b,rfl⟩
   subst ha;have ak:(L.take n).length=n:=by rw[Kz];omega
   have:=ug (cap:=cap) ((qp J).take n) (by omega);rw[ak]at this;refine this.mono ?_;rintro r w'⟨v',rfl,a1,H,a3⟩;exact⟨v',rfl,a1,F.trans (H.mono F.size),fun k e=>Kh F.size (a3 k e)⟩
 have HE:Hid (∀(n:Nat),n<=L.length->(L.takeWhile bC=L.take n/\L.dropWhile bC=L.drop n)->∀V v,Kc W V->Rd V v (L.take n)->(∀k,v.ownBlock=some k->W.heap.size<=k)->Kb 173 #[.slice p L.length cap,.int .i64 0,.int .i64 n] V fun r w'=>∃p' n' c',r=.returned (.slice p' n' c')/\(w'.cell? ⟨g,2,none⟩=some (.slice p L.length cap)/\w'.frozen? ⟨g,2,none⟩=false)/\An S g W (w'.setCell ⟨g,2,none⟩ (.slice p' n' c')) v (L.takeWhile bC) { st with ws:=L.dropWhile bC }):=fun n hn ag V v F ai ah=>by
  have hq:=hv.below F;have J:=hq.rd;rw[hL]at J;rw[ag.1,ag.2]
  have fin:∀(w':World) (v':Value),Rd w' v' (L.drop n)->Kp (fun k=>(Value.slice p L.length cap).ownBlock=some k) V w'->Nb V (.slice p L.length cap) v'->(w'.cell? ⟨g,2,none⟩=some (.slice p L.length cap)/\w'.frozen? ⟨g,2,none⟩=false)/\An S g W (w'.setCell ⟨g,2,none⟩ v') v (L.take n) { st with ws:=L.drop n }:=fun w' v' b1 b2 b3=>by
   have al:SV V g st vn (.slice p L.length cap):=by rw[<-hL];exact hq
   obtain⟨c1,c2⟩:=al.ws (gt _ _) b2 b1 b3;refine⟨c1,?_⟩;obtain⟨vw',d1,d2⟩:=c2.ex;have O:∀k,v.ownBlock=some k->¬S k:=fun k e hs=>by have:=u k hs;have:=ah k e;omega
   have ab:Kp S V (w'.setCell ⟨g,2,none⟩ v'):=c2.kp.sub (by rintro k (e|e);rw[e];exact af;exact s2 k (by rw[hL];exact e));refine⟨⟨fun k=>S k\/(W.heap.size<=k/\vw'.ownBlock=some k),⟨⟨vn,vw',d1,fun k e=>.inl (s1 k e),fun k e=>?_⟩,.inl af,?_⟩,?_,?_⟩,uX ai ab O,(Kp.of_below F).step ab (fun _ _ h=>h)⟩
   ·rcases d2 with d2|⟨q,ac,ae⟩
    ·exact .inl (s2 k (by rw[hL,<-d2];exact e))
    ·exact .inr ⟨by rw[ac]at e;cases e;exact Kh F.size ae,e⟩
   ·rintro k (a|a)
    ·exact Kl (u k a) (Kh F.size ab.size)
    ·exact fN d1.rd k a.2
   ·rintro k (a|a)
    ·exact .inl a
    ·exact .inr a.1
   ·intro k e;refine⟨.inr (ah k e),?_⟩;rintro(a|a)
    ·exact O k e a
    ·rcases d2 with d2|⟨q,ac,ae⟩
     ·have hs:=s2 k (by rw[hL,<-d2];exact a.2);exact O k e hs
     ·rw[ac]at a;have h9:=fN ai k e;have:q=k:=by simpa using a.2
      omega
  by_cases h0:n=0
  ·subst h0;refine(rH (.slice p L.length cap) J (by omega)).mono ?_;rintro r w'⟨rfl,rfl⟩;exact⟨_,_,_,rfl,fin _ _ (by rw[List.drop_zero];exact J) (Kp.refl _ _) (.inl rfl)⟩
  ·cases p with
   |none=>
    have aj:L=[]:=by
     rcases J.2 with⟨_,h0⟩|⟨_,_,_,I,_⟩
     ·exact Kx h0
     ·cases I
    rw[aj]at hn;simp at hn;exact absurd hn h0
   |some a=>
    obtain⟨b,ha⟩:∃b,a=⟨b,0,none⟩:=by
     rcases J.2 with⟨I,_⟩|⟨b,_,_,I,_⟩
     ·cases I
     ·cases I;exact⟨b,rfl⟩
    subst ha;refine(rG (n:=n) J (by omega) hn (by omega)).mono ?_;rintro r w'⟨rfl,a1,H⟩;exact⟨_,_,_,rfl,fin _ _ a1 (H.sub (fun k e=>by rw[e];rfl)) (.inl rfl)⟩
 have HP:=ku rg;rw[hL]at ⊢;clear hv h s1 s2 hL u hl;have HT:=ku fun n (a:n<=L.length) (b:(∀x∈L.take n,bC x=true)) (c:(∀x,L[n]?=some x->bC x=false))=>C9 bC L n a b c
 go_enter func134,ntmps134
 go_wp2_with fail
 go_loopw [3] (fun i wr=>∃k:Nat,k<=L.length/\i=.int .i64 k/\Hid (∀x∈L.take k,bC x=true)/\Hid (Below W.heap.size W wr)) (fun i _=>L.length-(intOf i).toNat)
 case atStart=>exact⟨0,Kj _,rfl,fun x hx=>by simp at hx,gt _ _⟩
 case round=>
  obtain⟨k,hk,rfl,HI,HB⟩:=hrel;obtain⟨x1,x2,x3⟩:=HV.out _ HB.out;have HL:=ku x3;clear x2 x3;have fin:∀w1,Hid (Below W.heap.size W w1)->(L.takeWhile bC=L.take k/\L.dropWhile bC=L.drop k)->True:=fun _ _ _=>trivial
  by_cases u:k<L.length
  ·have q1:(k:Int)<L.length:=by omega
   have q0:(0:Int)<=k:=by omega
   obtain⟨x,hx⟩:∃x,L[k]?=some x:=⟨_,Ke u⟩;obtain⟨b,off,rfl,c0,c1,c2,c3,c4⟩:=HL.out k x hx
   by_cases he:bC x=true
   ·have HN:Hid (∀y∈L.take (k+1),bC y=true):=fun y G=>by
     rw[NK,hx]at G
     rcases Lg.1 G with G|G
     ·exact HI.out y G
     ·simp at G;rw[G];exact he
    clear hx
    go_wp2_with(go_at_call 171;refine(HP.out x _).mono ?_;rintro e w1⟨rfl,M⟩;rw[he];have HC:=ku (HB.out.trans (M.mono HB.out.size));clear M)
    exact⟨⟨k+1,u,by go_num,HN,HC⟩,by simp[intOf];omega⟩
   ·have ad:bC x=false:=by simpa using he
    have HW:=ku (HT.out k hk HI.out (fun y G=>by rw[hx]at G;cases G;exact ad));have q3:(k:Int)<=cap:=by omega
    clear he hx fin
    go_wp2_with(first|(go_at_call 171;refine(HP.out x _).mono ?_;rintro e w1⟨rfl,M⟩;rw[ad];have aa:=ku (HB.out.trans (M.mono HB.out.size));obtain⟨z1,_,_⟩:=HV.out _ aa.out;clear M)|(go_at_call 172;refine(HD.out k hk _ aa.out).mono ?_;rintro e w2⟨v2,rfl,a1,H,a3⟩;have HR:Hid (Rd w2 v2 (L.take k)/\Kc W w2/\∀k,v2.ownBlock=some k->W.heap.size<=k):=⟨a1,H,a3⟩;obtain⟨y1,_,_⟩:=HV.out _ H;clear a1 H a3)|(go_at_call 173;refine(HE.out k hk HW.out _ _ HR.out.2.1 HR.out.1 HR.out.2.2).mono ?_;rintro e w3⟨p3,n3,c3,rfl,⟨y2,y3⟩,y4⟩;have HX:=ku y4;clear y4))
    go_ret
    exact⟨_,rfl,HX.out⟩
  ·obtain rfl:k=L.length:=by omega
   have HW:=ku (HT.out _ hk HI.out (fun y G=>by simp at G));have q1:¬((L.length:Int)<L.length):=by omega
   have q3:(L.length:Int)<=cap:=by omega
   have aa:=ku HB.out;clear fin
   go_wp2_with(first|(go_at_call 172;refine(HD.out L.length hk _ aa.out).mono ?_;rintro e w2⟨v2,rfl,a1,H,a3⟩;have HR:Hid (Rd w2 v2 (L.take L.length)/\Kc W w2/\∀k,v2.ownBlock=some k->W.heap.size<=k):=⟨a1,H,a3⟩;obtain⟨y1,_,_⟩:=HV.out _ H;clear a1 H a3)|(go_at_call 173;refine(HE.out L.length hk HW.out _ _ HR.out.2.1 HR.out.1 HR.out.2.2).mono ?_;rintro e w3⟨p3,n3,c3,rfl,⟨y2,y3⟩,y4⟩;have HX:=ku y4;clear y4))
   go_ret
   exact⟨_,rfl,HX.out⟩
theorem rk {S:Nat->Prop}{vn:Value}{p:Option Addr}{u:Nat}(G:SV W g st vn (.slice p u cap)) (hs:S g) (h1:∀k,vn.ownBlock=some k->S k) (h2:∀k,(Value.slice p u cap).ownBlock=some k->S k) (hl:st.ws.length<=1000000000) (d:Dc) {i:Nat}(hi:i<=st.ws.length) {V:World}(H:Kc W V) :
  Kb 118 #[.slice p u cap,.int .i64 i,.slice (some ⟨V.heap.size,0,none⟩) 1 1] (V.alloc (.cells #[.int .u8 d.k,.string d.t,.int .i64 d.b,.int .i64 d.i,.bool d.e] 151)) fun r w'=>∃I O c',r=.returned (.slice I O c')/\(w'.cell? ⟨g,2,none⟩=some (.slice p u cap)/\w'.frozen? ⟨g,2,none⟩=false)/\Mv S g W (w'.setCell ⟨g,2,none⟩ (.slice I O c')) { st with ws:=st.ws.take i++d :: st.ws.drop i }:=by
 have F:Kc W (V.alloc (.cells #[.int .u8 d.k,.string d.t,.int .i64 d.b,.int .i64 d.i,.bool d.e] 151)):=H.alloc H.size _;have hq:=G.below F;have J:(Value.slice p u cap).ownBlock≠some V.heap.size:=fun e=>by have:=fN (G.below H).rd _ e;omega
 refine(tQ d hq.rd hi (am V _) J hl).mono ?_;rintro r w'⟨v',rfl,M,a2,a3⟩;obtain⟨I,c',e,_⟩:=bG M;obtain⟨c1,c2⟩:=G.ws F a2 M a3;subst e;exact⟨_,_,_,rfl,c1,c2.mv G hs h1 h2⟩
theorem jR {S:Nat->Prop}(h:SS S W g st) (hl:st.ws.length<=1000000000) :
  Kb 78 #[bv g] W fun r w'=>r=.returned (.tuple #[])/\Mv S g W w' st.endl:=by
 obtain⟨vn,vw,F,s1,s2⟩:=h.ex;have aa:=h.sg;obtain⟨p,cap,e,hc1,hc2⟩:=bG F.rd;subst e;obtain⟨c0,c1,c2,c3,c4,c5,c6,c7⟩:=F.sb.cells
 by_cases M:st.en=true
 ·have O:=ku (yP F hl)
  by_cases ha:st.ws.any d8=true
  ·have G:st.endl=st:=by unfold Sy.endl;rw[IO (by rw[ha];simp)]
   have HM:Hid (∀V,Kc W V->Mv S g W V st.endl):=fun V J=>by rw[G];exact Mv.quiet h J
   rw[ha]at O;rw[M]at c6;clear h F s1 s2 G
   go_enter func78,ntmps78
   go_wp2_with(go_at_call 116;refine O.out.mono ?_;rintro r w1⟨rfl,u⟩;have HX:=show Hid (Mv S g W w1 st.endl)from HM.out _ u;clear u)
   go_end0
   exact⟨rfl,HX.out⟩
  ·have H:st.ws.any d8=false:=by simpa using ha
   have G:st.endl={ st with ws:=st.ws.take 0++dH :: st.ws.drop 0 }:=by unfold Sy.endl;rw[Kd ⟨M,H⟩];rfl
   have HC:Hid (∀V,Kc W V->V.cell? ⟨g,2,none⟩=some (.slice p st.ws.length cap)/\g<V.heap.size):=fun V J=>⟨(F.below J).sb.cells.2.2.1,(F.below J).sb.lt⟩
   have HI:Hid (∀V,Kc W V->Kb 118 #[.slice p st.ws.length cap,.int .i64 0,.slice (some ⟨V.heap.size,0,none⟩) 1 1] (V.alloc (.cells #[.int .u8 4,.string ⟨#[]⟩,.int .i64 0,.int .i64 0,.bool false] 151)) fun r w'=>∃p' n' c',r=.returned (.slice p' n' c')/\(w'.cell? ⟨g,2,none⟩=some (.slice p st.ws.length cap)/\w'.frozen? ⟨g,2,none⟩=false)/\Mv S g W (w'.setCell ⟨g,2,none⟩ (.slice p' n' c')) st.endl):=fun V J=>by rw[G];exact rk F aa s1 s2 hl dH (i:=0) (Kj _) J
   rw[H]at O;rw[M]at c6;clear h F s1 s2 G ha H M
   go_enter func78,ntmps78
   go_wp2_with(first|(go_at_call 116;refine O.out.mono ?_;rintro r w1⟨rfl,u⟩;have HB:=show Hid (Below W.heap.size W w1)from u;obtain⟨x1,x2⟩:=HC.out _ u;clear u)|(go_at_call 118;refine(HI.out _ HB.out).mono ?_;rintro r w3⟨p3,n3,c3,rfl,⟨y2,y3⟩,y4⟩;have HX:=ku y4;clear y4))
   go_end0
   exact⟨rfl,HX.out⟩
 ·have I:st.en=false:=by simpa using M
  have G:st.endl=st:=by unfold Sy.endl;rw[IO (by rw[I];simp)]
  have HM:Hid (Mv S g W W st.endl):=by rw[G];exact Mv.refl h
  rw[I]at c6;clear h F s1 s2 G M I
  go_enter func78,ntmps78
  go_wp2_with fail
  go_end0
  exact⟨rfl,HM.out⟩
