import Derived.Lib.Overlaps
import Derived.Lib.AppendZerosOnto
import Derived.Laws.Externs
import Derived.Lib.SliceRun
import Derived.Test.YthfjlkfeeglfmaaGreatDoorM36
set_option linter.all false
set_option maxHeartbeats 4000000
set_option maxRecDepth 100000
namespace Go.Proofs.YthfjlkfeeglfmaaGreatDoor
open Go.Proofs.Tryz
open Go.RowKit
open Lw (Dc bE rt bQ cq gK kq bR aS bY)
variable {W w:World}{l:List Dc}{b cap i g:Nat}{st:Sy}{α:Type}{v:Value}{P:Program}{o:Oper}{a:Act}
def Kp.setRow (w:World) (g:Nat) (cs:Array Value):Kp (λj=>j=g) w (w.setRow g cs):=
 ⟨rfl,rfl,rfl,by show _<=(w.setRow g cs).heap.size;simp[World.setRow],λj G u=>setRow_other w g j cs u⟩
def iB:∃u,Tryz.prog.info? 37=some u/\u.zero=some (.agg #[.int .u8 0,.string ⟨#[]⟩,Tu 0,Tu 0,.bool false])/\u.size=5/\u.bytes=48:=Tf Tryz.info37
def km:(Tryz.prog.info? 37).map (·.size)=some 5:=by
 obtain⟨H,G,_,u,_⟩:=iB;rw[G];simp[u]
def fy {W:World}{g:Nat}{cur:List Value}{t:TypeId}{f:Nat × Nat}(h:W.heap[g]?=some (.cells cur.toArray t f)) (o:Nat) (cs:List Value) (hc:∀j v,cs[j]?=some v->cur[o+j]?=some v):∀j v,cs[j]?=some v->W.cell? (((Tw g o):Addr).add j)=some v:=by
 intro j v u;rw[S8];simp[World.cell?,h,hc j v u]
def xb (l:List Dc) (k:Nat):(bR l).take (k*5)=bR (l.take k):=fx Dc.cs 5 Lw.Dc.cs_len k l
def pK (l:List Dc) (k:Nat):(bR l).drop (k*5)=bR (l.drop k):=cu Dc.cs 5 Lw.Dc.cs_len k l
def pJ (d:Dc):bR [d]=[.int .u8 d.k,.string d.t,Tu d.b,Tu d.i,.bool d.e]:=by simp[bR,ap,Dc.cs]
def uC (A Z D R:List α) (k m:Nat) (H:A.length=k) (G:D.length=m) (I:m+R.length<=Z.length) :
  ((A++Z).take k++D++(A++Z).drop (k+m)).take (k+m)++R++((A++Z).take k++D++(A++Z).drop (k+m)).drop (k+m+R.length)=A++D++R++Z.drop (m+R.length):=by
 subst H;subst G;rw[List.take_left,UQ,S4 (by omega),SI,U9];have u:(A++D).length=A.length+D.length:=IO;rw[Tc (by omega),<-u,Te,UQ,S4 (by omega),SI,U9,UP]
def yA (d:Dc) {gv:Nat}(h:Rd W v l) (S:W.heap[gv]?=some (.cells #[.int .u8 d.k,.string d.t,Tu d.b,Tu d.i,.bool d.e] 37 (0,0))) (hl:l.length<=1000000000) :
  Sa 158 #[v,Tu l.length,.slice (some (Tw gv 0)) 1 1] W λr w'=>∃v',Uk r v'/\Rd w' v' (l++[d])/\Kp (λk=>v.ownBlock=some k) W w'/\Nb W v v':=by
 obtain⟨p,cap,rfl,Y,J⟩:=bv h;have Q:=aW h;have O:Hid (W.heap[gv]?=some (.cells (bR [d]).toArray 37 (0,0))):=by rw[pJ];exact S
 have Z:(0:Int)<=l.length:=by omega
 have q2:(cap:Int)<=9223372036854775807:=by unfold maxLen at J;omega
 clear h S
 by_cases M:cap=l.length
 ·subst M;go_enter func158,ntmps158
  go_wp2_with(at_builtin;refine rE rfl _ _ rfl (.slice p l.length l.length) l [d] rfl Q.out gv 1 rfl O.out (by simp;omega) ?_;intro v' w' u G H;have I:Hid (Rd w' v' (l++[d])/\Kp (λk=>(Value.slice p l.length l.length).ownBlock=some k) W w'/\Nb W (.slice p l.length l.length) v'):=⟨u,(Kp.of_grown G).sub (λk e=>e.symm),H⟩;clear u G H)
  go_ret;exact⟨_,rfl,I.out⟩
 ·go_enter func158,ntmps158
  go_wp2_with(at_builtin;refine rE rfl _ _ rfl (.slice p l.length cap) l [d] rfl Q.out gv 1 rfl O.out (by simp;omega) ?_;intro v' w' u G H;have I:Hid (Rd w' v' (l++[d])/\Kp (λk=>(Value.slice p l.length cap).ownBlock=some k) W w'/\Nb W (.slice p l.length cap) v'):=⟨u,(Kp.of_grown G).sub (λk e=>e.symm),H⟩;clear u G H)
  go_ret;exact⟨_,rfl,I.out⟩
def wq (d:Dc) {gv:Nat}(h:Rd W (.slice (some (Tw b 0)) l.length cap) l) (hi:i<l.length) (ad:l.length+1<=cap) (hg:W.heap[gv]?=some (.cells #[.int .u8 d.k,.string d.t,Tu d.b,Tu d.i,.bool d.e] 37 (0,0))) (ak:gv≠b) (hl:l.length<=1000000000) :
  Sa 158 #[.slice (some (Tw b 0)) l.length cap,Tu i,.slice (some (Tw gv 0)) 1 1] W λr w'=>∃v',Uk r v'/\Rd w' v' (l.take i++d :: l.drop i)/\Kp (λk=>k=b) W w'/\Nb W (.slice (some (Tw b 0)) l.length cap) v':=by
 obtain⟨u,hb,ab,G,Q⟩:∃u:List Value,W.heap[b]?=some (.cells u.toArray 37 (0,0))/\cap<=maxLen/\u.length=cap*5/\u.take (l.length*5)=bR l:=by
  rcases h.2 with⟨h1,_⟩|⟨g,cap',u,h1,_,h3,_,h5,h6,h7⟩
  ·cases h1
  ·cases h1;exact⟨u.toList,by simpa using h3,h5,by simpa using h6,h7⟩
 obtain⟨n,hn⟩:=ea l.length;rw[hn]at hi ad hl Q;have an:(cap:Int)<=9223372036854775807:=by unfold maxLen at ab;omega
 have hR:(bR (l.drop i)).length=(n-i)*5:=by rw[aS,Sj,hn]
 have I:∀ty Z sc,(Builtin.copy_ #[23,23] ty #[.slice (some ⟨b,(i+1)*5,none⟩) (n-i) Z,.slice (some ⟨b,i*5,none⟩) (n+1-i) sc]).run Tryz.prog W.drew=.ok (goInt ((n-i:Nat):Int)) (W.drew.setRow b (u.take ((i+1)*5)++bR (l.drop i)++u.drop ((i+1)*5+(bR (l.drop i)).length)).toArray):=λty Z sc=>by
  have hm:Nat.min (n+1-i) (n-i)=n-i:=by show min _ _=_;omega
  have:=cJ (P:=Tryz.prog) W.drew 23 23 ty 37 5 b ((i+1)*5) (n-i) Z ⟨b,i*5,none⟩ (n+1-i) sc u.toArray 37 (bR (l.drop i)) underlying23 km hb (by rw[hR,hm]) (fy (W:=W.drew) hb (i*5) _ (λj v hj=>by
   rw[<-pK,Sl,<-Q,Sv]at hj
   split at hj
   ·exact hj
   ·cases hj)) (by rw[hR];simp;omega) (bY _)
  rw[hm]at this
  simpa using this
 obtain⟨c1,H⟩:∃c1:List Value,u.take ((i+1)*5)++bR (l.drop i)++u.drop ((i+1)*5+(bR (l.drop i)).length)=c1:=⟨_,rfl⟩;rw[H]at I;have ah:c1.length=cap*5:=by rw[<-H];simp only[IO,Sk,Sj,hR,G];omega
 obtain⟨W1,M⟩:=ea (W.drew.setRow b c1.toArray);rw[M]at I;have aa:W1.heap[b]?=some (.cells c1.toArray 37 (0,0)):=by rw[<-M];exact UT W.drew b _ _ _ _ hb
 have ac:Kp (λk=>k=b) W W1:=by rw[<-M];exact((Kp.of_below ((gt _ W).drew)).step (Kp.setRow W.drew b c1.toArray) (λ_ _ h=>h))
 have af:=ac.blk hg ak
 have S:∀ty Z,(Builtin.copy_ #[23,23] ty #[.slice (some ⟨b,i*5,none⟩) (n+1-i) Z,.slice (some (Tw gv 0)) 1 1]).run Tryz.prog W1=.ok (goInt 1) (W1.setRow b (c1.take (i*5)++bR [d]++c1.drop (i*5+5)).toArray):=λty Z=>by
  have hm:Nat.min 1 (n+1-i)=1:=by show min _ _=_;omega
  have:=cJ (P:=Tryz.prog) W1 23 23 ty 37 5 b (i*5) (n+1-i) Z (Tw gv 0) 1 1 c1.toArray 37 (bR [d]) underlying23 km aa (by rw[aS,hm];rfl) (fy (cur:=bR [d]) (by rw[pJ];exact af) 0 _ (λj v hj=>by rw[R3];exact hj)) (by rw[aS];simp;omega) (bY _);rw[hm]at this
  simpa[aS]using this
 obtain⟨c2,O⟩:∃c2:List Value,c1.take (i*5)++bR [d]++c1.drop (i*5+5)=c2:=⟨_,rfl⟩;rw[O]at S;have ai:c2.length=cap*5:=by rw[<-O];simp only[IO,Sk,Sj,aS,ah,List.length_cons,List.length_nil];omega
 have ag:Kp (λk=>k=b) W (W1.setRow b c2.toArray):=ac.trans (Kp.setRow W1 b _);have ae:(W1.setRow b c2.toArray).heap[b]?=some (.cells c2.toArray 37 (0,0)):=UT W1 b _ _ _ _ aa
 have Y:c2.take ((n+1)*5)=bR (l.take i++d :: l.drop i):=by
  have e1:c1.take (i*5)=bR (l.take i):=by
   rw[<-H,RW,Tc (by rw[Sk,G];omega),Vj,Tz (by omega),<-xb,<-Q,Vj,Tz (by omega)]
  have e2:c1.drop (i*5+5)=bR (l.drop i)++u.drop ((i+1)*5+(bR (l.drop i)).length):=by
   rw[<-H,RW,UQ,S4 (by rw[Sk,G];omega),SI,Sk,G];rw[show i*5+5-min ((i+1)*5) (cap*5)=0 by omega,List.drop_zero]
  have e3:bR (l.take i++d :: l.drop i)=bR (l.take i)++(bR [d]++bR (l.drop i)):=by rw[fV,show d :: l.drop i=[d]++l.drop i from rfl,fV]
  rw[<-O,e1,e2,e3,RW,<-RW (bR [d]),<-RW];rw[Tc (by simp only[IO,aS,Sk,Sj,hn,List.length_cons,List.length_nil];omega)];rw[S5 (by simp only[IO,aS,Sk,Sj,hn,List.length_cons,List.length_nil];omega)]
 have HX:Hid (Rd (W1.setRow b c2.toArray) (.slice (some (Tw b 0)) (n+1) cap) (l.take i++d :: l.drop i)/\Kp (λk=>k=b) W (W1.setRow b c2.toArray)/\Nb W (.slice (some (Tw b 0)) n cap) (.slice (some (Tw b 0)) (n+1) cap)):=by
  have J:(l.take i++d :: l.drop i).length=n+1:=by simp[hn];omega
  refine⟨⟨by rw[aS],.inr ⟨b,cap,c2.toArray,by rw[J],RU _,ae,by rw[J];omega,ab,by simp[ai],?_⟩⟩,ag,.inl rfl⟩;rw[J]
  simpa using Y
 have am:∀lb cb,(callFunc 218 #[.slice (some (Tw gv 0)) 1 1,.slice (some ⟨b,(i+1)*5,none⟩) lb cb]).run Tryz.prog W=.ok (.value (.bool false)) W:=λlb cb=>by
  have hz:∀w,(Go.sizeOf 37).run Tryz.prog w=.ok 5 w:=λw=>by
   obtain⟨i0,al,_,h1,_⟩:=iB;simp[sizeOf,typeInfo,al,h1]
  rw[run_callFunc_extern func218 (by kernel_rfl) (by kernel_rfl) (by kernel_rfl) (e:=Extern.SlicesOverlaps.overlaps #[23,23] #[4]) (by kernel_rfl),
   Lib.run_overlaps_apart W 23 4 37 underlying23 5 hz (Tw gv 0) ⟨b,(i+1)*5,none⟩ 1 1 lb cb ak 37 37 5 (cap*5) (by simp[World.shape?,hg]) (by simp[World.shape?,hb,G]) (by omega) (aj hg) (aj hg)]
  rfl
 rw[hn];clear h hb ab G Q hR H ah M aa ac af O ai ag ae Y hg hn;have z1:¬((i:Int)=(n:Int)):=by omega
 have z2:IntKind.i64.wrap ((n:Int)+1)=(n:Int)+1:=by rw[Sn];omega
 have z3:¬((cap:Int)<(n:Int)+1):=by omega
 have z4:IntKind.i64.wrap ((i:Int)+1)=(i:Int)+1:=by rw[Sn];omega
 have z5:¬(cap=i+1):=by omega
 have z6:¬(cap=i):=by omega
 have z7:((i:Int)+1).toNat=i+1:=by omega
 have z8:(0:Int)<=(i:Int)+1:=by omega
 have z9:(i:Int)<=(n:Int):=by omega
 have y1:(i:Int)<=(n:Int)+1:=by omega
 have y2:((n:Int)+1).toNat=n+1:=by omega
 have y3:(0:Int)<=(n:Int)+1:=by omega
 have y4:(n:Int)+1<=(cap:Int):=by omega
 have y5:(i:Int)+1<=(n:Int)+1:=by omega
 go_enter func158,ntmps158
 go_wp2_with(simp only[am])
 go_region_law (refine step_copy_r rfl _ _ 23 23 rfl _ _ (by simp[Act.eval,Act.put]) (by simp[Act.eval,Act.put]) (I _ _ _) ?_)
 go_wp2_with(at_builtin;refine wpList_copy_r _ rfl _ _ 23 23 rfl _ _ rfl rfl (S _ _) ?_)
 go_ret;exact⟨_,rfl,HX.out⟩
def mR (w:World) {G:Array Oper}{rest:List Oper}{o:Oper}{a:Act}{Q:Exit->Act->World->Prop}(H:o.guard=none) (d s:Operand) (t I:TypeId)
  (M:o.op=.call { callee:=.builtin .append,args:=#[d,s],argTypes:=#[t,I] }) (v u:Value) (hd:a.eval d=v) (S:a.eval s=u) {v':Value} {w':World}
  (O:(Builtin.append_ #[t,I] o.type #[v,u]).run P w=.ok v' w') (h:wpList P G Q rest (a.put o.dst v') w'):wpList P G Q (o :: rest) a w:=by
 refine wpList_plain H λ_ J=>?_
 unfold Oper.wp execOp;simp only[M,resolve,invoke,builtin,Vm,Sem.run_pure,Result.andThen_ok,List.map_toArray,TF,VS,hd,S,O];exact J _ _ h
def wu (d:Dc) {gv:Nat}(h:Rd W (.slice (some (Tw b 0)) l.length cap) l) (hi:i<l.length) (J:¬l.length+1<=cap) (hg:W.heap[gv]?=some (.cells #[.int .u8 d.k,.string d.t,Tu d.b,Tu d.i,.bool d.e] 37 (0,0))) (hl:l.length<=1000000000) :
  Sa 158 #[.slice (some (Tw b 0)) l.length cap,Tu i,.slice (some (Tw gv 0)) 1 1] W λr w'=>∃v',Uk r v'/\Rd w' v' (l.take i++d :: l.drop i)/\Kp (λk=>k=b) W w'/\Nb W (.slice (some (Tw b 0)) l.length cap) v':=by
 obtain⟨u,hb,bf,ar,bg,aj⟩:∃u:List Value,W.heap[b]?=some (.cells u.toArray 37 (0,0))/\cap<=maxLen/\l.length<=cap/\u.length=cap*5/\u.take (l.length*5)=bR l:=by
  rcases h.2 with⟨h1,_⟩|⟨g,cap',u,h1,_,h3,h4,h5,h6,h7⟩
  ·cases h1
  ·cases h1;exact⟨u.toList,by simpa using h3,h5,h4,by simpa using h6,h7⟩
 obtain⟨n,hn⟩:=ea l.length;rw[hn]at hi J hl aj ar;obtain rfl:cap=n:=by omega
 have bd:u=bR l:=by rw[<-aj,S5 (by omega)]
 subst bd;clear aj ar J;obtain⟨i0,av,bc,al,am⟩:=iB;have hA:(bR (l.take i)).length=i*5:=by rw[aS,Sk,hn];congr 1;omega
 have hR:(bR (l.drop i)).length=(cap-i)*5:=by rw[aS,Sj,hn]
 have Y:∀G,(Builtin.append_ #[23,3] G #[.slice (some (Tw b 0)) i cap,Tu ((cap+1-i:Nat):Int)]).run Tryz.prog W=.ok (.slice (some ⟨W.heap.size,0,none⟩) (cap+1) (grownCap W (cap+1) cap 37))
    (W.drew.alloc (.cells ((bR (l.take i)).toArray++Builtin.zeroCells (Value.agg #[.int .u8 0,.string ⟨#[]⟩,Tu 0,Tu 0,.bool false]).cells (cap+1-i)++Builtin.zeroCells (Value.agg #[.int .u8 0,.string ⟨#[]⟩,Tu 0,Tu 0,.bool false]).cells (grownCap W (cap+1) cap 37-(cap+1))) 37)):=λG=>by
  have h1:(Builtin.firstCells i0.size i (.slice (some (Tw b 0)) i cap)).run Tryz.prog W.drew=.ok (bR (l.take i)).toArray W.drew:=by
   rw[al];refine run_firstCells_some (w:=W.drew) 5 i (Tw b 0) i cap (bR (l.take i)) hA (fy (W:=W.drew) hb 0 _ (λj v M=>?_));rw[R3];rw[<-xb,Sv]at M
   split at M
   ·exact M
   ·cases M
  have:=Lib.run_append_grow_zeros (P:=Tryz.prog) W 23 3 G 37 i0 _ .i64 .i64 underlying23 underlying3 av bc (some (Tw b 0)) i cap (bR (l.take i)) h1 (cap+1-i) (by omega) (by rw[al];omega) (by omega) (by omega) (by rw[am];omega) (by rw[am];exact growslice_fits (by omega) (by omega));rw[show i+(cap+1-i)=cap+1 by omega]at this;exact this
 obtain⟨C,hC⟩:=ea (grownCap W (cap+1) cap 37);have bi:cap+1<=C:=by rw[<-hC];exact grownCap_ge _ _ _ _
 have an:C<=maxLen:=by rw[<-hC];exact grownCap_le_maxLen _ _ _ _ (by unfold maxLen;omega)
 rw[hC]at Y;obtain⟨Z,hZ⟩:∃Z:List Value,(Builtin.zeroCells (Value.agg #[.int .u8 0,.string ⟨#[]⟩,Tu 0,Tu 0,.bool false]).cells (cap+1-i)++Builtin.zeroCells (Value.agg #[.int .u8 0,.string ⟨#[]⟩,Tu 0,Tu 0,.bool false]).cells (C-(cap+1))).toList=Z:=⟨_,rfl⟩
 have Q:Z.length=(C-i)*5:=by
  rw[<-hZ,Tb,Array.size_append,size_zeroCells,size_zeroCells];show(cap+1-i)*5+(C-(cap+1))*5=_;omega
 have ap:(bR (l.take i)).toArray++Builtin.zeroCells (Value.agg #[.int .u8 0,.string ⟨#[]⟩,Tu 0,Tu 0,.bool false]).cells (cap+1-i)++Builtin.zeroCells (Value.agg #[.int .u8 0,.string ⟨#[]⟩,Tu 0,Tu 0,.bool false]).cells (C-(cap+1))=(bR (l.take i)++Z).toArray:=by
  rw[Array.append_assoc]
  apply TJ.1
  rw[Array.toList_append,hZ]
 rw[ap]at Y;clear hZ ap;obtain⟨N,hN⟩:=ea W.heap.size;obtain⟨W0,hW0⟩:=ea (W.drew.alloc (.cells (bR (l.take i)++Z).toArray 37));rw[hW0,hN]at Y;have O:Below W.heap.size W W0:=by rw[<-hW0];exact((gt _ W).drew).alloc (ge _) _
 have ag:W0.heap[N]?=some (.cells (bR (l.take i)++Z).toArray 37 (0,0)):=by rw[<-hW0,<-hN];exact ak W.drew _
 have bh:gv<N:=by rw[<-hN];exact ai hg
 have be:b<N:=by rw[<-hN];exact ai hb
 have au:=af hg O;have ba:=af hb O
 have I:∀G dc,(Builtin.copy_ #[23,23] G #[.slice (some ⟨N,i*5,none⟩) (cap+1-i) dc,.slice (some (Tw gv 0)) 1 1]).run Tryz.prog W0=.ok (goInt 1) (W0.setRow N ((bR (l.take i)++Z).take (i*5)++bR [d]++(bR (l.take i)++Z).drop (i*5+5)).toArray):=λG dc=>by
  have hm:Nat.min 1 (cap+1-i)=1:=by show min _ _=_;omega
  have:=cJ (P:=Tryz.prog) W0 23 23 G 37 5 N (i*5) (cap+1-i) dc (Tw gv 0) 1 1 (bR (l.take i)++Z).toArray 37 (bR [d]) underlying23 km ag (by rw[aS,hm];rfl) (fy (cur:=bR [d]) (by rw[pJ];exact au) 0 _ (λj v M=>by rw[R3];exact M)) (by rw[aS];simp[hA,Q];omega) (bY _);rw[hm]at this
  simpa[aS]using this
 obtain⟨c1,aa⟩:∃c1:List Value,(bR (l.take i)++Z).take (i*5)++bR [d]++(bR (l.take i)++Z).drop (i*5+5)=c1:=⟨_,rfl⟩;rw[aa]at I;have ay:c1.length=C*5:=by rw[<-aa];simp only[IO,Sk,Sj,aS,hA,Q,List.length_cons,List.length_nil,hn];omega
 obtain⟨W1,H⟩:=ea (W0.setRow N c1.toArray);rw[H]at I;have ah:W1.heap[N]?=some (.cells c1.toArray 37 (0,0)):=by rw[<-H];exact UT W0 N _ _ _ _ ag
 have aw:Kp (λk=>k=b) W W1:=by rw[<-H];exact(Kp.of_below O).step (Kp.setRow W0 N c1.toArray) (λk hk e=>by omega)
 have bb:W1.heap[b]?=some (.cells (bR l).toArray 37 (0,0)):=by rw[<-H,setRow_other W0 N b _ (by omega)];exact ba
 have ac:∀G dc sc,(Builtin.copy_ #[23,23] G #[.slice (some ⟨N,(i+1)*5,none⟩) (cap-i) dc,.slice (some ⟨b,i*5,none⟩) (cap-i) sc]).run Tryz.prog W1.drew=.ok (goInt ((cap-i:Nat):Int)) (W1.drew.setRow N (c1.take ((i+1)*5)++bR (l.drop i)++c1.drop ((i+1)*5+(bR (l.drop i)).length)).toArray):=λG dc sc=>by
  have hm:Nat.min (cap-i) (cap-i)=cap-i:=by show min _ _=_;omega
  have:=cJ (P:=Tryz.prog) W1.drew 23 23 G 37 5 N ((i+1)*5) (cap-i) dc ⟨b,i*5,none⟩ (cap-i) sc c1.toArray 37 (bR (l.drop i)) underlying23 km ah (by rw[hR,hm]) (fy (W:=W1.drew) bb (i*5) _ (λj v M=>by rw[<-pK,Sl]at M;exact M)) (by rw[hR];simp;omega) (bY _);rw[hm]at this
  simpa using this
 obtain⟨c2,ab⟩:∃c2:List Value,c1.take ((i+1)*5)++bR (l.drop i)++c1.drop ((i+1)*5+(bR (l.drop i)).length)=c2:=⟨_,rfl⟩;rw[ab]at ac
 have ad:c2=bR (l.take i++d :: l.drop i)++Z.drop (5+(bR (l.drop i)).length):=by
  have e3:bR (l.take i++d :: l.drop i)=bR (l.take i)++bR [d]++bR (l.drop i):=by rw[fV,show d :: l.drop i=[d]++l.drop i from rfl,fV,RW]
  have:=uC (bR (l.take i)) Z (bR [d]) (bR (l.drop i)) (i*5) 5 hA (by rw[aS];rfl) (by rw[hR,Q];omega);rw[aa,show i*5+5=(i+1)*5 by omega,ab]at this;rw[this,e3]
 have az:c2.length=C*5:=by rw[<-ab];simp only[IO,Sk,Sj,hR,ay];omega
 have ax:Kp (λk=>k=b) W (W1.drew.setRow N c2.toArray):=(aw.step (Kp.of_below (S:=λ_=>False) ((gt _ W1).drew)) (λ_ _ h=>h.elim)).step (Kp.setRow W1.drew N _) (λk hk e=>by omega);have aq:(W1.drew.setRow N c2.toArray).heap[N]?=some (.cells c2.toArray 37 (0,0)):=UT W1.drew N _ _ _ _ ah
 have HX:Hid (Rd (W1.drew.setRow N c2.toArray) (.slice (some (Tw N 0)) (cap+1) C) (l.take i++d :: l.drop i)/\Kp (λk=>k=b) W (W1.drew.setRow N c2.toArray)/\Nb W (.slice (some (Tw b 0)) cap cap) (.slice (some (Tw N 0)) (cap+1) C)):=by
  have ae:(l.take i++d :: l.drop i).length=cap+1:=by simp[hn];omega
  refine⟨⟨by rw[aS],.inr ⟨N,C,c2.toArray,by rw[ae],RU _,aq,by rw[ae];omega,an,by simp[az],?_⟩⟩,ax,.inr ⟨N,rfl,by omega⟩⟩;rw[ad,VH (by rw[aS])]
 rw[hn];clear h hb bf bg hR aa ay H ah aw ab az ax aq ad hg hn hC av bc al am hA Q hN hW0 O ag au ba bb an bh be;have z1:¬((i:Int)=(cap:Int)):=by omega
 have z2:IntKind.i64.wrap ((cap:Int)+1)=(cap:Int)+1:=by rw[Sn];omega
 have z3:(cap:Int)<(cap:Int)+1:=by omega
 have z4:IntKind.i64.wrap ((i:Int)+1)=(i:Int)+1:=by rw[Sn];omega
 have z5:¬(C=i+1):=by omega
 have z6:¬(cap=i):=by omega
 have z7:((i:Int)+1).toNat=i+1:=by omega
 have z8:(0:Int)<=(i:Int)+1:=by omega
 have z9:(i:Int)<=(cap:Int):=by omega
 have y1:IntKind.i64.wrap ((cap:Int)+1-(i:Int))=((cap+1-i:Nat):Int):=by rw[Sn];omega
 have y2:¬(C=i):=by omega
 have y3:(i:Int)<=(cap:Int)+1:=by omega
 have y5:(i:Int)+1<=(cap:Int)+1:=by omega
 go_enter func158,ntmps158
 go_wp2_with(first|(at_builtin;refine mR _ rfl _ _ 23 3 rfl _ _ rfl rfl (Y _) ?_)|(at_builtin;refine wpList_copy_r _ rfl _ _ 23 23 rfl _ _ rfl rfl (I _ _) ?_))
 go_region_law (refine step_copy_r rfl _ _ 23 23 rfl _ _ (by simp[Act.eval,Act.put]) (by simp[Act.eval,Act.put]) (ac _ _ _) ?_)
 (go_wp2_with fail);go_ret;exact⟨_,rfl,HX.out⟩
def yB (d:Dc) {gv:Nat}(h:Rd W v l) (hi:i<=l.length) (M:W.heap[gv]?=some (.cells #[.int .u8 d.k,.string d.t,Tu d.b,Tu d.i,.bool d.e] 37 (0,0))) (O:v.ownBlock≠some gv) (hl:l.length<=1000000000) :
  Sa 158 #[v,Tu i,.slice (some (Tw gv 0)) 1 1] W λr w'=>∃v',Uk r v'/\Rd w' v' (l.take i++d :: l.drop i)/\Kp (λk=>v.ownBlock=some k) W w'/\Nb W v v':=by
 by_cases Y:i=l.length
 ·subst Y;rw[Te,T7];exact yA d h M hl
 ·have Q:i<l.length:=by omega
  rcases h.2 with⟨h3,h4⟩|⟨b,cap,Z,rfl,_⟩
  ·omega
  ·have u:gv≠b:=λe=>O (by rw[e];rfl)
   by_cases S:l.length+1<=cap
   ·refine(wq d h Q S M u hl).mono ?_;rintro r w'⟨v',G,H,I,J⟩;exact⟨v',G,H,I.sub (λk e=>by rw[e];rfl),J⟩
   ·refine(wu d h Q S M hl).mono ?_;rintro r w'⟨v',G,H,I,J⟩;exact⟨v',G,H,I.sub (λk e=>by rw[e];rfl),J⟩
def jH {G:Array Oper}{K:Act->World->Prop}{Q:Exit->Act->World->Prop}{E:Prop}
  (M:o.guard=none) (d x:Operand) (dT I:TypeId) (H:o.op=Op.call { callee:=Callee.builtin Builtin.append,args:=#[d,x],argTypes:=#[dT,I] })
  (v u:Value) (hd:a.eval d=v) (Y:a.eval x=u) {v':Value} {w':World} (O:(Builtin.append_ #[dT,I] o.type #[v,u]).run P w=.ok v' w') (J:K (a.put o.dst v') w') :
  if Region.wanted o (yielded G a.tmps)=true then Oper.wp P o a w K Q else E:=by
 have S:Region.wanted o (yielded G a.tmps)=true:=by simp[Region.wanted,M]
 rw[Or S];unfold Oper.wp;simp[execOp,H,resolve,invoke,builtin,hd,Y,O,Result.andThen];exact J
def qg (w:World) (b o n:Nat) (hn:0<n) (cur:List Value) (Y:w.heap[b]?=some (.cells cur.toArray 37 (0,0))) (ho:o+n*5<=cur.length) :
  ∃c2:List Value,(∀S c,(Builtin.clear_ #[23] S #[.slice (some (Tw b o)) n c]).run Tryz.prog w=.ok (.tuple #[]) (w.setRow b c2.toArray))/\c2.length=cur.length/\c2.take o=cur.take o:=by
 obtain⟨i0,M,O,aa,ab⟩:=iB;have hz:∀w,(zeroValue 37).run Tryz.prog w=.ok (.agg #[.int .u8 0,.string ⟨#[]⟩,Tu 0,Tu 0,.bool false]) w:=λw=>by simp[zeroValue,typeInfo,M,O]
 obtain⟨Z,H⟩:∃Z:List Value,(Builtin.zeroCells (Value.agg #[.int .u8 0,.string ⟨#[]⟩,Tu 0,Tu 0,.bool false]).cells n).toList=Z:=⟨_,rfl⟩;have u:Z.length=n*5:=by rw[<-H,Tb,size_zeroCells];rfl
 have J:∀v∈Z,v.oneCell'=true:=by
  intro v I;rw[<-H]at I;rw[Builtin.zeroCells,Array.mem_toList_iff,Array.mem_map]at I;obtain⟨k,_,rfl⟩:=I;have Q:k % 5<5:=TS _ (by omega);show Value.oneCell' (#[Value.int .u8 0,.string ⟨#[]⟩,Tu 0,Tu 0,.bool false][k % 5]!)=true;generalize k % 5=q at Q
  match q,Q with
  |0,_=>rfl
  |1,_=>rfl
  |2,_=>rfl
  |3,_=>rfl
  |4,_=>rfl
 have G:=We Tryz.prog b o 37 Z 0 cur.toArray w Y (by rw[u];simpa using ho) J;refine⟨cur.take o++Z++cur.drop (o+Z.length),?_,?_,?_⟩
 ·intro S c;obtain⟨m,rfl⟩:∃m,n=m+1:=⟨n-1,by omega⟩;simp only[Ua]at G;simp[Builtin.clear_,run_underlying underlying23,hz,H,G]
 ·simp only[IO,Sk,Sj,u];omega
 ·rw[RW,Tc (by rw[Sk];omega),Vj,Nat.min_self]
def jk {S:Nat->Prop}{B:Nat}{W':World}(h:Below B w W) (u:Kp S W W') (I:∀k,S k->B<=k) (H:B<=W.heap.size):Below B w W':=
 ⟨u.os.trans h.os,u.tape.trans h.tape,u.output.trans h.output,PI h.size u.size,λk G=>(u.block k (R4 G H) (λJ=>by have:=I k J;omega)).trans (h.block k G)⟩
def JZ (W:World):Rd (W.alloc (.cells #[] 37)) (.slice (some ⟨W.heap.size,0,none⟩) 0 0) []:=
 ⟨rfl,.inr ⟨_,0,#[],rfl,RU _,ak W _,ge _,RU _,rfl,rfl⟩⟩
def OC {I:Array Oper}{rest:List Oper}{Q:Exit->Act->World->Prop}(J:o.guard=none) (s x:Operand)
  (ho:o.op=.call { callee:=.builtin .append,args:=#[s,x],argTypes:=#[23,23] }) (v:Value) (l G:List Dc) (hs:a.eval s=v) (hr:Rd W v l)
  (ad:Addr) (c:Nat) (hx:a.eval x=.slice (some ad) G.length c) (hc:∀j u,(bR G)[j]?=some u->W.cell? (ad.add j)=some u) (hl:l.length+G.length<=2000000000)
  (h:∀v' w',Rd w' v' (l++G)->W.grownBy w' v.ownBlock->Nb W v v'->wpList Tryz.prog I Q rest (a.put o.dst v') w'):wpList Tryz.prog I Q (o :: rest) a W:=by
 obtain⟨i0,hi,M,O,S⟩:=Tf Tryz.info37;refine Th (P:=Tryz.prog) (w:=W) J s x 23 ho 0 37 i0 _ 5 48 underlying23 hi M O S rfl (by decide) v _ _ hs hr ad G.length c (bR G) hx (by rw[aS]) hc (bY G) (by unfold maxLen;omega) (by omega) (RU _) ?_;intro v' w' Y Z _ H;refine h v' w' ?_ Z ?_
 ·unfold Rd;rw[IO,fV];exact Y
 ·rcases H with H|H
  ·exact .inl H
  ·exact .inr ⟨_,H,ge _⟩
def Gg (h:Ld w (some (Tw b 0)) l):∀j u,(bR l)[j]?=some u->w.cell? (((Tw b 0):Addr).add j)=some u:=by
 intro j u J;have M:j<l.length*5:=by rw[<-aS];exact(RY.1 J).1
 obtain⟨d,hd⟩:∃d,l[j / 5]?=some d:=⟨_,Pi (by omega)⟩;obtain⟨b',off,e,c0,c1,c2,c3,c4⟩:=h _ d hd;cases e;have G:(bR l)[j / 5*5+j % 5]?=some u:=by rw[show j / 5*5+j % 5=j by omega];exact J
 have I:j % 5<5:=TS _ (by omega);rw[S8];have H:(0:Nat)+j=0+j / 5*5+j % 5:=by omega
 rw[H];generalize j % 5=q at G I ⊢
 match q,I with
 |0,_=>rw[show(bR l)[j / 5*5+0]?=_ from aP Dc.cs 5 Lw.Dc.cs_len l _ 0 _ _ hd rfl]at G;cases G;exact c0
 |1,_=>rw[show(bR l)[j / 5*5+1]?=_ from aP Dc.cs 5 Lw.Dc.cs_len l _ 1 _ _ hd rfl]at G;cases G;exact c1
 |2,_=>rw[show(bR l)[j / 5*5+2]?=_ from aP Dc.cs 5 Lw.Dc.cs_len l _ 2 _ _ hd rfl]at G;cases G;exact c2
 |3,_=>rw[show(bR l)[j / 5*5+3]?=_ from aP Dc.cs 5 Lw.Dc.cs_len l _ 3 _ _ hd rfl]at G;cases G;exact c3
 |4,_=>rw[show(bR l)[j / 5*5+4]?=_ from aP Dc.cs 5 Lw.Dc.cs_len l _ 4 _ _ hd rfl]at G;cases G;exact c4
def DD (W:World) (n c:Nat):Sa 216 #[.slice none n c] W λr w'=>Uk r (.slice none 0 0)/\w'=W:=by
 have u:(binOp .eql 23 (.slice none n c) (.slice none 0 0)).run Tryz.prog W=.ok (.bool true) W:=Lib.run_eql_slice_nil W _ _ none n c 0 0 underlying23;go_enter func216,ntmps216;(go_wp2_with fail);go_ret;exact⟨rfl,rfl⟩
def yQ {W:World}{b cap:Nat}{l:List Dc}(h:Ld W (some (Tw b 0)) l) (hl:l.length<=1000000000):Sa 216 #[.slice (some (Tw b 0)) l.length cap] W λr w'=>∃v',Uk r v'/\Rd w' v' l/\Below W.heap.size W w'/\∀k,v'.ownBlock=some k->W.heap.size<=k:=by
 have J:Hid (Below W.heap.size W (W.alloc (.cells #[] 37))):=(gt _ _).alloc (ge _) _;have HC:Hid (∀j u,(bR l)[j]?=some u->(W.alloc (.cells #[] 37)).cell? (((Tw b 0):Addr).add j)=some u):=Gg (h.below J.out);have O:=aW (JZ W);have Y:(W.alloc (.cells #[] 37)).heap.size=W.heap.size+1:=by show(W.heap.push _).size=_;simp
 have M:Hid (∀v' w',Rd w' v' ([]++l)->(W.alloc (.cells #[] 37)).grownBy w' (some W.heap.size)->Nb (W.alloc (.cells #[] 37)) (.slice (some ⟨W.heap.size,0,none⟩) 0 0) v'->Rd w' v' l/\Below W.heap.size W w'/\∀k,v'.ownBlock=some k->W.heap.size<=k):=λv' w' H I G=>by
  refine⟨H,jk J.out (Kp.of_grown I) (λk e=>by cases e;exact ge _) J.out.size ,λk e=>?_⟩
  rcases G with G|⟨q,S,Z⟩
  ·rw[G]at e;cases e;exact ge _
  ·rw[S]at e;cases e;omega
 have hE:(binOp .eql 23 (.slice (some (Tw b 0)) l.length cap) (.slice none 0 0)).run Tryz.prog W=.ok (.bool false) W:=Lib.run_eql_slice_nil W _ _ (some (Tw b 0)) l.length cap 0 0 underlying23;clear h Y;go_enter func216,ntmps216
 go_wp2_with(at_builtin;refine OC rfl _ _ rfl (.slice (some ⟨W.heap.size,0,none⟩) 0 0) [] l rfl O.out (Tw b 0) _ rfl HC.out (by simp;omega) ?_;intro v' w' H I G;have Q:=show Hid _ from M.out v' w' H I G;clear H I G)
 go_ret;exact⟨_,rfl,Q.out⟩
def wZ (v:Value) {l:List Dc}(h:Rd W v l) (hl:l.length<=1000000000):Sa 217 #[v,Tu 0,Tu 0] W λr w'=>Uk r v/\w'=W:=by
 obtain⟨p,cap,rfl,G,u⟩:=bv h;have H:(l.length:Int)<=(cap:Int):=by omega
 clear h u;cases p
 all_goals(
  go_enter func217,ntmps217;(go_wp2_with fail)
  all_goals(go_ret;exact⟨rfl,rfl⟩))
def wY {W:World}{b cap n:Nat}{l:List Dc}(h:Rd W (.slice (some (Tw b 0)) l.length cap) l) (ak:0<n) (al:n<=l.length) (hl:l.length<=1000000000) :
  Sa 217 #[.slice (some (Tw b 0)) l.length cap,Tu 0,Tu n] W λr w'=>Uk r (.slice (some (Tw b 0)) (l.length-n) cap)/\Rd w' (.slice (some (Tw b 0)) (l.length-n) cap) (l.drop n)/\Kp (λk=>k=b) W w':=by
 obtain⟨G,hb,ae,ai,af,ac⟩:∃G:List Value,W.heap[b]?=some (.cells G.toArray 37 (0,0))/\cap<=maxLen/\l.length<=cap/\G.length=cap*5/\G.take (l.length*5)=bR l:=by
  rcases h.2 with⟨h1,_⟩|⟨g,cap',G,h1,_,h3,h4,h5,h6,h7⟩
  ·cases h1
  ·cases h1;exact⟨G.toList,by simpa using h3,h5,h4,by simpa using h6,h7⟩
 obtain⟨m,hm⟩:=ea l.length;rw[hm]at al hl ai ac ⊢;obtain⟨i0,hi0,hz0,hz1,hz2⟩:=iB;have Z:(bR (l.drop n)).length=(m-n)*5:=by rw[aS,Sj,hm]
 obtain⟨Y,H⟩:∃Y:Nat,(if cap=n then 0 else n*5)=Y:=⟨_,rfl⟩
 have S:∀j u,(bR (l.drop n))[j]?=some u->W.cell? (((Tw b Y):Addr).add j)=some u:=by
  refine fy hb Y _ (λj v hj=>?_);have aj:=(RY.1 hj).1;rw[Z]at aj;rw[<-H,Eq (by omega)];rw[<-pK,Sl,<-ac,Sv]at hj
  split at hj
  ·exact hj
  ·cases hj
 have I:∀ty c,(Builtin.append_ #[23,23] ty #[.slice (some (Tw b 0)) 0 cap,.slice (some (Tw b Y)) (m-n) c]).run Tryz.prog W.drew=.ok (.slice (some (Tw b 0)) (m-n) cap) (W.drew.setRow b (bR (l.drop n)++G.drop ((m-n)*5)).toArray):=λty c=>by
  have:=run_append_room (P:=Tryz.prog) W.drew 23 ty 37 i0 underlying23 hi0 b 0 cap G.toArray hb (Tw b Y) (m-n) c (bR (l.drop n)) (by rw[Z,hz1]) S (bY _) (by omega) (by rw[Z];simp;omega)
  simpa[Z]using this
 obtain⟨c1,Q⟩:∃c1:List Value,bR (l.drop n)++G.drop ((m-n)*5)=c1:=⟨_,rfl⟩;rw[Q]at I;have ah:c1.length=cap*5:=by rw[<-Q,IO,Sj,Z,af];omega
 obtain⟨W1,O⟩:=ea (W.drew.setRow b c1.toArray);rw[O]at I;have aa:W1.heap[b]?=some (.cells c1.toArray 37 (0,0)):=by rw[<-O];exact UT W.drew b _ _ _ _ hb
 have ag:Kp (λk=>k=b) W W1:=by rw[<-O];exact((Kp.of_below ((gt _ W).drew)).step (Kp.setRow W.drew b c1.toArray) (λ_ _ h=>h))
 obtain⟨c2,J,h1,h2⟩:=qg W1 b ((m-n)*5) n ak c1 aa (by omega)
 have HX:Hid (Rd (W1.setRow b c2.toArray) (.slice (some (Tw b 0)) (m-n) cap) (l.drop n)/\Kp (λk=>k=b) W (W1.setRow b c2.toArray)):=by
  have M:(l.drop n).length=m-n:=by rw[Sj,hm]
  refine⟨⟨by rw[aS],.inr ⟨b,cap,c2.toArray,by rw[M],RU _,UT W1 b _ _ _ _ aa,by rw[M];omega,ae,by simp[h1,ah],?_⟩⟩,ag.trans (Kp.setRow W1 b _)⟩;rw[M];show c2.take _=_;rw[h2,<-Q,VH Z]
 have am:(if cap=n then((Tw b 0):Addr)else⟨b,n*5,none⟩)=(Tw b Y):=by rw[<-H];split<;>rfl
 clear h1 h2 h hb ae af Z Q ah O aa ag ac hi0 hz0 hz1 hz2 S hm;have z1:¬((0:Int)=(n:Int)):=by omega
 have z2:(0:Int)<=(n:Int):=by omega
 have z3:(n:Int)<=(m:Int):=by omega
 have z4:(m:Int)<=(cap:Int):=by omega
 have z5:((m-n:Nat):Int)<=(m:Int):=by omega
 have z6:¬(cap=m-n):=by omega
 have z7:m-(m-n)=n:=by omega
 have z8:(n:Int)<=(cap:Int):=by omega
 by_cases ab:cap=n
 ·rw[Or ab]at H;subst H;have e0:m=n:=by omega
  subst e0;subst ab;clear z3 z4 z5 z7 z8;have z9:cap-cap=0:=by omega
  rw[z9]at I J HX ⊢;go_enter func217,ntmps217;(go_wp2_with fail)
  go_region_law (refine jH (by rfl) _ _ 23 23 (by rfl) (.slice (some (Tw b 0)) 0 cap) (.slice (some (Tw b 0)) 0 0) (by simp[Act.eval,Act.put]) (by simp[Act.eval,Act.put]) (I _ _) ?_)
  all_goals(
   go_wp2_with(at_builtin;refine wpList_clear_r _ (by rfl) _ 23 (by rfl) (.slice (some ⟨b,0*5,none⟩) cap _) (by rfl) (J _ _) ?_)
   go_ret;exact⟨rfl,HX.out⟩)
 ·rw[Eq ab]at H;subst H;go_enter func217,ntmps217;(go_wp2_with fail)
  go_region_law (refine jH (by rfl) _ _ 23 23 (by rfl) (.slice (some (Tw b 0)) 0 cap) (.slice (some ⟨b,n*5,none⟩) (m-n) (cap-n)) (by simp[Act.eval,Act.put]) (by simp[Act.eval,Act.put]) (I _ _) ?_)
  all_goals(
   go_wp2_with(at_builtin;refine wpList_clear_r _ (by rfl) _ 23 (by rfl) (.slice (some ⟨b,(m-n)*5,none⟩) n _) (by rfl) (J _ _) ?_)
   go_ret;exact⟨rfl,HX.out⟩)
def An (S:Nat->Prop) (g:Nat) (W W':World) (v:Value) (l:List Dc) (st:Sy):Prop:=
 (∃S',SS S' W' g st/\(∀k,S' k->S k\/W.heap.size<=k)/\∀k,v.ownBlock=some k->(S k\/W.heap.size<=k)/\¬S' k)/\Rd W' v l/\Kp S W W'
def Ji (p:α->Bool) (l:List α) (k:Nat) (u:k<=l.length) (h:∀x∈l.take k,p x=true) (H:∀x,l[k]?=some x->p x=false):l.takeWhile p=l.take k/\l.dropWhile p=l.drop k:=by
 induction l generalizing k with
 |nil=>simp at u;subst u;simp
 |cons a r ih=>
  cases k with
  |zero=>
   have:=H a rfl;simp[List.takeWhile_cons,List.dropWhile_cons,this]
  |succ k=>
   have I:=h a (by simp);obtain⟨J,M⟩:=ih k (by simpa using u) (λx G=>h x (by simp[G])) (λx G=>H x (by simpa using G));simp[List.takeWhile_cons,List.dropWhile_cons,I,J,M]
def oC {S:Nat->Prop}(h:SS S W g st) (hl:st.ws.length<=1000000000) :
  Sa 156 #[bP g] W λr w'=>∃v,Uk r v/\An S g W w' v (st.ws.takeWhile br) { st with ws:=st.ws.dropWhile br }:=by
 obtain⟨vn,vw,hv,s1,s2⟩:=h.ex;have ae:=h.sg;have u:=h.lt;obtain⟨p,cap,e,hc1,hc2⟩:=bv hv.rd;subst e;obtain⟨L,hL⟩:=ea st.ws;have am:L.length<=1000000000:=by rw[<-hL];exact hl
 have al:L.length<=cap:=by rw[<-hL];exact hc1
 have HV:Hid (∀V,Se W V->V.cell? (Tw g 2)=some (.slice p L.length cap)/\V.frozen? (Tw g 2)=false/\Ld V p L):=λV G=>by
  have:=hv.below G;rw[<-hL];exact⟨this.sb.cells.2.2.1,this.sb.frozen 2,vm this.rd⟩
 have HD:Hid (∀(n:Nat),n<=L.length->∀V,Se W V->Sa 216 #[.slice p n cap] V λr w'=>∃v,Uk r v/\Rd w' v (L.take n)/\Se W w'/\(∀k,v.ownBlock=some k->W.heap.size<=k)):=λn hn V G=>by
  have hq:=hv.below G;have M:=hq.rd;rw[hL]at M;cases p with
  |none=>
   refine(DD V n cap).mono ?_;rintro r w'⟨rfl,rfl⟩
   have h0:L=[]:=by
    rcases M.2 with⟨_,h0⟩|⟨_,_,_,J,_⟩
    ·exact R6 h0
    ·cases J
   refine⟨_,rfl,by rw[h0,List.take_nil];exact lL _,G,λk e=>by cases e⟩
  |some a=>
   obtain⟨b,ha⟩:∃b,a=(Tw b 0):=by
    rcases M.2 with⟨J,_⟩|⟨b,_,_,J,_⟩
    ·cases J
    ·cases J;exact⟨b,rfl⟩
   subst ha;have aj:(L.take n).length=n:=by rw[Sk];omega
   have:=yQ (cap:=cap) ((vm M).take n) (by omega);rw[aj]at this;refine this.mono ?_;rintro r w'⟨v',rfl,Y,I,a3⟩;exact⟨v',rfl,Y,G.trans (I.mono G.size),λk e=>PI G.size (a3 k e)⟩
 have HE:Hid (∀(n:Nat),n<=L.length->(L.takeWhile br=L.take n/\L.dropWhile br=L.drop n)->∀V v,Se W V->Rd V v (L.take n)->(∀k,v.ownBlock=some k->W.heap.size<=k)->Sa 217 #[.slice p L.length cap,Tu 0,Tu n] V λr w'=>∃p' n' c',Uk r (.slice p' n' c')/\(w'.cell? (Tw g 2)=some (.slice p L.length cap)/\w'.frozen? (Tw g 2)=false)/\An S g W (w'.setCell ⟨g,2,none⟩ (.slice p' n' c')) v (L.takeWhile br) { st with ws:=L.dropWhile br }):=λn hn af V v G ah ag=>by
  have hq:=hv.below G;have M:=hq.rd;rw[hL]at M;rw[af.1,af.2]
  have fin:∀(w':World) (v':Value),Rd w' v' (L.drop n)->Kp (λk=>(Value.slice p L.length cap).ownBlock=some k) V w'->Nb V (.slice p L.length cap) v'->(w'.cell? (Tw g 2)=some (.slice p L.length cap)/\w'.frozen? (Tw g 2)=false)/\An S g W (w'.setCell ⟨g,2,none⟩ v') v (L.take n) { st with ws:=L.drop n }:=λw' v' b1 b2 b3=>by
   have ak:SV V g st vn (.slice p L.length cap):=by rw[<-hL];exact hq
   obtain⟨c1,c2⟩:=ak.ws (gt _ _) b2 b1 b3;refine⟨c1,?_⟩;obtain⟨vw',d1,d2⟩:=c2.ex;have Q:∀k,v.ownBlock=some k->¬S k:=λk e hs=>by have:=u k hs;have:=ag k e;omega
   have aa:Kp S V (w'.setCell ⟨g,2,none⟩ v'):=c2.kp.sub (by rintro k (e|e);rw[e];exact ae;exact s2 k (by rw[hL];exact e));refine⟨⟨λk=>S k\/(W.heap.size<=k/\vw'.ownBlock=some k),⟨⟨vn,vw',d1,λk e=>.inl (s1 k e),λk e=>?_⟩,.inl ae,?_⟩,?_,?_⟩,Ac ah aa Q,(Kp.of_below G).step aa (λ_ _ h=>h)⟩
   ·rcases d2 with d2|⟨q,ab,ad⟩
    ·exact .inl (s2 k (by rw[hL,<-d2];exact e))
    ·exact .inr ⟨by rw[ab]at e;cases e;exact PI G.size ad,e⟩
   ·rintro k (a|a)
    ·exact R4 (u k a) (PI G.size aa.size)
    ·exact gQ d1.rd k a.2
   ·rintro k (a|a)
    ·exact .inl a
    ·exact .inr a.1
   ·intro k e;refine⟨.inr (ag k e),?_⟩;rintro(a|a)
    ·exact Q k e a
    ·rcases d2 with d2|⟨q,ab,ad⟩
     ·have hs:=s2 k (by rw[hL,<-d2];exact a.2);exact Q k e hs
     ·rw[ab]at a;have h9:=gQ ah k e;have:q=k:=by simpa using a.2
      omega
  by_cases h0:n=0
  ·subst h0;refine(wZ (.slice p L.length cap) M (by omega)).mono ?_;rintro r w'⟨rfl,rfl⟩;exact⟨_,_,_,rfl,fin _ _ (by rw[List.drop_zero];exact M) (Kp.refl _ _) (.inl rfl)⟩
  ·cases p with
   |none=>
    have ai:L=[]:=by
     rcases M.2 with⟨_,h0⟩|⟨_,_,_,J,_⟩
     ·exact R6 h0
     ·cases J
    rw[ai]at hn;simp at hn;exact absurd hn h0
   |some a=>
    obtain⟨b,ha⟩:∃b,a=(Tw b 0):=by
     rcases M.2 with⟨J,_⟩|⟨b,_,_,J,_⟩
     ·cases J
     ·cases J;exact⟨b,rfl⟩
    subst ha;refine(wY (n:=n) M (by omega) hn (by omega)).mono ?_;rintro r w'⟨rfl,Y,I⟩;exact⟨_,_,_,rfl,fin _ _ Y (I.sub (λk e=>by rw[e];rfl)) (.inl rfl)⟩
 have HP:=aW wn;rw[hL]at ⊢;clear hv h s1 s2 hL u hl;have HT:=aW λn (a:n<=L.length) (b:(∀x∈L.take n,br x=true)) (c:(∀x,L[n]?=some x->br x=false))=>Ji br L n a b c
 go_enter func156,ntmps156;(go_wp2_with fail)
 go_loopw [3] (λi wr=>∃k:Nat,k<=L.length/\i=Tu k/\Hid (∀x∈L.take k,br x=true)/\Hid (Below W.heap.size W wr)) (λi _=>L.length-(intOf i).toNat)
 case atStart=>exact⟨0,RU _,rfl,λx hx=>by simp at hx,gt _ _⟩
 case round=>
  obtain⟨k,hk,rfl,HI,HB⟩:=hrel;obtain⟨x1,x2,x3⟩:=HV.out _ HB.out;have HL:=aW x3;clear x2 x3;have fin:∀w1,Hid (Below W.heap.size W w1)->(L.takeWhile br=L.take k/\L.dropWhile br=L.drop k)->True:=λ_ _ _=>trivial
  by_cases u:k<L.length
  ·have q1:(k:Int)<L.length:=by omega
   have q0:(0:Int)<=k:=by omega
   obtain⟨x,hx⟩:∃x,L[k]?=some x:=⟨_,Pi u⟩;obtain⟨b,off,rfl,c0,c1,c2,c3,c4⟩:=HL.out k x hx
   by_cases he:br x=true
   ·have HN:Hid (∀y∈L.take (k+1),br y=true):=λy H=>by
     rw[T2,hx]at H
     rcases Ss.1 H with H|H
     ·exact HI.out y H
     ·simp at H;rw[H];exact he
    clear hx
    go_wp2_with(go_at_call 215;refine(HP.out x _).mono ?_;rintro e w1⟨rfl,O⟩;rw[he];have HC:=aW (HB.out.trans (O.mono HB.out.size));clear O)
    exact⟨⟨k+1,u,by go_num,HN,HC⟩,by simp[intOf];omega⟩
   ·have ac:br x=false:=by simpa using he
    have HW:=aW (HT.out k hk HI.out (λy H=>by rw[hx]at H;cases H;exact ac));have q3:(k:Int)<=cap:=by omega
    clear he hx fin
    go_wp2_with(first|(go_at_call 215;refine(HP.out x _).mono ?_;rintro e w1⟨rfl,O⟩;rw[ac];have Z:=aW (HB.out.trans (O.mono HB.out.size));obtain⟨z1,_,_⟩:=HV.out _ Z.out;clear O)|(go_at_call 216;refine(HD.out k hk _ Z.out).mono ?_;rintro e w2⟨v2,rfl,Y,I,a3⟩;have HR:Hid (Rd w2 v2 (L.take k)/\Se W w2/\∀k,v2.ownBlock=some k->W.heap.size<=k):=⟨Y,I,a3⟩;obtain⟨y1,_,_⟩:=HV.out _ I;clear Y I a3)|(go_at_call 217;refine(HE.out k hk HW.out _ _ HR.out.2.1 HR.out.1 HR.out.2.2).mono ?_;rintro e w3⟨p3,n3,c3,rfl,⟨y2,y3⟩,y4⟩;have HX:=aW y4;clear y4))
    go_ret;exact⟨_,rfl,HX.out⟩
  ·obtain rfl:k=L.length:=by omega
   have HW:=aW (HT.out _ hk HI.out (λy H=>by simp at H));have q1:¬((L.length:Int)<L.length):=by omega
   have q3:(L.length:Int)<=cap:=by omega
   have Z:=aW HB.out;clear fin
   go_wp2_with(first|(go_at_call 216;refine(HD.out L.length hk _ Z.out).mono ?_;rintro e w2⟨v2,rfl,Y,I,a3⟩;have HR:Hid (Rd w2 v2 (L.take L.length)/\Se W w2/\∀k,v2.ownBlock=some k->W.heap.size<=k):=⟨Y,I,a3⟩;obtain⟨y1,_,_⟩:=HV.out _ I;clear Y I a3)|(go_at_call 217;refine(HE.out L.length hk HW.out _ _ HR.out.2.1 HR.out.1 HR.out.2.2).mono ?_;rintro e w3⟨p3,n3,c3,rfl,⟨y2,y3⟩,y4⟩;have HX:=aW y4;clear y4))
   go_ret;exact⟨_,rfl,HX.out⟩
def ww {S:Nat->Prop}{vn:Value}{p:Option Addr}{u:Nat}(H:SV W g st vn (.slice p u cap)) (hs:S g) (h1:∀k,vn.ownBlock=some k->S k) (h2:∀k,(Value.slice p u cap).ownBlock=some k->S k) (hl:st.ws.length<=1000000000) (d:Dc) {i:Nat}(hi:i<=st.ws.length) {V:World}(I:Se W V) :
  Sa 158 #[.slice p u cap,Tu i,.slice (some ⟨V.heap.size,0,none⟩) 1 1] (V.alloc (.cells #[.int .u8 d.k,.string d.t,Tu d.b,Tu d.i,.bool d.e] 37)) λr w'=>∃J Q c',Uk r (.slice J Q c')/\(w'.cell? (Tw g 2)=some (.slice p u cap)/\w'.frozen? (Tw g 2)=false)/\Mv S g W (w'.setCell ⟨g,2,none⟩ (.slice J Q c')) { st with ws:=st.ws.take i++d :: st.ws.drop i }:=by
 have G:Se W (V.alloc (.cells #[.int .u8 d.k,.string d.t,Tu d.b,Tu d.i,.bool d.e] 37)):=I.alloc I.size _;have hq:=H.below G;have M:(Value.slice p u cap).ownBlock≠some V.heap.size:=λe=>by have:=gQ (H.below I).rd _ e;omega
 refine(yB d hq.rd hi (ak V _) M hl).mono ?_;rintro r w'⟨v',rfl,O,Y,Z⟩;obtain⟨J,c',e,_⟩:=bv O;obtain⟨c1,c2⟩:=H.ws G Y O Z;subst e;exact⟨_,_,_,rfl,c1,c2.mv H hs h1 h2⟩
def mN {S:Nat->Prop}(h:SS S W g st) (hl:st.ws.length<=1000000000) :
  Sa 86 #[bP g] W λr w'=>Uk r (.tuple #[])/\Mv S g W w' st.endl:=by
 obtain⟨vn,vw,G,Z,s2⟩:=h.ex;have aa:=h.sg;obtain⟨p,cap,e,hc1,hc2⟩:=bv G.rd;subst e;obtain⟨c0,c1,c2,c3,c4,c5,c6,c7⟩:=G.sb.cells
 by_cases O:st.en=true
 ·have Q:=aW (DM G hl)
  by_cases Y:st.ws.any fi=true
  ·have H:st.endl=st:=by unfold Sy.endl;rw[Eq (by rw[Y];simp)]
   have HM:Hid (∀V,Se W V->Mv S g W V st.endl):=λV M=>by rw[H];exact Mv.quiet h M
   rw[Y]at Q;rw[O]at c6;clear h G Z s2 H;go_enter func86,ntmps86
   go_wp2_with(go_at_call 152;refine Q.out.mono ?_;rintro r w1⟨rfl,u⟩;have HX:=show Hid (Mv S g W w1 st.endl)from HM.out _ u;clear u)
   go_end0;exact⟨rfl,HX.out⟩
  ·have I:st.ws.any fi=false:=by simpa using Y
   have H:st.endl={ st with ws:=st.ws.take 0++dH :: st.ws.drop 0 }:=by unfold Sy.endl;rw[Or ⟨O,I⟩];rfl
   have HC:Hid (∀V,Se W V->V.cell? (Tw g 2)=some (.slice p st.ws.length cap)/\g<V.heap.size):=λV M=>⟨(G.below M).sb.cells.2.2.1,(G.below M).sb.lt⟩
   have HI:Hid (∀V,Se W V->Sa 158 #[.slice p st.ws.length cap,Tu 0,.slice (some ⟨V.heap.size,0,none⟩) 1 1] (V.alloc (.cells #[.int .u8 4,.string ⟨#[]⟩,Tu 0,Tu 0,.bool false] 37)) λr w'=>∃p' n' c',Uk r (.slice p' n' c')/\(w'.cell? (Tw g 2)=some (.slice p st.ws.length cap)/\w'.frozen? (Tw g 2)=false)/\Mv S g W (w'.setCell ⟨g,2,none⟩ (.slice p' n' c')) st.endl):=λV M=>by rw[H];exact ww G aa Z s2 hl dH (i:=0) (RU _) M
   rw[I]at Q;rw[O]at c6;clear h G Z s2 H Y I O;go_enter func86,ntmps86
   go_wp2_with(first|(go_at_call 152;refine Q.out.mono ?_;rintro r w1⟨rfl,u⟩;have HB:=show Hid (Below W.heap.size W w1)from u;obtain⟨x1,x2⟩:=HC.out _ u;clear u)|(go_at_call 158;refine(HI.out _ HB.out).mono ?_;rintro r w3⟨p3,n3,c3,rfl,⟨y2,y3⟩,y4⟩;have HX:=aW y4;clear y4))
   go_end0;exact⟨rfl,HX.out⟩
 ·have J:st.en=false:=by simpa using O
  have H:st.endl=st:=by unfold Sy.endl;rw[Eq (by rw[J];simp)]
  have HM:Hid (Mv S g W W st.endl):=by rw[H];exact Mv.refl h
  rw[J]at c6;clear h G Z s2 H O J;go_enter func86,ntmps86;(go_wp2_with fail);go_end0;exact⟨rfl,HM.out⟩
