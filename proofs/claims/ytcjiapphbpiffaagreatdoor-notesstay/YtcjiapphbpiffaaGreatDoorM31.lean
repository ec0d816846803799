import Derived.Lib.Overlaps
import Derived.Lib.AppendZerosOnto
import Derived.Laws.Externs
import Derived.Lib.SliceRun
import Derived.Test.YtcjiapphbpiffaaGreatDoorM30
set_option linter.unusedVariables false
set_option linter.unusedSimpArgs false
set_option maxHeartbeats 4000000
set_option maxRecDepth 100000
namespace Go.Proofs.YtcjiapphbpiffaaGreatDoor
open Go.RowKit
open Lw (Dc bE rt cG dD fu iC bZ aX cy)
variable {W w:World}{l:List Dc}{b cap i g:Nat}{st:Sy}{α:Type}{v:Value}{P:Program}{o:Oper}{a:Act}
theorem Kp.setRow (w:World) (g:Nat) (cs:Array Value):Kp (fun j=>j=g) w (w.setRow g cs):=
 ⟨rfl,rfl,rfl,by show _<=(w.setRow g cs).heap.size;simp [World.setRow],fun j F C=>setRow_other w g j cs C⟩
theorem iV:∃C,Tryz.prog.info? 89=some C/\C.zero=some (.agg #[.int .u8 0,.string ⟨#[]⟩,.int .i64 0,.int .i64 0,.bool false])/\C.size=5/\C.bytes=48:=T7 Tryz.info89
theorem kF:(Tryz.prog.info? 89).map (·.size)=some 5:=by
 obtain ⟨G,F,_,C,_⟩:=iV;rw [F];simp [C]
theorem gi {W:World}{g:Nat}{cur:List Value}{t:TypeId}{f:Nat × Nat}(h:W.heap[g]?=some (.cells cur.toArray t f)) (o:Nat) (cs:List Value) (hc:∀j v,cs[j]?=some v->cur[o+j]?=some v):∀j v,cs[j]?=some v->W.cell? ((⟨g,o,none⟩:Addr).add j)=some v:=by
 intro j v C;rw [UA];simp [World.cell?,h,hc j v C]
theorem xh (l:List Dc) (k:Nat):(bZ l).take (k*5)=bZ (l.take k):=rN Dc.cs 5 Lw.Dc.cs_len k l
theorem qr (l:List Dc) (k:Nat):(bZ l).drop (k*5)=bZ (l.drop k):=mh Dc.cs 5 Lw.Dc.cs_len k l
theorem qq (d:Dc):bZ [d]=[.int .u8 d.k,.string d.t,.int .i64 d.b,.int .i64 d.i,.bool d.e]:=by simp [bZ,bB,Dc.cs]
theorem uX (A Z D R:List α) (k m:Nat) (G:A.length=k) (F:D.length=m) (H:m+R.length<=Z.length) :
  ((A++Z).take k++D++(A++Z).drop (k+m)).take (k+m)++R++((A++Z).take k++D++(A++Z).drop (k+m)).drop (k+m+R.length)=A++D++R++Z.drop (m+R.length):=by
 subst G;subst F;rw [List.take_left,V6,Ua (by omega),TB,VJ];have C:(A++D).length=A.length+D.length:=Or;rw [TT (by omega),<-C,T4,V6,Ua (by omega),TB,VJ,List.drop_drop]
theorem yI (d:Dc) {gv:Nat}(h:Rd W v l) (Q:W.heap[gv]?=some (.cells #[.int .u8 d.k,.string d.t,.int .i64 d.b,.int .i64 d.i,.bool d.e] 89 (0,0))) (U:l.length<=1000000000) :
  Ta 138 #[v,.int .i64 l.length,.slice (some ⟨gv,0,none⟩) 1 1] W fun r w'=>∃v',r=.returned v'/\Rd w' v' (l++[d])/\Kp (fun k=>v.ownBlock=some k) W w'/\Nb W v v':=by
 obtain ⟨p,cap,rfl,S,I⟩:=bG h;have O:Hid (Rd W (.slice p l.length cap) l):=h;have M:Hid (W.heap[gv]?=some (.cells (bZ [d]).toArray 89 (0,0))):=by rw [qq];exact Q
 have Y:(0:Int)<=l.length:=by omega
 have Z:(cap:Int)<=9223372036854775807:=by unfold maxLen at I;omega
 clear h Q
 by_cases J:cap=l.length
 ·subst J
  go_enter Xf,WR
  go_wp2_with (at_builtin;refine sd rfl _ _ rfl (.slice p l.length l.length) l [d] rfl O.out gv 1 rfl M.out (by simp;omega) ?_;intro v' w' C F G;have H:Hid (Rd w' v' (l++[d])/\Kp (fun k=>(Value.slice p l.length l.length).ownBlock=some k) W w'/\Nb W (.slice p l.length l.length) v'):=⟨C,(Kp.of_grown F).sub (fun k e=>e.symm),G⟩;clear C F G)
  go_ret
  exact ⟨_,rfl,H.out⟩
 ·go_enter Xf,WR
  go_wp2_with (at_builtin;refine sd rfl _ _ rfl (.slice p l.length cap) l [d] rfl O.out gv 1 rfl M.out (by simp;omega) ?_;intro v' w' C F G;have H:Hid (Rd w' v' (l++[d])/\Kp (fun k=>(Value.slice p l.length cap).ownBlock=some k) W w'/\Nb W (.slice p l.length cap) v'):=⟨C,(Kp.of_grown F).sub (fun k e=>e.symm),G⟩;clear C F G)
  go_ret
  exact ⟨_,rfl,H.out⟩
theorem wA (d:Dc) {gv:Nat}(h:Rd W (.slice (some ⟨b,0,none⟩) l.length cap) l) (hi:i<l.length) (ad:l.length+1<=cap) (hg:W.heap[gv]?=some (.cells #[.int .u8 d.k,.string d.t,.int .i64 d.b,.int .i64 d.i,.bool d.e] 89 (0,0))) (aj:gv≠b) (hl:l.length<=1000000000) :
  Ta 138 #[.slice (some ⟨b,0,none⟩) l.length cap,.int .i64 i,.slice (some ⟨gv,0,none⟩) 1 1] W fun r w'=>∃v',r=.returned v'/\Rd w' v' (l.take i++d :: l.drop i)/\Kp (fun k=>k=b) W w'/\Nb W (.slice (some ⟨b,0,none⟩) l.length cap) v':=by
 obtain ⟨C,hb,ab,F,O⟩:∃C:List Value,W.heap[b]?=some (.cells C.toArray 89 (0,0))/\cap<=maxLen/\C.length=cap*5/\C.take (l.length*5)=bZ l:=by
  rcases h.2 with ⟨h1,_⟩|⟨g,cap',C,h1,_,h3,_,h5,h6,h7⟩
  ·cases h1
  ·cases h1;exact ⟨C.toList,by simpa using h3,h5,by simpa using h6,h7⟩
 obtain ⟨n,Y⟩:∃n,l.length=n:=⟨_,rfl⟩;rw [Y] at hi ad hl O;have an:(cap:Int)<=9223372036854775807:=by unfold maxLen at ab;omega
 have hR:(bZ (l.drop i)).length=(n-i)*5:=by rw [aX,Tw,Y]
 have H:∀Z U sc,(Builtin.copy_ #[56,56] Z #[.slice (some ⟨b,(i+1)*5,none⟩) (n-i) U,.slice (some ⟨b,i*5,none⟩) (n+1-i) sc]).run Tryz.prog W.drew=.ok (goInt ((n-i:Nat):Int)) (W.drew.setRow b (C.take ((i+1)*5)++bZ (l.drop i)++C.drop ((i+1)*5+(bZ (l.drop i)).length)).toArray):=fun Z U sc=>by
  have hm:Nat.min (n+1-i) (n-i)=n-i:=by show min _ _=_;omega
  have:=eL (P:=Tryz.prog) W.drew 56 56 Z 89 5 b ((i+1)*5) (n-i) U ⟨b,i*5,none⟩ (n+1-i) sc C.toArray 89 (bZ (l.drop i)) TM kF hb (by rw [hR,hm]) (gi (W:=W.drew) hb (i*5) _ (fun j v hj=>by
   rw [<-qr,TK,<-O,TV] at hj
   split at hj
   ·exact hj
   ·cases hj)) (by rw [hR];simp;omega) (cy _)
  rw [hm] at this
  simpa using this
 obtain ⟨c1,G⟩:∃c1:List Value,C.take ((i+1)*5)++bZ (l.drop i)++C.drop ((i+1)*5+(bZ (l.drop i)).length)=c1:=⟨_,rfl⟩;rw [G] at H;have ah:c1.length=cap*5:=by rw [<-G];simp only [Or,Ty,Tw,hR,F];omega
 obtain ⟨W1,J⟩:∃W1,W.drew.setRow b c1.toArray=W1:=⟨_,rfl⟩;rw [J] at H;have aa:W1.heap[b]?=some (.cells c1.toArray 89 (0,0)):=by rw [<-J];exact VT W.drew b _ _ _ _ hb
 have ac:Kp (fun k=>k=b) W W1:=by rw [<-J];exact ((Kp.of_below ((hH _ W).drew)).step (Kp.setRow W.drew b c1.toArray) (fun _ _ h=>h))
 have af:=ac.blk hg aj
 have Q:∀Z U,(Builtin.copy_ #[56,56] Z #[.slice (some ⟨b,i*5,none⟩) (n+1-i) U,.slice (some ⟨gv,0,none⟩) 1 1]).run Tryz.prog W1=.ok (goInt 1) (W1.setRow b (c1.take (i*5)++bZ [d]++c1.drop (i*5+5)).toArray):=fun Z U=>by
  have hm:Nat.min 1 (n+1-i)=1:=by show min _ _=_;omega
  have:=eL (P:=Tryz.prog) W1 56 56 Z 89 5 b (i*5) (n+1-i) U ⟨gv,0,none⟩ 1 1 c1.toArray 89 (bZ [d]) TM kF aa (by rw [aX,hm];rfl) (gi (cur:=bZ [d]) (by rw [qq];exact af) 0 _ (fun j v hj=>by rw [Td];exact hj)) (by rw [aX];simp;omega) (cy _);rw [hm] at this
  simpa [aX] using this
 obtain ⟨c2,M⟩:∃c2:List Value,c1.take (i*5)++bZ [d]++c1.drop (i*5+5)=c2:=⟨_,rfl⟩;rw [M] at Q;have ai:c2.length=cap*5:=by rw [<-M];simp only [Or,Ty,Tw,aX,ah,List.length_cons,List.length_nil];omega
 have ag:Kp (fun k=>k=b) W (W1.setRow b c2.toArray):=ac.trans (Kp.setRow W1 b _);have ae:(W1.setRow b c2.toArray).heap[b]?=some (.cells c2.toArray 89 (0,0)):=VT W1 b _ _ _ _ aa
 have S:c2.take ((n+1)*5)=bZ (l.take i++d :: l.drop i):=by
  have e1:c1.take (i*5)=bZ (l.take i):=by
   rw [<-G,S5,TT (by rw [Ty,F];omega),VV,Xb (by omega),<-xh,<-O,VV,Xb (by omega)]
  have e2:c1.drop (i*5+5)=bZ (l.drop i)++C.drop ((i+1)*5+(bZ (l.drop i)).length):=by
   rw [<-G,S5,V6,Ua (by rw [Ty,F];omega),TB,Ty,F];rw [show i*5+5-min ((i+1)*5) (cap*5)=0 by omega,VW]
  have e3:bZ (l.take i++d :: l.drop i)=bZ (l.take i)++(bZ [d]++bZ (l.drop i)):=by rw [gM,show d :: l.drop i=[d]++l.drop i from rfl,gM]
  rw [<-M,e1,e2,e3,S5,<-S5 (bZ [d]),<-S5];rw [TT (by simp only [Or,aX,Ty,Tw,Y,List.length_cons,List.length_nil];omega)];rw [TZ (by simp only [Or,aX,Ty,Tw,Y,List.length_cons,List.length_nil];omega)]
 have HX:Hid (Rd (W1.setRow b c2.toArray) (.slice (some ⟨b,0,none⟩) (n+1) cap) (l.take i++d :: l.drop i)/\Kp (fun k=>k=b) W (W1.setRow b c2.toArray)/\Nb W (.slice (some ⟨b,0,none⟩) n cap) (.slice (some ⟨b,0,none⟩) (n+1) cap)):=by
  have I:(l.take i++d :: l.drop i).length=n+1:=by simp [Y];omega
  refine ⟨⟨by rw [aX],.inr ⟨b,cap,c2.toArray,by rw [I],SW _,ae,by rw [I];omega,ab,by simp [ai],?_⟩⟩,ag,.inl rfl⟩;rw [I]
  simpa using S
 have al:∀lb cb,(callFunc 173 #[.slice (some ⟨gv,0,none⟩) 1 1,.slice (some ⟨b,(i+1)*5,none⟩) lb cb]).run Tryz.prog W=.ok (.value (.bool false)) W:=fun lb cb=>by
  have hz:∀w,(Go.sizeOf 89).run Tryz.prog w=.ok 5 w:=fun w=>by
   obtain ⟨i0,ak,_,h1,_⟩:=iV;simp [sizeOf,typeInfo,ak,h1]
  rw [run_callFunc_extern Tryz.func173 (by kernel_rfl) (by kernel_rfl) (by kernel_rfl) (e:=Extern.SlicesOverlaps.overlaps #[56,56] #[4]) (by kernel_rfl),
   Lib.run_overlaps_apart W 56 4 89 TM 5 hz ⟨gv,0,none⟩ ⟨b,(i+1)*5,none⟩ 1 1 lb cb aj 89 89 5 (cap*5) (by simp [World.shape?,hg]) (by simp [World.shape?,hb,F]) (by omega) (am hg) (am hg)]
  rfl
 rw [Y];clear h hb ab F O hR G ah J aa ac af M ai ag ae S hg Y;have z1:¬((i:Int)=(n:Int)):=by omega
 have z2:IntKind.i64.wrap ((n:Int)+1)=(n:Int)+1:=by rw [TJ];omega
 have z3:¬((cap:Int)<(n:Int)+1):=by omega
 have z4:IntKind.i64.wrap ((i:Int)+1)=(i:Int)+1:=by rw [TJ];omega
 have z5:¬(cap=i+1):=by omega
 have z6:¬(cap=i):=by omega
 have z7:((i:Int)+1).toNat=i+1:=by omega
 have z8:(0:Int)<=(i:Int)+1:=by omega
 have z9:(i:Int)<=(n:Int):=by omega
 have y1:(i:Int)<=(n:Int)+1:=by omega
 have y2:((n:Int)+1).toNat=n+1:=by omega
 have y3:(0:Int)<=(n:Int)+1:=by omega
 have y4:(n:Int)+1<=(cap:Int):=by omega
 have y5:(i:Int)+1<=(n:Int)+1:=by omega
 go_enter Xf,WR
 go_wp2_with (simp only [al])
 go_region_law (refine step_copy_r rfl _ _ 56 56 rfl _ _ (by simp [Act.eval,Act.put]) (by simp [Act.eval,Act.put]) (H _ _ _) ?_)
 go_wp2_with (at_builtin;refine wpList_copy_r _ rfl _ _ 56 56 rfl _ _ rfl rfl (Q _ _) ?_)
 go_ret
 exact ⟨_,rfl,HX.out⟩
theorem m9 (w:World) {C:Array Oper}{rest:List Oper}{o:Oper}{a:Act}{Q:Exit->Act->World->Prop}(F:o.guard=none) (d s:Operand) (t t':TypeId)
  (H:o.op=.call { callee:=.builtin .append,args:=#[d,s],argTypes:=#[t,t'] }) (v u:Value) (hd:a.eval d=v) (J:a.eval s=u) {v':Value} {w':World}
  (I:(Builtin.append_ #[t,t'] o.type #[v,u]).run P w=.ok v' w') (h:wpList P C Q rest (a.put o.dst v') w'):wpList P C Q (o :: rest) a w:=by
 refine wpList_plain F fun _ G=>?_
 unfold Oper.wp execOp;simp only [H,resolve,invoke,builtin,VX,Sem.run_pure,Result.andThen_ok,List.map_toArray,T1,Wx,hd,J,I];exact G _ _ h
theorem wB (d:Dc) {gv:Nat}(h:Rd W (.slice (some ⟨b,0,none⟩) l.length cap) l) (hi:i<l.length) (M:¬l.length+1<=cap) (hg:W.heap[gv]?=some (.cells #[.int .u8 d.k,.string d.t,.int .i64 d.b,.int .i64 d.i,.bool d.e] 89 (0,0))) (hl:l.length<=1000000000) :
  Ta 138 #[.slice (some ⟨b,0,none⟩) l.length cap,.int .i64 i,.slice (some ⟨gv,0,none⟩) 1 1] W fun r w'=>∃v',r=.returned v'/\Rd w' v' (l.take i++d :: l.drop i)/\Kp (fun k=>k=b) W w'/\Nb W (.slice (some ⟨b,0,none⟩) l.length cap) v':=by
 obtain ⟨F,hb,bf,ap,bg,ai⟩:∃F:List Value,W.heap[b]?=some (.cells F.toArray 89 (0,0))/\cap<=maxLen/\l.length<=cap/\F.length=cap*5/\F.take (l.length*5)=bZ l:=by
  rcases h.2 with ⟨h1,_⟩|⟨g,cap',F,h1,_,h3,h4,h5,h6,h7⟩
  ·cases h1
  ·cases h1;exact ⟨F.toList,by simpa using h3,h5,h4,by simpa using h6,h7⟩
 obtain ⟨n,hn⟩:∃n,l.length=n:=⟨_,rfl⟩;rw [hn] at hi M hl ai ap;obtain rfl:cap=n:=by omega
 have bd:F=bZ l:=by rw [<-ai,TZ (by omega)]
 subst bd;clear ai ap M;obtain ⟨i0,av,bc,aj,ak⟩:=iV;have hA:(bZ (l.take i)).length=i*5:=by rw [aX,Ty,hn];congr 1;omega
 have hR:(bZ (l.drop i)).length=(cap-i)*5:=by rw [aX,Tw,hn]
 have Y:∀H,(Builtin.append_ #[56,3] H #[.slice (some ⟨b,0,none⟩) i cap,.int .i64 ((cap+1-i:Nat):Int)]).run Tryz.prog W=.ok (.slice (some ⟨W.heap.size,0,none⟩) (cap+1) (grownCap W (cap+1) cap 89))
    (W.drew.alloc (.cells ((bZ (l.take i)).toArray++Builtin.zeroCells (Value.agg #[.int .u8 0,.string ⟨#[]⟩,.int .i64 0,.int .i64 0,.bool false]).cells (cap+1-i)++Builtin.zeroCells (Value.agg #[.int .u8 0,.string ⟨#[]⟩,.int .i64 0,.int .i64 0,.bool false]).cells (grownCap W (cap+1) cap 89-(cap+1))) 89)):=fun H=>by
  have h1:(Builtin.firstCells i0.size i (.slice (some ⟨b,0,none⟩) i cap)).run Tryz.prog W.drew=.ok (bZ (l.take i)).toArray W.drew:=by
   rw [aj];refine run_firstCells_some (w:=W.drew) 5 i ⟨b,0,none⟩ i cap (bZ (l.take i)) hA (gi (W:=W.drew) hb 0 _ (fun j v O=>?_));rw [Td];rw [<-xh,TV] at O
   split at O
   ·exact O
   ·cases O
  have:=Lib.run_append_grow_zeros (P:=Tryz.prog) W 56 3 H 89 i0 _ .i64 .i64 TM TO av bc (some ⟨b,0,none⟩) i cap (bZ (l.take i)) h1 (cap+1-i) (by omega) (by rw [aj];omega) (by omega) (by omega) (by rw [ak];omega) (by rw [ak];exact growslice_fits (by omega) (by omega));rw [show i+(cap+1-i)=cap+1 by omega] at this;exact this
 obtain ⟨C,hC⟩:∃C,grownCap W (cap+1) cap 89=C:=⟨_,rfl⟩;have bi:cap+1<=C:=by rw [<-hC];exact grownCap_ge _ _ _ _
 have al:C<=maxLen:=by rw [<-hC];exact grownCap_le_maxLen _ _ _ _ (by unfold maxLen;omega)
 rw [hC] at Y;obtain ⟨Z,hZ⟩:∃Z:List Value,(Builtin.zeroCells (Value.agg #[.int .u8 0,.string ⟨#[]⟩,.int .i64 0,.int .i64 0,.bool false]).cells (cap+1-i)++Builtin.zeroCells (Value.agg #[.int .u8 0,.string ⟨#[]⟩,.int .i64 0,.int .i64 0,.bool false]).cells (C-(cap+1))).toList=Z:=⟨_,rfl⟩
 have U:Z.length=(C-i)*5:=by
  rw [<-hZ,TQ,Array.size_append,size_zeroCells,size_zeroCells];show (cap+1-i)*5+(C-(cap+1))*5=_;omega
 have am:(bZ (l.take i)).toArray++Builtin.zeroCells (Value.agg #[.int .u8 0,.string ⟨#[]⟩,.int .i64 0,.int .i64 0,.bool false]).cells (cap+1-i)++Builtin.zeroCells (Value.agg #[.int .u8 0,.string ⟨#[]⟩,.int .i64 0,.int .i64 0,.bool false]).cells (C-(cap+1))=(bZ (l.take i)++Z).toArray:=by
  rw [Array.append_assoc]
  apply UU.1
  rw [Array.toList_append,hZ]
 rw [am] at Y;clear hZ am;obtain ⟨N,hN⟩:∃N,W.heap.size=N:=⟨_,rfl⟩;obtain ⟨G,hW0⟩:∃G,W.drew.alloc (.cells (bZ (l.take i)++Z).toArray 89)=G:=⟨_,rfl⟩;rw [hW0,hN] at Y;have Q:Below W.heap.size W G:=by rw [<-hW0];exact ((hH _ W).drew).alloc (gt _) _
 have af:G.heap[N]?=some (.cells (bZ (l.take i)++Z).toArray 89 (0,0)):=by rw [<-hW0,<-hN];exact aq W.drew _
 have bh:gv<N:=by rw [<-hN];exact au hg
 have be:b<N:=by rw [<-hN];exact au hb
 have ar:=ag hg Q;have ba:=ag hb Q
 have J:∀H dc,(Builtin.copy_ #[56,56] H #[.slice (some ⟨N,i*5,none⟩) (cap+1-i) dc,.slice (some ⟨gv,0,none⟩) 1 1]).run Tryz.prog G=.ok (goInt 1) (G.setRow N ((bZ (l.take i)++Z).take (i*5)++bZ [d]++(bZ (l.take i)++Z).drop (i*5+5)).toArray):=fun H dc=>by
  have hm:Nat.min 1 (cap+1-i)=1:=by show min _ _=_;omega
  have:=eL (P:=Tryz.prog) G 56 56 H 89 5 N (i*5) (cap+1-i) dc ⟨gv,0,none⟩ 1 1 (bZ (l.take i)++Z).toArray 89 (bZ [d]) TM kF af (by rw [aX,hm];rfl) (gi (cur:=bZ [d]) (by rw [qq];exact ar) 0 _ (fun j v O=>by rw [Td];exact O)) (by rw [aX];simp [hA,U];omega) (cy _);rw [hm] at this
  simpa [aX] using this
 obtain ⟨c1,aa⟩:∃c1:List Value,(bZ (l.take i)++Z).take (i*5)++bZ [d]++(bZ (l.take i)++Z).drop (i*5+5)=c1:=⟨_,rfl⟩;rw [aa] at J;have ay:c1.length=C*5:=by rw [<-aa];simp only [Or,Ty,Tw,aX,hA,U,List.length_cons,List.length_nil,hn];omega
 obtain ⟨W1,I⟩:∃W1,G.setRow N c1.toArray=W1:=⟨_,rfl⟩;rw [I] at J;have ah:W1.heap[N]?=some (.cells c1.toArray 89 (0,0)):=by rw [<-I];exact VT G N _ _ _ _ af
 have aw:Kp (fun k=>k=b) W W1:=by rw [<-I];exact (Kp.of_below Q).step (Kp.setRow G N c1.toArray) (fun k hk e=>by omega)
 have bb:W1.heap[b]?=some (.cells (bZ l).toArray 89 (0,0)):=by rw [<-I,setRow_other G N b _ (by omega)];exact ba
 have ac:∀H dc sc,(Builtin.copy_ #[56,56] H #[.slice (some ⟨N,(i+1)*5,none⟩) (cap-i) dc,.slice (some ⟨b,i*5,none⟩) (cap-i) sc]).run Tryz.prog W1.drew=.ok (goInt ((cap-i:Nat):Int)) (W1.drew.setRow N (c1.take ((i+1)*5)++bZ (l.drop i)++c1.drop ((i+1)*5+(bZ (l.drop i)).length)).toArray):=fun H dc sc=>by
  have hm:Nat.min (cap-i) (cap-i)=cap-i:=by show min _ _=_;omega
  have:=eL (P:=Tryz.prog) W1.drew 56 56 H 89 5 N ((i+1)*5) (cap-i) dc ⟨b,i*5,none⟩ (cap-i) sc c1.toArray 89 (bZ (l.drop i)) TM kF ah (by rw [hR,hm]) (gi (W:=W1.drew) bb (i*5) _ (fun j v O=>by rw [<-qr,TK] at O;exact O)) (by rw [hR];simp;omega) (cy _);rw [hm] at this
  simpa using this
 obtain ⟨c2,ab⟩:∃c2:List Value,c1.take ((i+1)*5)++bZ (l.drop i)++c1.drop ((i+1)*5+(bZ (l.drop i)).length)=c2:=⟨_,rfl⟩;rw [ab] at ac
 have ad:c2=bZ (l.take i++d :: l.drop i)++Z.drop (5+(bZ (l.drop i)).length):=by
  have e3:bZ (l.take i++d :: l.drop i)=bZ (l.take i)++bZ [d]++bZ (l.drop i):=by rw [gM,show d :: l.drop i=[d]++l.drop i from rfl,gM,S5]
  have:=uX (bZ (l.take i)) Z (bZ [d]) (bZ (l.drop i)) (i*5) 5 hA (by rw [aX];rfl) (by rw [hR,U];omega);rw [aa,show i*5+5=(i+1)*5 by omega,ab] at this;rw [this,e3]
 have az:c2.length=C*5:=by rw [<-ab];simp only [Or,Ty,Tw,hR,ay];omega
 have ax:Kp (fun k=>k=b) W (W1.drew.setRow N c2.toArray):=(aw.step (Kp.of_below (S:=fun _=>False) ((hH _ W1).drew)) (fun _ _ h=>h.elim)).step (Kp.setRow W1.drew N _) (fun k hk e=>by omega);have an:(W1.drew.setRow N c2.toArray).heap[N]?=some (.cells c2.toArray 89 (0,0)):=VT W1.drew N _ _ _ _ ah
 have HX:Hid (Rd (W1.drew.setRow N c2.toArray) (.slice (some ⟨N,0,none⟩) (cap+1) C) (l.take i++d :: l.drop i)/\Kp (fun k=>k=b) W (W1.drew.setRow N c2.toArray)/\Nb W (.slice (some ⟨b,0,none⟩) cap cap) (.slice (some ⟨N,0,none⟩) (cap+1) C)):=by
  have ae:(l.take i++d :: l.drop i).length=cap+1:=by simp [hn];omega
  refine ⟨⟨by rw [aX],.inr ⟨N,C,c2.toArray,by rw [ae],SW _,an,by rw [ae];omega,al,by simp [az],?_⟩⟩,ax,.inr ⟨N,rfl,by omega⟩⟩;rw [ad,Xe (by rw [aX])]
 rw [hn];clear h hb bf bg hR aa ay I ah aw ab az ax an ad hg hn hC av bc aj ak hA U hN hW0 Q af ar ba bb al bh be;have z1:¬((i:Int)=(cap:Int)):=by omega
 have z2:IntKind.i64.wrap ((cap:Int)+1)=(cap:Int)+1:=by rw [TJ];omega
 have z3:(cap:Int)<(cap:Int)+1:=by omega
 have z4:IntKind.i64.wrap ((i:Int)+1)=(i:Int)+1:=by rw [TJ];omega
 have z5:¬(C=i+1):=by omega
 have z6:¬(cap=i):=by omega
 have z7:((i:Int)+1).toNat=i+1:=by omega
 have z8:(0:Int)<=(i:Int)+1:=by omega
 have z9:(i:Int)<=(cap:Int):=by omega
 have y1:IntKind.i64.wrap ((cap:Int)+1-(i:Int))=((cap+1-i:Nat):Int):=by rw [TJ];omega
 have y2:¬(C=i):=by omega
 have y3:(i:Int)<=(cap:Int)+1:=by omega
 have y5:(i:Int)+1<=(cap:Int)+1:=by omega
 go_enter Xf,WR
 go_wp2_with (first|(at_builtin;refine m9 _ rfl _ _ 56 3 rfl _ _ rfl rfl (Y _) ?_)|(at_builtin;refine wpList_copy_r _ rfl _ _ 56 56 rfl _ _ rfl rfl (J _ _) ?_))
 go_region_law (refine step_copy_r rfl _ _ 56 56 rfl _ _ (by simp [Act.eval,Act.put]) (by simp [Act.eval,Act.put]) (ac _ _ _) ?_)
 go_wp2_with fail
 go_ret
 exact ⟨_,rfl,HX.out⟩
theorem yJ (d:Dc) {gv:Nat}(h:Rd W v l) (hi:i<=l.length) (J:W.heap[gv]?=some (.cells #[.int .u8 d.k,.string d.t,.int .i64 d.b,.int .i64 d.i,.bool d.e] 89 (0,0))) (O:v.ownBlock≠some gv) (M:l.length<=1000000000) :
  Ta 138 #[v,.int .i64 i,.slice (some ⟨gv,0,none⟩) 1 1] W fun r w'=>∃v',r=.returned v'/\Rd w' v' (l.take i++d :: l.drop i)/\Kp (fun k=>v.ownBlock=some k) W w'/\Nb W v v':=by
 by_cases U:i=l.length
 ·subst U;rw [T4,US];exact yI d h J M
 ·have Q:i<l.length:=by omega
  rcases h.2 with ⟨Z,h4⟩|⟨b,cap,Y,rfl,_⟩
  ·omega
  ·have C:gv≠b:=fun e=>O (by rw [e];rfl)
   by_cases S:l.length+1<=cap
   ·refine (wA d h Q S J C M).mono ?_;rintro r w' ⟨v',F,G,H,I⟩;exact ⟨v',F,G,H.sub (fun k e=>by rw [e];rfl),I⟩
   ·refine (wB d h Q S J M).mono ?_;rintro r w' ⟨v',F,G,H,I⟩;exact ⟨v',F,G,H.sub (fun k e=>by rw [e];rfl),I⟩
theorem jR {C:Array Oper}{K:Act->World->Prop}{Q:Exit->Act->World->Prop}{E:Prop}
  (I:o.guard=none) (d x:Operand) (dT G:TypeId) (F:o.op=Op.call { callee:=Callee.builtin Builtin.append,args:=#[d,x],argTypes:=#[dT,G] })
  (v u:Value) (hd:a.eval d=v) (O:a.eval x=u) {v':Value} {w':World} (J:(Builtin.append_ #[dT,G] o.type #[v,u]).run P w=.ok v' w') (H:K (a.put o.dst v') w') :
  if Region.wanted o (yielded C a.tmps)=true then Oper.wp P o a w K Q else E:=by
 have M:Region.wanted o (yielded C a.tmps)=true:=by simp [Region.wanted,I]
 rw [IO M];unfold Oper.wp;simp [execOp,F,resolve,invoke,builtin,hd,O,J,Result.andThen];exact H
theorem qI (w:World) (b o n:Nat) (hn:0<n) (cur:List Value) (S:w.heap[b]?=some (.cells cur.toArray 89 (0,0))) (U:o+n*5<=cur.length) :
  ∃c2:List Value,(∀Q c,(Builtin.clear_ #[56] Q #[.slice (some ⟨b,o,none⟩) n c]).run Tryz.prog w=.ok (.tuple #[]) (w.setRow b c2.toArray))/\c2.length=cur.length/\c2.take o=cur.take o:=by
 obtain ⟨i0,J,M,aa,ab⟩:=iV;have Y:∀w,(zeroValue 89).run Tryz.prog w=.ok (.agg #[.int .u8 0,.string ⟨#[]⟩,.int .i64 0,.int .i64 0,.bool false]) w:=fun w=>by simp [zeroValue,typeInfo,J,M]
 obtain ⟨Z,G⟩:∃Z:List Value,(Builtin.zeroCells (Value.agg #[.int .u8 0,.string ⟨#[]⟩,.int .i64 0,.int .i64 0,.bool false]).cells n).toList=Z:=⟨_,rfl⟩;have C:Z.length=n*5:=by rw [<-G,TQ,size_zeroCells];rfl
 have I:∀v∈Z,v.oneCell'=true:=by
  intro v H;rw [<-G] at H;rw [Builtin.zeroCells,Array.mem_toList_iff,Array.mem_map] at H;obtain ⟨k,_,rfl⟩:=H;have O:k % 5<5:=Nat.mod_lt _ (by omega);show Value.oneCell' (#[Value.int .u8 0,.string ⟨#[]⟩,.int .i64 0,.int .i64 0,.bool false][k % 5]!)=true
  generalize k % 5=q at O
  match q,O with
  |0,_=>rfl
  |1,_=>rfl
  |2,_=>rfl
  |3,_=>rfl
  |4,_=>rfl
 have F:=WH Tryz.prog b o 89 Z 0 cur.toArray w S (by rw [C];simpa using U) I;refine ⟨cur.take o++Z++cur.drop (o+Z.length),?_,?_,?_⟩
 ·intro Q c;obtain ⟨m,rfl⟩:∃m,n=m+1:=⟨n-1,by omega⟩;simp only [TS] at F;simp [Builtin.clear_,run_underlying TM,Y,G,F]
 ·simp only [Or,Ty,Tw,C];omega
 ·rw [S5,TT (by rw [Ty];omega),VV,Nat.min_self]
theorem nY {S:Nat->Prop}{B:Nat}{W':World}(h:Below B w W) (C:Kp S W W') (H:∀k,S k->B<=k) (G:B<=W.heap.size):Below B w W':=
 ⟨C.os.trans h.os,C.tape.trans h.tape,C.output.trans h.output,SY h.size C.size,fun k F=>(C.block k (Tn F G) (fun I=>by have:=H k I;omega)).trans (h.block k F)⟩
theorem JT (W:World):Rd (W.alloc (.cells #[] 89)) (.slice (some ⟨W.heap.size,0,none⟩) 0 0) []:=
 ⟨rfl,.inr ⟨_,0,#[],rfl,SW _,aq W _,gt _,SW _,rfl,rfl⟩⟩
theorem O4 {G:Array Oper}{rest:List Oper}{Q:Exit->Act->World->Prop}(H:o.guard=none) (s x:Operand)
  (Y:o.op=.call { callee:=.builtin .append,args:=#[s,x],argTypes:=#[56,56] }) (v:Value) (l C:List Dc) (hs:a.eval s=v) (Z:Rd W v l)
  (ad:Addr) (c:Nat) (hx:a.eval x=.slice (some ad) C.length c) (hc:∀j u,(bZ C)[j]?=some u->W.cell? (ad.add j)=some u) (hl:l.length+C.length<=2000000000)
  (h:∀v' w',Rd w' v' (l++C)->W.grownBy w' v.ownBlock->Nb W v v'->wpList Tryz.prog G Q rest (a.put o.dst v') w'):wpList Tryz.prog G Q (o :: rest) a W:=by
 obtain ⟨i0,U,I,J,M⟩:=T7 Tryz.info89;refine T2 (P:=Tryz.prog) (w:=W) H s x 56 Y 0 89 i0 _ 5 48 TM U I J M rfl (by decide) v _ _ hs Z ad C.length c (bZ C) hx (by rw [aX]) hc (cy C) (by unfold maxLen;omega) (by omega) (SW _) ?_;intro v' w' O S _ F;refine h v' w' ?_ S ?_
 ·unfold Rd;rw [Or,gM];exact O
 ·rcases F with F|F
  ·exact .inl F
  ·exact .inr ⟨_,F,gt _⟩
theorem F2 (h:Ld w (some ⟨b,0,none⟩) l):∀j u,(bZ l)[j]?=some u->w.cell? ((⟨b,0,none⟩:Addr).add j)=some u:=by
 intro j u H;have I:j<l.length*5:=by rw [<-aX];exact (Te.1 H).1
 obtain ⟨d,hd⟩:∃d,l[j / 5]?=some d:=⟨_,Pi (by omega)⟩;obtain ⟨b',off,e,c0,c1,c2,c3,c4⟩:=h _ d hd;cases e;have C:(bZ l)[j / 5*5+j % 5]?=some u:=by rw [show j / 5*5+j % 5=j by omega];exact H
 have G:j % 5<5:=Nat.mod_lt _ (by omega);rw [UA];have F:(0:Nat)+j=0+j / 5*5+j % 5:=by omega
 rw [F]
 generalize j % 5=q at C G ⊢
 match q,G with
 |0,_=>rw [show (bZ l)[j / 5*5+0]?=_ from aR Dc.cs 5 Lw.Dc.cs_len l _ 0 _ _ hd rfl] at C;cases C;exact c0
 |1,_=>rw [show (bZ l)[j / 5*5+1]?=_ from aR Dc.cs 5 Lw.Dc.cs_len l _ 1 _ _ hd rfl] at C;cases C;exact c1
 |2,_=>rw [show (bZ l)[j / 5*5+2]?=_ from aR Dc.cs 5 Lw.Dc.cs_len l _ 2 _ _ hd rfl] at C;cases C;exact c2
 |3,_=>rw [show (bZ l)[j / 5*5+3]?=_ from aR Dc.cs 5 Lw.Dc.cs_len l _ 3 _ _ hd rfl] at C;cases C;exact c3
 |4,_=>rw [show (bZ l)[j / 5*5+4]?=_ from aR Dc.cs 5 Lw.Dc.cs_len l _ 4 _ _ hd rfl] at C;cases C;exact c4
theorem Dy (W:World) (n c:Nat):Ta 171 #[.slice none n c] W fun r w'=>r=.returned (.slice none 0 0)/\w'=W:=by
 have C:(binOp .eql 56 (.slice none n c) (.slice none 0 0)).run Tryz.prog W=.ok (.bool true) W:=Lib.run_eql_slice_nil W _ _ none n c 0 0 TM
 go_enter Tryz.func171,Tryz.ntmps171
 go_wp2_with fail
 go_ret
 exact ⟨rfl,rfl⟩
theorem zh {W:World}{b cap:Nat}{l:List Dc}(h:Ld W (some ⟨b,0,none⟩) l) (Z:l.length<=1000000000):Ta 171 #[.slice (some ⟨b,0,none⟩) l.length cap] W fun r w'=>∃v',r=.returned v'/\Rd w' v' l/\Below W.heap.size W w'/\∀k,v'.ownBlock=some k->W.heap.size<=k:=by
 have H:Hid (Below W.heap.size W (W.alloc (.cells #[] 89))):=(hH _ _).alloc (gt _) _;have I:Hid (∀j u,(bZ l)[j]?=some u->(W.alloc (.cells #[] 89)).cell? ((⟨b,0,none⟩:Addr).add j)=some u):=F2 (h.below H.out);have M:Hid (Rd (W.alloc (.cells #[] 89)) (.slice (some ⟨W.heap.size,0,none⟩) 0 0) []):=JT W;have S:(W.alloc (.cells #[] 89)).heap.size=W.heap.size+1:=by show (W.heap.push _).size=_;simp
 have J:Hid (∀v' w',Rd w' v' ([]++l)->(W.alloc (.cells #[] 89)).grownBy w' (some W.heap.size)->Nb (W.alloc (.cells #[] 89)) (.slice (some ⟨W.heap.size,0,none⟩) 0 0) v'->Rd w' v' l/\Below W.heap.size W w'/\∀k,v'.ownBlock=some k->W.heap.size<=k):=fun v' w' F G C=>by
  refine ⟨F,nY H.out (Kp.of_grown G) (fun k e=>by cases e;exact gt _) H.out.size ,fun k e=>?_⟩
  rcases C with C|⟨q,Q,U⟩
  ·rw [C] at e;cases e;exact gt _
  ·rw [Q] at e;cases e;omega
 have Y:(binOp .eql 56 (.slice (some ⟨b,0,none⟩) l.length cap) (.slice none 0 0)).run Tryz.prog W=.ok (.bool false) W:=Lib.run_eql_slice_nil W _ _ (some ⟨b,0,none⟩) l.length cap 0 0 TM;clear h S
 go_enter Tryz.func171,Tryz.ntmps171
 go_wp2_with (at_builtin;refine O4 rfl _ _ rfl (.slice (some ⟨W.heap.size,0,none⟩) 0 0) [] l rfl M.out ⟨b,0,none⟩ _ rfl I.out (by simp;omega) ?_;intro v' w' F G C;have O:=show Hid _ from J.out v' w' F G C;clear F G C)
 go_ret
 exact ⟨_,rfl,O.out⟩
theorem xd (v:Value) {l:List Dc}(h:Rd W v l) (G:l.length<=1000000000):Ta 172 #[v,.int .i64 0,.int .i64 0] W fun r w'=>r=.returned v/\w'=W:=by
 obtain ⟨p,cap,rfl,F,C⟩:=bG h;have H:(l.length:Int)<=(cap:Int):=by omega
 clear h C;cases p
 all_goals (
  go_enter Tryz.func172,Tryz.ntmps172
  go_wp2_with fail
  all_goals (go_ret;exact ⟨rfl,rfl⟩))
theorem xc {W:World}{b cap n:Nat}{l:List Dc}(h:Rd W (.slice (some ⟨b,0,none⟩) l.length cap) l) (ah:0<n) (ai:n<=l.length) (hl:l.length<=1000000000) :
  Ta 172 #[.slice (some ⟨b,0,none⟩) l.length cap,.int .i64 0,.int .i64 n] W fun r w'=>r=.returned (.slice (some ⟨b,0,none⟩) (l.length-n) cap)/\Rd w' (.slice (some ⟨b,0,none⟩) (l.length-n) cap) (l.drop n)/\Kp (fun k=>k=b) W w':=by
 obtain ⟨C,hb,aa,af,ab,Z⟩:∃C:List Value,W.heap[b]?=some (.cells C.toArray 89 (0,0))/\cap<=maxLen/\l.length<=cap/\C.length=cap*5/\C.take (l.length*5)=bZ l:=by
  rcases h.2 with ⟨h1,_⟩|⟨g,cap',C,h1,_,h3,h4,h5,h6,h7⟩
  ·cases h1
  ·cases h1;exact ⟨C.toList,by simpa using h3,h5,h4,by simpa using h6,h7⟩
 obtain ⟨m,hm⟩:∃m,l.length=m:=⟨_,rfl⟩;rw [hm] at ai hl af Z ⊢;obtain ⟨i0,hi0,hz0,hz1,hz2⟩:=iV;have S:(bZ (l.drop n)).length=(m-n)*5:=by rw [aX,Tw,hm]
 obtain ⟨Q,F⟩:∃Q:Nat,(if cap=n then 0 else n*5)=Q:=⟨_,rfl⟩
 have O:∀j u,(bZ (l.drop n))[j]?=some u->W.cell? ((⟨b,Q,none⟩:Addr).add j)=some u:=by
  refine gi hb Q _ (fun j v hj=>?_);have ag:=(Te.1 hj).1;rw [S] at ag;rw [<-F,Eq (by omega)];rw [<-qr,TK,<-Z,TV] at hj
  split at hj
  ·exact hj
  ·cases hj
 have G:∀ty c,(Builtin.append_ #[56,56] ty #[.slice (some ⟨b,0,none⟩) 0 cap,.slice (some ⟨b,Q,none⟩) (m-n) c]).run Tryz.prog W.drew=.ok (.slice (some ⟨b,0,none⟩) (m-n) cap) (W.drew.setRow b (bZ (l.drop n)++C.drop ((m-n)*5)).toArray):=fun ty c=>by
  have:=run_append_room (P:=Tryz.prog) W.drew 56 ty 89 i0 TM hi0 b 0 cap C.toArray hb ⟨b,Q,none⟩ (m-n) c (bZ (l.drop n)) (by rw [S,hz1]) O (cy _) (by omega) (by rw [S];simp;omega)
  simpa [S] using this
 obtain ⟨c1,M⟩:∃c1:List Value,bZ (l.drop n)++C.drop ((m-n)*5)=c1:=⟨_,rfl⟩;rw [M] at G;have ae:c1.length=cap*5:=by rw [<-M,Or,Tw,S,ab];omega
 obtain ⟨W1,J⟩:∃W1,W.drew.setRow b c1.toArray=W1:=⟨_,rfl⟩;rw [J] at G;have U:W1.heap[b]?=some (.cells c1.toArray 89 (0,0)):=by rw [<-J];exact VT W.drew b _ _ _ _ hb
 have ac:Kp (fun k=>k=b) W W1:=by rw [<-J];exact ((Kp.of_below ((hH _ W).drew)).step (Kp.setRow W.drew b c1.toArray) (fun _ _ h=>h))
 obtain ⟨c2,H,h1,h2⟩:=qI W1 b ((m-n)*5) n ah c1 U (by omega)
 have HX:Hid (Rd (W1.setRow b c2.toArray) (.slice (some ⟨b,0,none⟩) (m-n) cap) (l.drop n)/\Kp (fun k=>k=b) W (W1.setRow b c2.toArray)):=by
  have I:(l.drop n).length=m-n:=by rw [Tw,hm]
  refine ⟨⟨by rw [aX],.inr ⟨b,cap,c2.toArray,by rw [I],SW _,VT W1 b _ _ _ _ U,by rw [I];omega,aa,by simp [h1,ae],?_⟩⟩,ac.trans (Kp.setRow W1 b _)⟩;rw [I];show c2.take _=_;rw [h2,<-M,Xe S]
 have aj:(if cap=n then (⟨b,0,none⟩:Addr) else ⟨b,n*5,none⟩)=⟨b,Q,none⟩:=by rw [<-F];split <;> rfl
 clear h1 h2 h hb aa ab S M ae J U ac Z hi0 hz0 hz1 hz2 O hm;have z1:¬((0:Int)=(n:Int)):=by omega
 have z2:(0:Int)<=(n:Int):=by omega
 have z3:(n:Int)<=(m:Int):=by omega
 have z4:(m:Int)<=(cap:Int):=by omega
 have z5:((m-n:Nat):Int)<=(m:Int):=by omega
 have z6:¬(cap=m-n):=by omega
 have z7:m-(m-n)=n:=by omega
 have z8:(n:Int)<=(cap:Int):=by omega
 by_cases Y:cap=n
 ·rw [IO Y] at F;subst F;have e0:m=n:=by omega
  subst e0;subst Y;clear z3 z4 z5 z7 z8;have z9:cap-cap=0:=by omega
  rw [z9] at G H HX ⊢
  go_enter Tryz.func172,Tryz.ntmps172
  go_wp2_with fail
  go_region_law (refine jR (by rfl) _ _ 56 56 (by rfl) (.slice (some ⟨b,0,none⟩) 0 cap) (.slice (some ⟨b,0,none⟩) 0 0) (by simp [Act.eval,Act.put]) (by simp [Act.eval,Act.put]) (G _ _) ?_)
  all_goals (
   go_wp2_with (at_builtin;refine wpList_clear_r _ (by rfl) _ 56 (by rfl) (.slice (some ⟨b,0*5,none⟩) cap _) (by rfl) (H _ _) ?_)
   go_ret
   exact ⟨rfl,HX.out⟩)
 ·rw [Eq Y] at F;subst F
  go_enter Tryz.func172,Tryz.ntmps172
  go_wp2_with fail
  go_region_law (refine jR (by rfl) _ _ 56 56 (by rfl) (.slice (some ⟨b,0,none⟩) 0 cap) (.slice (some ⟨b,n*5,none⟩) (m-n) (cap-n)) (by simp [Act.eval,Act.put]) (by simp [Act.eval,Act.put]) (G _ _) ?_)
  all_goals (
   go_wp2_with (at_builtin;refine wpList_clear_r _ (by rfl) _ 56 (by rfl) (.slice (some ⟨b,(m-n)*5,none⟩) n _) (by rfl) (H _ _) ?_)
   go_ret
   exact ⟨rfl,HX.out⟩)
def An (S:Nat->Prop) (g:Nat) (W W':World) (v:Value) (l:List Dc) (st:Sy):Prop:=
 (∃S',SS S' W' g st/\(∀k,S' k->S k\/W.heap.size<=k)/\∀k,v.ownBlock=some k->(S k\/W.heap.size<=k)/\¬S' k)/\Rd W' v l/\Kp S W W'
theorem Ja (p:α->Bool) (l:List α) (k:Nat) (C:k<=l.length) (h:∀x∈l.take k,p x=true) (G:∀x,l[k]?=some x->p x=false):l.takeWhile p=l.take k/\l.dropWhile p=l.drop k:=by
 induction l generalizing k with
 |nil=>simp at C;subst C;simp
 |cons a r ih=>
  cases k with
  |zero=>
   have:=G a rfl;simp [List.takeWhile_cons,Wt,this]
  |succ k=>
   have H:=h a (by simp);obtain ⟨I,J⟩:=ih k (by simpa using C) (fun x F=>h x (by simp [F])) (fun x F=>G x (by simpa using F));simp [List.takeWhile_cons,Wt,H,I,J]
theorem oS {S:Nat->Prop}(h:SS S W g st) (hl:st.ws.length<=1000000000) :
  Ta 136 #[cd g] W fun r w'=>∃v,r=.returned v/\An S g W w' v (st.ws.takeWhile bj) { st with ws:=st.ws.dropWhile bj }:=by
 obtain ⟨vn,vw,hv,s1,s2⟩:=h.ex;have ae:=h.sg;have C:=h.lt;obtain ⟨p,cap,e,hc1,hc2⟩:=bG hv.rd;subst e;obtain ⟨L,hL⟩:∃L,st.ws=L:=⟨_,rfl⟩;have an:L.length<=1000000000:=by rw [<-hL];exact hl
 have am:L.length<=cap:=by rw [<-hL];exact hc1
 have HV:Hid (∀V,Tb W V->V.cell? ⟨g,2,none⟩=some (.slice p L.length cap)/\V.frozen? ⟨g,2,none⟩=false/\Ld V p L):=fun V F=>by
  have:=hv.below F;rw [<-hL];exact ⟨this.sb.cells.2.2.1,this.sb.frozen 2,vJ this.rd⟩
 have HD:Hid (∀(n:Nat),n<=L.length->∀V,Tb W V->Ta 171 #[.slice p n cap] V fun r w'=>∃v,r=.returned v/\Rd w' v (L.take n)/\Tb W w'/\(∀k,v.ownBlock=some k->W.heap.size<=k)):=fun n hn V F=>by
  have hq:=hv.below F;have J:=hq.rd;rw [hL] at J;cases p with
  |none=>
   refine (Dy V n cap).mono ?_;rintro r w' ⟨rfl,rfl⟩
   have Y:L=[]:=by
    rcases J.2 with ⟨_,Y⟩|⟨_,_,_,I,_⟩
    ·exact Tl Y
    ·cases I
   refine ⟨_,rfl,by rw [Y,List.take_nil];exact lS _,F,fun k e=>by cases e⟩
  |some a=>
   obtain ⟨b,ha⟩:∃b,a=⟨b,0,none⟩:=by
    rcases J.2 with ⟨I,_⟩|⟨b,_,_,I,_⟩
    ·cases I
    ·cases I;exact ⟨b,rfl⟩
   subst ha;have ak:(L.take n).length=n:=by rw [Ty];omega
   have:=zh (cap:=cap) ((vJ J).take n) (by omega);rw [ak] at this;refine this.mono ?_;rintro r w' ⟨v',rfl,Q,H,a3⟩;exact ⟨v',rfl,Q,F.trans (H.mono F.size),fun k e=>SY F.size (a3 k e)⟩
 have HE:Hid (∀(n:Nat),n<=L.length->(L.takeWhile bj=L.take n/\L.dropWhile bj=L.drop n)->∀V v,Tb W V->Rd V v (L.take n)->(∀k,v.ownBlock=some k->W.heap.size<=k)->Ta 172 #[.slice p L.length cap,.int .i64 0,.int .i64 n] V fun r w'=>∃p' n' c',r=.returned (.slice p' n' c')/\(w'.cell? ⟨g,2,none⟩=some (.slice p L.length cap)/\w'.frozen? ⟨g,2,none⟩=false)/\An S g W (w'.setCell ⟨g,2,none⟩ (.slice p' n' c')) v (L.takeWhile bj) { st with ws:=L.dropWhile bj }):=fun n hn af V v F ah ag=>by
  have hq:=hv.below F;have J:=hq.rd;rw [hL] at J;rw [af.1,af.2]
  have fin:∀(w':World) (v':Value),Rd w' v' (L.drop n)->Kp (fun k=>(Value.slice p L.length cap).ownBlock=some k) V w'->Nb V (.slice p L.length cap) v'->(w'.cell? ⟨g,2,none⟩=some (.slice p L.length cap)/\w'.frozen? ⟨g,2,none⟩=false)/\An S g W (w'.setCell ⟨g,2,none⟩ v') v (L.take n) { st with ws:=L.drop n }:=fun w' v' b1 b2 b3=>by
   have al:SV V g st vn (.slice p L.length cap):=by rw [<-hL];exact hq
   obtain ⟨c1,c2⟩:=al.ws (hH _ _) b2 b1 b3;refine ⟨c1,?_⟩;obtain ⟨vw',d1,d2⟩:=c2.ex;have O:∀k,v.ownBlock=some k->¬S k:=fun k e hs=>by have:=C k hs;have:=ag k e;omega
   have aa:Kp S V (w'.setCell ⟨g,2,none⟩ v'):=c2.kp.sub (by rintro k (e|e);rw [e];exact ae;exact s2 k (by rw [hL];exact e));refine ⟨⟨fun k=>S k\/(W.heap.size<=k/\vw'.ownBlock=some k),⟨⟨vn,vw',d1,fun k e=>.inl (s1 k e),fun k e=>?_⟩,.inl ae,?_⟩,?_,?_⟩,Ag ah aa O,(Kp.of_below F).step aa (fun _ _ h=>h)⟩
   ·rcases d2 with d2|⟨q,ab,ad⟩
    ·exact .inl (s2 k (by rw [hL,<-d2];exact e))
    ·exact .inr ⟨by rw [ab] at e;cases e;exact SY F.size ad,e⟩
   ·rintro k (a|a)
    ·exact Tn (C k a) (SY F.size aa.size)
    ·exact ip d1.rd k a.2
   ·rintro k (a|a)
    ·exact .inl a
    ·exact .inr a.1
   ·intro k e;refine ⟨.inr (ag k e),?_⟩;rintro (a|a)
    ·exact O k e a
    ·rcases d2 with d2|⟨q,ab,ad⟩
     ·have hs:=s2 k (by rw [hL,<-d2];exact a.2);exact O k e hs
     ·rw [ab] at a;have h9:=ip ah k e;have:q=k:=by simpa using a.2
      omega
  by_cases Y:n=0
  ·subst Y;refine (xd (.slice p L.length cap) J (by omega)).mono ?_;rintro r w' ⟨rfl,rfl⟩;exact ⟨_,_,_,rfl,fin _ _ (by rw [VW];exact J) (Kp.refl _ _) (.inl rfl)⟩
  ·cases p with
   |none=>
    have aj:L=[]:=by
     rcases J.2 with ⟨_,Y⟩|⟨_,_,_,I,_⟩
     ·exact Tl Y
     ·cases I
    rw [aj] at hn;simp at hn;exact absurd hn Y
   |some a=>
    obtain ⟨b,ha⟩:∃b,a=⟨b,0,none⟩:=by
     rcases J.2 with ⟨I,_⟩|⟨b,_,_,I,_⟩
     ·cases I
     ·cases I;exact ⟨b,rfl⟩
    subst ha;refine (xc (n:=n) J (by omega) hn (by omega)).mono ?_;rintro r w' ⟨rfl,Q,H⟩;exact ⟨_,_,_,rfl,fin _ _ Q (H.sub (fun k e=>by rw [e];rfl)) (.inl rfl)⟩
 have HP:Hid (∀(d:Dc) (V:World),Ta 170 #[.agg #[.int .u8 d.k,.string d.t,.int .i64 d.b,.int .i64 d.i,.bool d.e]] V fun e w'=>e=.returned (.bool (bj d))/\Tb V w'):=wy;rw [hL] at ⊢;clear hv h s1 s2 hL C hl;have HT:Hid (∀n,n<=L.length->(∀x∈L.take n,bj x=true)->(∀x,L[n]?=some x->bj x=false)->L.takeWhile bj=L.take n/\L.dropWhile bj=L.drop n):=fun n a b c=>Ja bj L n a b c
 go_enter Tryz.func136,Tryz.ntmps136
 go_wp2_with fail
 go_loopw [3] (fun i wr=>∃k:Nat,k<=L.length/\i=.int .i64 k/\Hid (∀x∈L.take k,bj x=true)/\Hid (Below W.heap.size W wr)) (fun i _=>L.length-(intOf i).toNat)
 case atStart=>exact ⟨0,SW _,rfl,fun x hx=>by simp at hx,hH _ _⟩
 case round=>
  obtain ⟨k,hk,rfl,HI,HB⟩:=hrel;obtain ⟨x1,x2,x3⟩:=HV.out _ HB.out;have HL:Hid (Ld wr p L):=x3;clear x2 x3;have fin:∀w1,Hid (Below W.heap.size W w1)->(L.takeWhile bj=L.take k/\L.dropWhile bj=L.drop k)->True:=fun _ _ _=>trivial
  by_cases C:k<L.length
  ·have q1:(k:Int)<L.length:=by omega
   have q0:(0:Int)<=k:=by omega
   obtain ⟨x,hx⟩:∃x,L[k]?=some x:=⟨_,Pi C⟩;obtain ⟨b,off,rfl,c0,c1,c2,c3,c4⟩:=HL.out k x hx
   by_cases he:bj x=true
   ·have HN:Hid (∀y∈L.take (k+1),bj y=true):=fun y G=>by
     rw [UK,hx] at G
     rcases To.1 G with G|G
     ·exact HI.out y G
     ·simp at G;rw [G];exact he
    clear hx
    go_wp2_with (go_at_call 170;refine (HP.out x _).mono ?_;rintro e w1 ⟨rfl,M⟩;rw [he];have HC:Hid (Tb W w1):=HB.out.trans (M.mono HB.out.size);clear M)
    exact ⟨⟨k+1,C,by go_num,HN,HC⟩,by simp [intOf];omega⟩
   ·have ac:bj x=false:=by simpa using he
    have HW:Hid (L.takeWhile bj=L.take k/\L.dropWhile bj=L.drop k):=HT.out k hk HI.out (fun y G=>by rw [hx] at G;cases G;exact ac);have q3:(k:Int)<=cap:=by omega
    clear he hx fin
    go_wp2_with (first|(go_at_call 170;refine (HP.out x _).mono ?_;rintro e w1 ⟨rfl,M⟩;rw [ac];have U:Hid (Tb W w1):=HB.out.trans (M.mono HB.out.size);obtain ⟨z1,_,_⟩:=HV.out _ U.out;clear M)|(go_at_call 171;refine (HD.out k hk _ U.out).mono ?_;rintro e w2 ⟨v2,rfl,Q,H,a3⟩;have Z:Hid (Rd w2 v2 (L.take k)/\Tb W w2/\∀k,v2.ownBlock=some k->W.heap.size<=k):=⟨Q,H,a3⟩;obtain ⟨y1,_,_⟩:=HV.out _ H;clear Q H a3)|(go_at_call 172;refine (HE.out k hk HW.out _ _ Z.out.2.1 Z.out.1 Z.out.2.2).mono ?_;rintro e w3 ⟨p3,n3,c3,rfl,⟨y2,y3⟩,y4⟩;have HX:=ai y4;clear y4))
    go_ret
    exact ⟨_,rfl,HX.out⟩
  ·obtain rfl:k=L.length:=by omega
   have HW:Hid (L.takeWhile bj=L.take L.length/\L.dropWhile bj=L.drop L.length):=HT.out _ hk HI.out (fun y G=>by simp at G);have q1:¬((L.length:Int)<L.length):=by omega
   have q3:(L.length:Int)<=cap:=by omega
   have U:Hid (Tb W wr):=HB.out;clear fin
   go_wp2_with (first|(go_at_call 171;refine (HD.out L.length hk _ U.out).mono ?_;rintro e w2 ⟨v2,rfl,Q,H,a3⟩;have Z:Hid (Rd w2 v2 (L.take L.length)/\Tb W w2/\∀k,v2.ownBlock=some k->W.heap.size<=k):=⟨Q,H,a3⟩;obtain ⟨y1,_,_⟩:=HV.out _ H;clear Q H a3)|(go_at_call 172;refine (HE.out L.length hk HW.out _ _ Z.out.2.1 Z.out.1 Z.out.2.2).mono ?_;rintro e w3 ⟨p3,n3,c3,rfl,⟨y2,y3⟩,y4⟩;have HX:=ai y4;clear y4))
   go_ret
   exact ⟨_,rfl,HX.out⟩
theorem wC {S:Nat->Prop}{vn:Value}{p:Option Addr}{C:Nat}(G:SV W g st vn (.slice p C cap)) (hs:S g) (Z:∀k,vn.ownBlock=some k->S k) (h2:∀k,(Value.slice p C cap).ownBlock=some k->S k) (hl:st.ws.length<=1000000000) (d:Dc) {i:Nat}(hi:i<=st.ws.length) {V:World}(I:Below W.heap.size W V) :
  Ta 138 #[.slice p C cap,.int .i64 i,.slice (some ⟨V.heap.size,0,none⟩) 1 1] (V.alloc (.cells #[.int .u8 d.k,.string d.t,.int .i64 d.b,.int .i64 d.i,.bool d.e] 89)) fun r w'=>∃J Q H,r=.returned (.slice J Q H)/\(w'.cell? ⟨g,2,none⟩=some (.slice p C cap)/\w'.frozen? ⟨g,2,none⟩=false)/\Mv S g W (w'.setCell ⟨g,2,none⟩ (.slice J Q H)) { st with ws:=st.ws.take i++d :: st.ws.drop i }:=by
 have F:Below W.heap.size W (V.alloc (.cells #[.int .u8 d.k,.string d.t,.int .i64 d.b,.int .i64 d.i,.bool d.e] 89)):=I.alloc I.size _;have hq:=G.below F;have M:(Value.slice p C cap).ownBlock≠some V.heap.size:=fun e=>by have:=ip (G.below I).rd _ e;omega
 refine (yJ d hq.rd hi (aq V _) M hl).mono ?_;rintro r w' ⟨v',rfl,O,U,Y⟩;obtain ⟨J,H,e,_⟩:=bG O;obtain ⟨c1,c2⟩:=G.ws F U O Y;subst e;exact ⟨_,_,_,rfl,c1,c2.mv G hs Z h2⟩
theorem mV {S:Nat->Prop}(h:SS S W g st) (hl:st.ws.length<=1000000000) :
  Ta 84 #[cd g] W fun r w'=>r=.returned (.tuple #[])/\Mv S g W w' st.endl:=by
 obtain ⟨vn,vw,F,U,Y⟩:=h.ex;have aa:=h.sg;obtain ⟨p,cap,e,hc1,hc2⟩:=bG F.rd;subst e;obtain ⟨c0,c1,c2,c3,c4,c5,c6,c7⟩:=F.sb.cells
 by_cases M:st.en=true
 ·have O:Hid (Ta 132 #[cd g,.func (.func 137) #[] #[]] W fun r w'=>r=.returned (.bool (st.ws.any bI))/\Tb W w'):=DK F hl
  by_cases Q:st.ws.any bI=true
  ·have G:st.endl=st:=by unfold Sy.endl;rw [Eq (by rw [Q];simp)]
   have Z:Hid (∀V,Tb W V->Mv S g W V st.endl):=fun V J=>by rw [G];exact Mv.quiet h J
   rw [Q] at O;rw [M] at c6;clear h F U Y G
   go_enter Tryz.func84,Tryz.ntmps84
   go_wp2_with (go_at_call 132;refine O.out.mono ?_;rintro r w1 ⟨rfl,C⟩;have HX:=show Hid (Mv S g W w1 st.endl) from Z.out _ C;clear C)
   go_end0
   exact ⟨rfl,HX.out⟩
  ·have H:st.ws.any bI=false:=by simpa using Q
   have G:st.endl={ st with ws:=st.ws.take 0++dH :: st.ws.drop 0 }:=by unfold Sy.endl;rw [IO ⟨M,H⟩];rfl
   have HC:Hid (∀V,Tb W V->V.cell? ⟨g,2,none⟩=some (.slice p st.ws.length cap)/\g<V.heap.size):=fun V J=>⟨(F.below J).sb.cells.2.2.1,(F.below J).sb.lt⟩
   have HI:Hid (∀V,Tb W V->Ta 138 #[.slice p st.ws.length cap,.int .i64 0,.slice (some ⟨V.heap.size,0,none⟩) 1 1] (V.alloc (.cells #[.int .u8 4,.string ⟨#[]⟩,.int .i64 0,.int .i64 0,.bool false] 89)) fun r w'=>∃p' n' c',r=.returned (.slice p' n' c')/\(w'.cell? ⟨g,2,none⟩=some (.slice p st.ws.length cap)/\w'.frozen? ⟨g,2,none⟩=false)/\Mv S g W (w'.setCell ⟨g,2,none⟩ (.slice p' n' c')) st.endl):=fun V J=>by rw [G];exact wC F aa U Y hl dH (i:=0) (SW _) J
   rw [H] at O;rw [M] at c6;clear h F U Y G Q H M
   go_enter Tryz.func84,Tryz.ntmps84
   go_wp2_with (first|(go_at_call 132;refine O.out.mono ?_;rintro r w1 ⟨rfl,C⟩;have HB:=show Hid (Below W.heap.size W w1) from C;obtain ⟨x1,x2⟩:=HC.out _ C;clear C)|(go_at_call 138;refine (HI.out _ HB.out).mono ?_;rintro r w3 ⟨p3,n3,c3,rfl,⟨y2,y3⟩,y4⟩;have HX:=ai y4;clear y4))
   go_end0
   exact ⟨rfl,HX.out⟩
 ·have I:st.en=false:=by simpa using M
  have G:st.endl=st:=by unfold Sy.endl;rw [Eq (by rw [I];simp)]
  have Z:Hid (Mv S g W W st.endl):=by rw [G];exact Mv.refl h
  rw [I] at c6;clear h F U Y G M I
  go_enter Tryz.func84,Tryz.ntmps84
  go_wp2_with fail
  go_end0
  exact ⟨rfl,Z.out⟩
end Go.Proofs.YtcjiapphbpiffaaGreatDoor
