import Derived.Test.YtpdlohfdjiaegaaGreatDoorR23
set_option linter.unusedVariables false
set_option linter.unusedSimpArgs false
namespace Go.Proofs.YtpdlohfdjiaegaaGreatDoor
open Go.RowKit
open Lw (Dc bE rt frm dep rtT rtN dcs au aH)
def cU (t:List UInt8):Value:=.string ⟨t.toArray⟩
def mi (W:World) (u:List Value) (r:Dr):Prop:=∃b1 b2,u=[.slice (some ⟨b1,0,none⟩) r.ns.length r.ns.length,.slice (some ⟨b2,0,none⟩) r.ts.length r.ts.length,cU r.a,cU r.b] /\
 W.heap[b1]?=some (.cells (r.ns.map (Value.int .u8)).toArray 32 (0,0))/\W.heap[b2]?=some (.cells (r.ts.map cU).toArray 9 (0,0))
def RR (B:Nat) (W:World) (v:Value) (L:List Dr):Prop:=∃us:List (List Value),us.length=L.length/\(∀(j:Nat) (u:List Value) (r:Dr),us[j]?=some u->L[j]?=some r->mi W u r)/\W.ownsRow B 192 4 v L.length us.flatten
theorem xl (B:Nat) (W:World):RR B W (.slice none 0 0) []:=⟨[],rfl,fun j u r h=>by simp at h,Ar W B _ 4⟩
theorem Tryz.info192:(Tryz.prog.info? 192).map (fun i=>(i.zero,i.size,i.bytes))=some (some (.agg #[.slice none 0 0,.slice none 0 0,.string ⟨#[]⟩,.string ⟨#[]⟩]),4,80):=by kernel_rfl
theorem mi.kp {S:Nat->Prop}{W W':World}{u:List Value}{r:Dr}(h:mi W u r) (hk:Kp S W W') (hS:∀k cs T f,W.heap[k]?=some (.cells cs T f)->T≠192->¬S k):mi W' u r:=by
 obtain ⟨b1,b2,h1,h2,h3⟩:=h;exact ⟨b1,b2,h1,hk.blk h2 (hS _ _ _ _ h2 (by decide)),hk.blk h3 (hS _ _ _ _ h3 (by decide))⟩
theorem jc {B:Nat}{W w':World}{v:Value}{e sz n:Nat}{xs:List Value}(hr:W.ownsRow B e sz v n xs) (hg:W.grownBy w' v.ownBlock) (hB:B<=W.heap.size):Below B W w':=
 ⟨hg.os,hg.tape,hg.output,hg.size,fun k hk=>hg.block k (by omega) (fun e=>by
  rcases hr.2 with ⟨rfl,_⟩|⟨b,cap,cur,rfl,h1,_⟩
  ·cases e
  ·simp only [Value.ownBlock,zL] at e;omega)⟩
theorem aI {B:Nat}{W0 W:World}{ops:Array Oper}{rest:List Oper}{o:Oper}{a:Act}{Q:Exit->Act->World->Prop}{A1 A2:Array Value}{n1 n2:Nat}{t1 t2:Value}(hgd:o.guard=none) (s x:Operand)
  (ho:o.op=.call { callee:=.builtin .append,args:=#[s,x],argTypes:=#[189,189] }) (v:Value) (L:List Dr) (r:Dr) (hs:a.eval s=v) (hr:RR B W v L) (hb:Below B W0 W) (h0:W0.heap.size=B) (hl:L.length<=1000)
  (hx:a.eval x=.slice (some ⟨W.heap.size+1+1,0,none⟩) 1 1) (e1:(A1,n1)=((r.ns.map (Value.int .u8)).toArray,r.ns.length)) (e2:(A2,n2)=((r.ts.map cU).toArray,r.ts.length)) (e3:(t1,t2)=(cU r.a,cU r.b))
  (h:∀q cap w',RR B w' (.slice (some ⟨q,0,none⟩) (L.length+1) cap) (L++[r])->Below B W0 w'->wpList Tryz.prog ops Q rest (a.put o.dst (.slice (some ⟨q,0,none⟩) (L.length+1) cap)) w') :
  wpList Tryz.prog ops Q (o :: rest) a (((W.alloc (.cells A1 32)).alloc (.cells A2 9)).alloc (.cells #[.slice (some ⟨W.heap.size,0,none⟩) n1 n1,.slice (some ⟨W.heap.size+1,0,none⟩) n2 n2,t1,t2] 192)):=by
 cases e1;cases e2;cases e3;have hBW:B<=W.heap.size:=by have:=hb.size;omega
 obtain ⟨us,hu1,hu2,hu3⟩:=hr;obtain ⟨V1,hV1⟩:∃V1,W.alloc (.cells (r.ns.map (Value.int .u8)).toArray 32)=V1:=⟨_,rfl⟩;have b1:Below W.heap.size W V1:=by rw [<-hV1];exact (gt _ _).alloc (eq _) _
 have n1:V1.heap[W.heap.size]?=some (.cells (r.ns.map (Value.int .u8)).toArray 32 (0,0)):=by rw [<-hV1];exact ag _ _
 have s1:V1.heap.size=W.heap.size+1:=by rw [<-hV1,ge]
 rw [hV1];obtain ⟨V2,hV2⟩:∃V2,V1.alloc (.cells (r.ts.map cU).toArray 9)=V2:=⟨_,rfl⟩;have b2:Below V1.heap.size V1 V2:=by rw [<-hV2];exact (gt _ _).alloc (eq _) _
 have n2:V2.heap[V1.heap.size]?=some (.cells (r.ts.map cU).toArray 9 (0,0)):=by rw [<-hV2];exact ag _ _
 have s2:V2.heap.size=V1.heap.size+1:=by rw [<-hV2,ge]
 rw [hV2];obtain ⟨u,hu⟩:∃u:List Value,[.slice (some ⟨W.heap.size,0,none⟩) r.ns.length r.ns.length,.slice (some ⟨W.heap.size+1,0,none⟩) r.ts.length r.ts.length,cU r.a,cU r.b]=u:=⟨_,rfl⟩;have hue:(#[.slice (some ⟨W.heap.size,0,none⟩) r.ns.length r.ns.length,.slice (some ⟨W.heap.size+1,0,none⟩) r.ts.length r.ts.length,cU r.a,cU r.b]:Array Value)=u.toArray:=by rw [<-hu]
 obtain ⟨V3,hV3⟩:∃V3,V2.alloc (.cells u.toArray 192)=V3:=⟨_,rfl⟩;have b3:Below V2.heap.size V2 V3:=by rw [<-hV3];exact (gt _ _).alloc (eq _) _
 have n3:V3.heap[V2.heap.size]?=some (.cells u.toArray 192 (0,0)):=by rw [<-hV3];exact ag _ _
 rw [hue,hV3];have b13:Below W.heap.size W V3:=b1.trans ((b2.trans (b3.mono b2.size)).mono b1.size);have hs2:V2.heap.size=W.heap.size+1+1:=by omega
 have hlen:u.length=4:=by rw [<-hu];rfl
 obtain ⟨i0,hi,hz0,hz1,hz2⟩:=Az Tryz.info192
 have hrow:V3.ownsRow B 192 4 v L.length us.flatten:=by
  refine ⟨hu3.1,?_⟩
  rcases hu3.2 with h1|⟨g,cap,cur,h1,h2,h3,h4⟩
  ·exact .inl h1
  ·exact .inr ⟨g,cap,cur,h1,h2,ab h3 b13,h4⟩
 have hone:∀y∈u,y.oneCell'=true:=by
  rw [<-hu];intro y hy;simp only [zK,Av,B6] at hy
  rcases hy with rfl|rfl|rfl|rfl <;> rfl
 refine Cq (P:=Tryz.prog) V3 hgd s x 189 ho B 192 i0 _ 4 80 Tryz.underlying189 hi hz0 hz1 hz2 rfl (by decide) v _ _ hs hrow ⟨V2.heap.size,0,none⟩ 1 1 u (by rw [hx,hs2]) (by rw [hlen]) (fun j y hy=>As n3 j y (by simpa using hy)) hone (by omega) (by unfold maxLen;omega) (by omega) (zr hBW b13.size) _ rfl ?_
 ·intro g cap w' a1 a2 a3 _;have hB:B<=V3.heap.size:=zr hBW b13.size;refine h g cap w' ⟨us++[u],by simp [hu1],fun j y r' hy hr'=>?_,?_⟩ ((hb.trans (b13.mono hBW)).trans (jc hrow a2 hB))
  ·have hkp:Kp (fun k=>v.ownBlock=some k) V3 w':=(Kp.of_grown a2).sub (fun k e=>e.symm);have hS:∀k cs T f,V3.heap[k]?=some (.cells cs T f)->T≠192->¬v.ownBlock=some k:=fun k cs T f hk hT=>ay (⟨hrow.1,hrow.2.imp id fun ⟨g,cap,cur,h1,h2,h3⟩=>⟨g,cap,cur,h1,zx _,h3⟩⟩:V3.ownsRow 0 _ _ _ _ _) hk hT
   by_cases hj:j<us.length
   ·rw [zW hj] at hy;rw [zW (by omega)] at hr';exact ((hu2 j y r' hy hr').kp (Kp.of_below (S:=fun _=>False) b13) (fun _ _ _ _ _ _ h=>h)).kp hkp hS
   ·rw [zR (by omega)] at hy;rw [zR (by omega)] at hr'
    have ej:j-us.length=0:=by
     have:=(zv.1 hy).1;simp at this;omega
    rw [ej] at hy;rw [<-hu1,ej] at hr';cases hy;cases hr';refine mi.kp ⟨W.heap.size,W.heap.size+1,hu.symm,?_,?_⟩ hkp hS
    ·exact ab n1 (b2.trans (b3.mono b2.size))
    ·rw [<-s1];exact ab n2 b3
  ·rw [zq,List.flatten_append,List.flatten_singleton];exact a1
set_option maxRecDepth 100000 in
set_option maxHeartbeats 8000000 in
theorem rD (W:World):Aa 126 #[] W fun r w'=>∃q cap,r=.returned (.slice (some ⟨q,0,none⟩) 36 cap)/\RR W.heap.size w' (.slice (some ⟨q,0,none⟩) 36 cap) bu/\Below W.heap.size W w':=by
 have HR0:Hid (RR W.heap.size W (.slice none 0 0) []/\Below W.heap.size W W):=⟨xl _ _,gt _ _⟩;obtain ⟨B,hB⟩:∃B,W.heap.size=B:=⟨_,rfl⟩;obtain ⟨W0,hW0⟩:∃W0,W=W0:=⟨_,rfl⟩;have HE:Hid (W0.heap.size=B):=by show _=_;rw [<-hW0];exact hB
 rw [hB] at HR0 ⊢;have HR:Hid (RR B W (.slice none 0 0) []/\Below B W0 W):=⟨HR0.out.1,by rw [<-hW0];exact HR0.out.2⟩;rw [hW0];rw [hW0] at HR;clear HR0 hB hW0
 go_enter Tryz.func126,Tryz.ntmps126
 go_upto_region 3 with (at_builtin;refine aI (by rfl) _ _ (by rfl) _ _ ⟨[1],[[112,114,111,103,114,97,109]],[],[83]⟩ (by rfl) HR.out.1 HR.out.2 HE.out (by decide) (by rfl) (by rfl) (by rfl) (by rfl) ?_;intro q c w1 hr hb;clear HR;have HR:Hid (RR B w1 (.slice (some ⟨q,0,none⟩) 1 c) (bu.take 1)/\Below B W0 w1):=⟨hr,hb⟩;clear hr hb)
 go_upto_region 4 with (at_builtin;refine aI (by rfl) _ _ (by rfl) _ _ ⟨[1,12,10],[[59]],[],[72]⟩ (by rfl) HR.out.1 HR.out.2 HE.out (by decide) (by rfl) (by rfl) (by rfl) (by rfl) ?_;intro q c w2 hr hb;clear HR;have HR:Hid (RR B w2 (.slice (some ⟨q,0,none⟩) 2 c) (bu.take 2)/\Below B W0 w2):=⟨hr,hb⟩;clear hr hb)
 go_upto_region 5 with (at_builtin;refine aI (by rfl) _ _ (by rfl) _ _ ⟨[2,20],[[98,101,103,105,110]],[],[69,72]⟩ (by rfl) HR.out.1 HR.out.2 HE.out (by decide) (by rfl) (by rfl) (by rfl) (by rfl) ?_;intro q c w3 hr hb;clear HR;have HR:Hid (RR B w3 (.slice (some ⟨q,0,none⟩) 3 c) (bu.take 3)/\Below B W0 w3):=⟨hr,hb⟩;clear hr hb)
 go_upto_region 6 with (at_builtin;refine aI (by rfl) _ _ (by rfl) _ _ ⟨[2,20,10,15,16,17],[[101,110,100]],[93,72],[]⟩ (by rfl) HR.out.1 HR.out.2 HE.out (by decide) (by rfl) (by rfl) (by rfl) (by rfl) ?_;intro q c w4 hr hb;clear HR;have HR:Hid (RR B w4 (.slice (some ⟨q,0,none⟩) 4 c) (bu.take 4)/\Below B W0 w4):=⟨hr,hb⟩;clear hr hb)
 go_upto_region 7 with (at_builtin;refine aI (by rfl) _ _ (by rfl) _ _ ⟨[3],[[118,97,114]],[],[83,52]⟩ (by rfl) HR.out.1 HR.out.2 HE.out (by decide) (by rfl) (by rfl) (by rfl) (by rfl) ?_;intro q c w5 hr hb;clear HR;have HR:Hid (RR B w5 (.slice (some ⟨q,0,none⟩) 5 c) (bu.take 5)/\Below B W0 w5):=⟨hr,hb⟩;clear hr hb)
 go_upto_region 8 with (at_builtin;refine aI (by rfl) _ _ (by rfl) _ _ ⟨[3,7,11,29,31],[[44]],[],[66]⟩ (by rfl) HR.out.1 HR.out.2 HE.out (by decide) (by rfl) (by rfl) (by rfl) (by rfl) ?_;intro q c w6 hr hb;clear HR;have HR:Hid (RR B w6 (.slice (some ⟨q,0,none⟩) 6 c) (bu.take 6)/\Below B W0 w6):=⟨hr,hb⟩;clear hr hb)
 go_upto_region 9 with (at_builtin;refine aI (by rfl) _ _ (by rfl) _ _ ⟨[3,7,11],[[58]],[93],[83]⟩ (by rfl) HR.out.1 HR.out.2 HE.out (by decide) (by rfl) (by rfl) (by rfl) (by rfl) ?_;intro q c w7 hr hb;clear HR;have HR:Hid (RR B w7 (.slice (some ⟨q,0,none⟩) 7 c) (bu.take 7)/\Below B W0 w7):=⟨hr,hb⟩;clear hr hb)
 go_upto_region 10 with (at_builtin;refine aI (by rfl) _ _ (by rfl) _ _ ⟨[3],[[59]],[],[72]⟩ (by rfl) HR.out.1 HR.out.2 HE.out (by decide) (by rfl) (by rfl) (by rfl) (by rfl) ?_;intro q c w8 hr hb;clear HR;have HR:Hid (RR B w8 (.slice (some ⟨q,0,none⟩) 8 c) (bu.take 8)/\Below B W0 w8):=⟨hr,hb⟩;clear hr hb)
 go_upto_region 11 with (at_builtin;refine aI (by rfl) _ _ (by rfl) _ _ ⟨[4],[[99,111,110,115,116]],[],[83]⟩ (by rfl) HR.out.1 HR.out.2 HE.out (by decide) (by rfl) (by rfl) (by rfl) (by rfl) ?_;intro q c w9 hr hb;clear HR;have HR:Hid (RR B w9 (.slice (some ⟨q,0,none⟩) 9 c) (bu.take 9)/\Below B W0 w9):=⟨hr,hb⟩;clear hr hb)
 go_upto_region 12 with (at_builtin;refine aI (by rfl) _ _ (by rfl) _ _ ⟨[5],[[112,114,111,99]],[],[83]⟩ (by rfl) HR.out.1 HR.out.2 HE.out (by decide) (by rfl) (by rfl) (by rfl) (by rfl) ?_;intro q c w10 hr hb;clear HR;have HR:Hid (RR B w10 (.slice (some ⟨q,0,none⟩) 10 c) (bu.take 10)/\Below B W0 w10):=⟨hr,hb⟩;clear hr hb)
 go_upto_region 13 with (at_builtin;refine aI (by rfl) _ _ (by rfl) _ _ ⟨[4],[[61]],[83],[50,66]⟩ (by rfl) HR.out.1 HR.out.2 HE.out (by decide) (by rfl) (by rfl) (by rfl) (by rfl) ?_;intro q c w11 hr hb;clear HR;have HR:Hid (RR B w11 (.slice (some ⟨q,0,none⟩) 11 c) (bu.take 11)/\Below B W0 w11):=⟨hr,hb⟩;clear hr hb)
 go_upto_region 14 with (at_builtin;refine aI (by rfl) _ _ (by rfl) _ _ ⟨[4],[[59]],[93],[72]⟩ (by rfl) HR.out.1 HR.out.2 HE.out (by decide) (by rfl) (by rfl) (by rfl) (by rfl) ?_;intro q c w12 hr hb;clear HR;have HR:Hid (RR B w12 (.slice (some ⟨q,0,none⟩) 12 c) (bu.take 12)/\Below B W0 w12):=⟨hr,hb⟩;clear hr hb)
 go_upto_region 15 with (at_builtin;refine aI (by rfl) _ _ (by rfl) _ _ ⟨[5],[[58]],[],[83]⟩ (by rfl) HR.out.1 HR.out.2 HE.out (by decide) (by rfl) (by rfl) (by rfl) (by rfl) ?_;intro q c w13 hr hb;clear HR;have HR:Hid (RR B w13 (.slice (some ⟨q,0,none⟩) 13 c) (bu.take 13)/\Below B W0 w13):=⟨hr,hb⟩;clear hr hb)
 go_upto_region 16 with (at_builtin;refine aI (by rfl) _ _ (by rfl) _ _ ⟨[6],[[40]],[],[50,48]⟩ (by rfl) HR.out.1 HR.out.2 HE.out (by decide) (by rfl) (by rfl) (by rfl) (by rfl) ?_;intro q c w14 hr hb;clear HR;have HR:Hid (RR B w14 (.slice (some ⟨q,0,none⟩) 14 c) (bu.take 14)/\Below B W0 w14):=⟨hr,hb⟩;clear hr hb)
 go_upto_region 17 with (at_builtin;refine aI (by rfl) _ _ (by rfl) _ _ ⟨[6],[[59]],[],[66]⟩ (by rfl) HR.out.1 HR.out.2 HE.out (by decide) (by rfl) (by rfl) (by rfl) (by rfl) ?_;intro q c w15 hr hb;clear HR;have HR:Hid (RR B w15 (.slice (some ⟨q,0,none⟩) 15 c) (bu.take 15)/\Below B W0 w15):=⟨hr,hb⟩;clear hr hb)
 go_upto_region 18 with (at_builtin;refine aI (by rfl) _ _ (by rfl) _ _ ⟨[6,27,31],[[41]],[93],[]⟩ (by rfl) HR.out.1 HR.out.2 HE.out (by decide) (by rfl) (by rfl) (by rfl) (by rfl) ?_;intro q c w16 hr hb;clear HR;have HR:Hid (RR B w16 (.slice (some ⟨q,0,none⟩) 16 c) (bu.take 16)/\Below B W0 w16):=⟨hr,hb⟩;clear hr hb)
 go_upto_region 19 with (at_builtin;refine aI (by rfl) _ _ (by rfl) _ _ ⟨[9],[[97,114,114,97,121]],[],[83]⟩ (by rfl) HR.out.1 HR.out.2 HE.out (by decide) (by rfl) (by rfl) (by rfl) (by rfl) ?_;intro q c w17 hr hb;clear HR;have HR:Hid (RR B w17 (.slice (some ⟨q,0,none⟩) 17 c) (bu.take 17)/\Below B W0 w17):=⟨hr,hb⟩;clear hr hb)
 go_upto_region 20 with (at_builtin;refine aI (by rfl) _ _ (by rfl) _ _ ⟨[9],[[111,102]],[83],[83]⟩ (by rfl) HR.out.1 HR.out.2 HE.out (by decide) (by rfl) (by rfl) (by rfl) (by rfl) ?_;intro q c w18 hr hb;clear HR;have HR:Hid (RR B w18 (.slice (some ⟨q,0,none⟩) 18 c) (bu.take 18)/\Below B W0 w18):=⟨hr,hb⟩;clear hr hb)
 go_upto_region 21 with (at_builtin;refine aI (by rfl) _ _ (by rfl) _ _ ⟨[10],[[114,101,99,111,114,100]],[],[69,72]⟩ (by rfl) HR.out.1 HR.out.2 HE.out (by decide) (by rfl) (by rfl) (by rfl) (by rfl) ?_;intro q c w19 hr hb;clear HR;have HR:Hid (RR B w19 (.slice (some ⟨q,0,none⟩) 19 c) (bu.take 19)/\Below B W0 w19):=⟨hr,hb⟩;clear hr hb)
 go_upto_region 22 with (at_builtin;refine aI (by rfl) _ _ (by rfl) _ _ ⟨[14],[[58,61]],[83],[66]⟩ (by rfl) HR.out.1 HR.out.2 HE.out (by decide) (by rfl) (by rfl) (by rfl) (by rfl) ?_;intro q c w20 hr hb;clear HR;have HR:Hid (RR B w20 (.slice (some ⟨q,0,none⟩) 20 c) (bu.take 20)/\Below B W0 w20):=⟨hr,hb⟩;clear hr hb)
 go_upto_region 23 with (at_builtin;refine aI (by rfl) _ _ (by rfl) _ _ ⟨[15],[[105,102]],[],[83,51]⟩ (by rfl) HR.out.1 HR.out.2 HE.out (by decide) (by rfl) (by rfl) (by rfl) (by rfl) ?_;intro q c w21 hr hb;clear HR;have HR:Hid (RR B w21 (.slice (some ⟨q,0,none⟩) 21 c) (bu.take 21)/\Below B W0 w21):=⟨hr,hb⟩;clear hr hb)
 go_upto_region 24 with (at_builtin;refine aI (by rfl) _ _ (by rfl) _ _ ⟨[15],[[101,108,105,102]],[93,72],[83,51]⟩ (by rfl) HR.out.1 HR.out.2 HE.out (by decide) (by rfl) (by rfl) (by rfl) (by rfl) ?_;intro q c w22 hr hb;clear HR;have HR:Hid (RR B w22 (.slice (some ⟨q,0,none⟩) 22 c) (bu.take 22)/\Below B W0 w22):=⟨hr,hb⟩;clear hr hb)
 go_upto_region 25 with (at_builtin;refine aI (by rfl) _ _ (by rfl) _ _ ⟨[16],[[119,104,105,108,101]],[],[83,51]⟩ (by rfl) HR.out.1 HR.out.2 HE.out (by decide) (by rfl) (by rfl) (by rfl) (by rfl) ?_;intro q c w23 hr hb;clear HR;have HR:Hid (RR B w23 (.slice (some ⟨q,0,none⟩) 23 c) (bu.take 23)/\Below B W0 w23):=⟨hr,hb⟩;clear hr hb)
 go_upto_region 26 with (at_builtin;refine aI (by rfl) _ _ (by rfl) _ _ ⟨[15],[[116,104,101,110]],[93,83],[69,72]⟩ (by rfl) HR.out.1 HR.out.2 HE.out (by decide) (by rfl) (by rfl) (by rfl) (by rfl) ?_;intro q c w24 hr hb;clear HR;have HR:Hid (RR B w24 (.slice (some ⟨q,0,none⟩) 24 c) (bu.take 24)/\Below B W0 w24):=⟨hr,hb⟩;clear hr hb)
 go_upto_region 27 with (at_builtin;refine aI (by rfl) _ _ (by rfl) _ _ ⟨[15],[[101,108,115,101]],[93,72],[69,72]⟩ (by rfl) HR.out.1 HR.out.2 HE.out (by decide) (by rfl) (by rfl) (by rfl) (by rfl) ?_;intro q c w25 hr hb;clear HR;have HR:Hid (RR B w25 (.slice (some ⟨q,0,none⟩) 25 c) (bu.take 25)/\Below B W0 w25):=⟨hr,hb⟩;clear hr hb)
 go_upto_region 28 with (at_builtin;refine aI (by rfl) _ _ (by rfl) _ _ ⟨[16],[[100,111]],[93,83],[69,72]⟩ (by rfl) HR.out.1 HR.out.2 HE.out (by decide) (by rfl) (by rfl) (by rfl) (by rfl) ?_;intro q c w26 hr hb;clear HR;have HR:Hid (RR B w26 (.slice (some ⟨q,0,none⟩) 26 c) (bu.take 26)/\Below B W0 w26):=⟨hr,hb⟩;clear hr hb)
 go_upto_region 29 with (at_builtin;refine aI (by rfl) _ _ (by rfl) _ _ ⟨[17],[[102,111,114]],[],[83]⟩ (by rfl) HR.out.1 HR.out.2 HE.out (by decide) (by rfl) (by rfl) (by rfl) (by rfl) ?_;intro q c w27 hr hb;clear HR;have HR:Hid (RR B w27 (.slice (some ⟨q,0,none⟩) 27 c) (bu.take 27)/\Below B W0 w27):=⟨hr,hb⟩;clear hr hb)
 go_upto_region 30 with (at_builtin;refine aI (by rfl) _ _ (by rfl) _ _ ⟨[17],[[58,61],[116,111]],[83],[83]⟩ (by rfl) HR.out.1 HR.out.2 HE.out (by decide) (by rfl) (by rfl) (by rfl) (by rfl) ?_;intro q c w28 hr hb;clear HR;have HR:Hid (RR B w28 (.slice (some ⟨q,0,none⟩) 28 c) (bu.take 28)/\Below B W0 w28):=⟨hr,hb⟩;clear hr hb)
 go_upto_region 31 with (at_builtin;refine aI (by rfl) _ _ (by rfl) _ _ ⟨[17],[[100,111]],[83],[69,72]⟩ (by rfl) HR.out.1 HR.out.2 HE.out (by decide) (by rfl) (by rfl) (by rfl) (by rfl) ?_;intro q c w29 hr hb;clear HR;have HR:Hid (RR B w29 (.slice (some ⟨q,0,none⟩) 29 c) (bu.take 29)/\Below B W0 w29):=⟨hr,hb⟩;clear hr hb)
 go_upto_region 32 with (at_builtin;refine aI (by rfl) _ _ (by rfl) _ _ ⟨[18],[[114,101,112,101,97,116]],[],[69,72]⟩ (by rfl) HR.out.1 HR.out.2 HE.out (by decide) (by rfl) (by rfl) (by rfl) (by rfl) ?_;intro q c w30 hr hb;clear HR;have HR:Hid (RR B w30 (.slice (some ⟨q,0,none⟩) 30 c) (bu.take 30)/\Below B W0 w30):=⟨hr,hb⟩;clear hr hb)
 go_upto_region 33 with (at_builtin;refine aI (by rfl) _ _ (by rfl) _ _ ⟨[18],[[117,110,116,105,108]],[93,72],[83,51]⟩ (by rfl) HR.out.1 HR.out.2 HE.out (by decide) (by rfl) (by rfl) (by rfl) (by rfl) ?_;intro q c w31 hr hb;clear HR;have HR:Hid (RR B w31 (.slice (some ⟨q,0,none⟩) 31 c) (bu.take 31)/\Below B W0 w31):=⟨hr,hb⟩;clear hr hb)
 go_upto_region 34 with (at_builtin;refine aI (by rfl) _ _ (by rfl) _ _ ⟨[26],[[110,111,116]],[],[83]⟩ (by rfl) HR.out.1 HR.out.2 HE.out (by decide) (by rfl) (by rfl) (by rfl) (by rfl) ?_;intro q c w32 hr hb;clear HR;have HR:Hid (RR B w32 (.slice (some ⟨q,0,none⟩) 32 c) (bu.take 32)/\Below B W0 w32):=⟨hr,hb⟩;clear hr hb)
 go_upto_region 35 with (at_builtin;refine aI (by rfl) _ _ (by rfl) _ _ ⟨[27],[[40]],[],[53]⟩ (by rfl) HR.out.1 HR.out.2 HE.out (by decide) (by rfl) (by rfl) (by rfl) (by rfl) ?_;intro q c w33 hr hb;clear HR;have HR:Hid (RR B w33 (.slice (some ⟨q,0,none⟩) 33 c) (bu.take 33)/\Below B W0 w33):=⟨hr,hb⟩;clear hr hb)
 go_upto_region 36 with (at_builtin;refine aI (by rfl) _ _ (by rfl) _ _ ⟨[29],[[91]],[],[53]⟩ (by rfl) HR.out.1 HR.out.2 HE.out (by decide) (by rfl) (by rfl) (by rfl) (by rfl) ?_;intro q c w34 hr hb;clear HR;have HR:Hid (RR B w34 (.slice (some ⟨q,0,none⟩) 34 c) (bu.take 34)/\Below B W0 w34):=⟨hr,hb⟩;clear hr hb)
 go_upto_region 37 with (at_builtin;refine aI (by rfl) _ _ (by rfl) _ _ ⟨[29],[[93]],[93],[]⟩ (by rfl) HR.out.1 HR.out.2 HE.out (by decide) (by rfl) (by rfl) (by rfl) (by rfl) ?_;intro q c w35 hr hb;clear HR;have HR:Hid (RR B w35 (.slice (some ⟨q,0,none⟩) 35 c) (bu.take 35)/\Below B W0 w35):=⟨hr,hb⟩;clear hr hb)
 go_upto_region 38 with (at_builtin;refine aI (by rfl) _ _ (by rfl) _ _ ⟨[31],[[40]],[],[50]⟩ (by rfl) HR.out.1 HR.out.2 HE.out (by decide) (by rfl) (by rfl) (by rfl) (by rfl) ?_;intro q c w36 hr hb;clear HR;have HR:Hid (RR B w36 (.slice (some ⟨q,0,none⟩) 36 c) (bu.take 36)/\Below B W0 w36):=⟨hr,hb⟩;clear hr hb)
 go_wp2_with fail
 go_ret
 exact ⟨_,_,rfl,HR.out.1,HR.out.2⟩
end Go.Proofs.YtpdlohfdjiaegaaGreatDoor
