import Derived.Laws.BitsAllLaws
import Derived.Test.YtpdlohfdjiaegaaGreatDoorTie
import Derived.Test.YtpdlohfdjiaegaaGreatDoorCards
import Derived.ShutString
import Derived.ChangeOld
import Derived.SevenTiedAt
import Derived.Lib.SmallJoins
import Derived.Deep.Slices
import Derived.Deep.DeepHandedRow
import Derived.Test.YtpdlohfdjiaegaaGreatDoorR51
set_option linter.unusedVariables false
set_option linter.unusedSimpArgs false
set_option maxRecDepth 100000
namespace Go.Proofs.YtpdlohfdjiaegaaGreatDoor
open Go.RowKit
open Lw (Dc bE rt frm dep rtT rtN dcs au aH)
def Lop (w:World) (ao:Option Addr) (l:List Opz):Prop:=∀j o,l[j]?=some o->∃b off,ao=some ⟨b,off,none⟩ /\
 w.cell? ⟨b,off+j*10,none⟩=some (.int .u8 o.e.k)/\w.cell? ⟨b,off+j*10+1,none⟩=some (.int .u8 o.e.n)/\w.cell? ⟨b,off+j*10+2,none⟩=some (.int .u8 o.e.d.k)/\w.cell? ⟨b,off+j*10+3,none⟩=some (.string o.e.d.t)/\w.cell? ⟨b,off+j*10+4,none⟩=some (.int .i64 o.e.d.a)/\w.cell? ⟨b,off+j*10+5,none⟩=some (.int .i64 o.e.d.l)/\w.cell? ⟨b,off+j*10+6,none⟩=some (.int .i64 o.e.d.c)/\w.cell? ⟨b,off+j*10+7,none⟩=some (.int .i64 o.e.d.f)/\w.cell? ⟨b,off+j*10+8,none⟩=some (.int .i64 o.on)/\w.cell? ⟨b,off+j*10+9,none⟩=some (.bool o.fin)
theorem Lop.below {w w':World}{ao:Option Addr}{l:List Opz}(h:Lop w ao l) (hb:Below w.heap.size w w'):Lop w' ao l:=by
 intro j a ha;obtain ⟨b,off,h1,c0,c1,c2,c3,c4,c5,c6,c7,c8,c9⟩:=h j a ha;have hlt:=zy _ _ c0;have e:∀k v,w.cell? ⟨b,k,none⟩=some v->w'.cell? ⟨b,k,none⟩=some v:=fun k v hv=>(zG (a:=⟨b,k,none⟩) (hb.block b hlt)).trans hv
 exact ⟨b,off,h1,e _ _ c0,e _ _ c1,e _ _ c2,e _ _ c3,e _ _ c4,e _ _ c5,e _ _ c6,e _ _ c7,e _ _ c8,e _ _ c9⟩
theorem zo {W:World}{ops:Array Oper}{rest:List Oper}{o:Oper}{a:Act}{Q:Exit->Act->World->Prop}{g h:Nat}(hgd:o.guard=none) (s x:Operand)
  (ho:o.op=.call { callee:=.builtin .append,args:=#[s,x],argTypes:=#[24,24] }) (v:Value) (ps:List Pr) (st:Sst) (hs:a.eval s=v) (hr:W.ownsRow 0 30 2 v ps.length (prC ps)) (hl:ps.length<=1000)
  (hx:a.eval x=.slice (some ⟨W.heap.size,0,none⟩) 1 1)
  (hK:∀q cap w',w'.ownsRow 0 30 2 (.slice (some ⟨q,0,none⟩) (ps.length+1) cap) (ps.length+1) (prC (ps++[(g,h,st)]))->Kp (fun k=>v.ownBlock=some k) (W.alloc (.cells #[spg g,spg h] 30)) w'->((Value.slice (some ⟨q,0,none⟩) (ps.length+1) cap).ownBlock=v.ownBlock\/(Value.slice (some ⟨q,0,none⟩) (ps.length+1) cap).ownBlock=some (W.alloc (.cells #[spg g,spg h] 30)).heap.size)->wpList Tryz.prog ops Q rest (a.put o.dst (.slice (some ⟨q,0,none⟩) (ps.length+1) cap)) w') :
  wpList Tryz.prog ops Q (o :: rest) a (W.alloc (.cells #[spg g,spg h] 30)):=by
 obtain ⟨i0,hi,hz0,hz1,hz2⟩:=Az Tryz.info30;have hb:Below W.heap.size W (W.alloc (.cells #[spg g,spg h] 30)):=(gt _ _).alloc (eq _) _;refine Cq (P:=Tryz.prog) (W.alloc (.cells #[spg g,spg h] 30)) hgd s x 24 ho 0 30 i0 _ 2 16 Tryz.underlying24 hi hz0 hz1 hz2 rfl (by decide) v _ _ hs (aE hr hb) ⟨W.heap.size,0,none⟩ 1 1 (prC [(g,h,st)]) hx (by rw [uY];rfl) ?_ (uX _) (by omega) (by unfold maxLen;omega) (by omega) (zx _) _ rfl ?_
 ·intro j u hu;refine As (ag W _) j u ?_
  simpa [prC,aN] using hu
 ·intro q cap w' a1 a2 a3 _;refine hK q cap w' (by rw [uZ];exact a1) ((Kp.of_grown a2).sub (fun k e=>e.symm)) ?_
  rcases a3 with a3|a3
  ·exact .inl a3.symm
  ·exact .inr (by rw [a3];rfl)
theorem mg (E:Int):bits BinOp.and IntKind.i64 E 1=E % 2:=by
 show IntKind.i64.wrap (((BitVec.ofInt 64 E &&& BitVec.ofInt 64 1).toNat:Nat):Int)=E % 2
 rw [BitVec.toNat_and,BitVec.toNat_ofInt,show (BitVec.ofInt 64 1).toNat=1 from rfl,Nat.and_one_is_mod]
 have h:(((E % ((2 ^ 64:Nat):Int)).toNat % 2:Nat):Int)=E % 2:=by
  have e:((2 ^ 64:Nat):Int)=18446744073709551616:=by decide
  rw [e];omega
 rw [h,zF];omega
theorem r9 {wr w1 w2 w3:World}(h1:Sq (fun k=>k=wr.heap.size) w1 wr.heap.size (.live sy0)) (b1:Below wr.heap.size wr w1) (b2:Below w1.heap.size w1 w2) (h3:DQ (fun k=>k=w2.heap.size) w3 w2.heap.size (.live sy0)) (b3:Below w2.heap.size w2 w3) :
  Pb (fun k=>k=wr.heap.size) (fun k=>k=w2.heap.size) w3 wr.heap.size w2.heap.size (.live sy0)/\Below wr.heap.size wr w3/\wr.heap.size<=w2.heap.size:=by
 have h0:=h1.lt wr.heap.size rfl;have s2:=b2.size;refine ⟨⟨(h1.below b2).below b3,h3,fun k e e2=>?_⟩,(b1.trans (b2.mono b1.size)).trans (b3.mono (zr b1.size b2.size)),by omega⟩;have e':k=wr.heap.size:=e;have e2':k=w2.heap.size:=e2;omega
set_option maxHeartbeats 4000000 in
theorem mA (L:List Opz) (ao:Option Addr) (cap:Nat) (W:World) (hL:Lop W ao L) (hl:L.length<=5000000) (ht:∀o∈L,o.e.d.t.size<=9223372036854775807) (hT:Lx.Kab W) (hW:Lw.Tab W) :
  Aa 4 #[.slice ao L.length cap] W fun r w'=>r=.returned (.bool true)/\Below W.heap.size W w':=by
 have HAw:Hid (∀V,Below W.heap.size W V->Aa 9 #[] V fun r w'=>r=.returned (.bool true)/\Below V.heap.size V w'):=fun V hb=>qK V (hT.below hb) (hW.below hb)
 have HNs:Hid (∀V,Aa 10 #[] V fun rr w'=>rr=.returned (spg V.heap.size)/\Sq (fun k=>k=V.heap.size) w' V.heap.size (.live sy0)/\Below V.heap.size V w'):=iL;have HNr:Hid (∀V,Aa 11 #[] V fun rr w'=>rr=.returned (spg V.heap.size)/\DQ (fun k=>k=V.heap.size) w' V.heap.size (.live sy0)/\Below V.heap.size V w'):=rF;have HL:Hid (Lop W ao L/\∀o∈L,o.e.d.t.size<=9223372036854775807):=⟨hL,ht⟩;have HP0:Hid (PL W W (.slice none 0 0) [] []):=xw W;clear hL ht hT hW
 go_enter Tryz.func4,Tryz.ntmps4
 go_wp2_with fail
 go_loopw [3,4,5] (fun v i _ wr=>∃(k:Nat) (p:Option Addr) (c:Nat),k<=2/\i=.int .i64 k/\v=.slice p k c/\Hid (∃ps own,PL W wr (.slice p k c) ps own/\ps.length=k/\∀(x:Nat) (q:Pr),ps[x]?=some q->q.2.2=.live sy0)) (fun _ i _ _=>2-(intOf i).toNat)
 case atStart=>exact ⟨0,none,0,by omega,rfl,rfl,[],[],HP0.out,rfl,fun x q h=>by simp at h⟩
 case round=>
  obtain ⟨k,p,c,hk,rfl,rfl,HI⟩:=hrel;obtain ⟨ps,own,hPL,hlen,hall⟩:=HI.out;have HPL:Hid (PL W wr (.slice p k c) ps own/\ps.length=k/\∀(x:Nat) (q:Pr),ps[x]?=some q->q.2.2=.live sy0):=⟨hPL,hlen,hall⟩;clear HI hPL hlen hall
  by_cases hlt:k<2
  ·have q1:(k:Int)<2:=by omega
   have HG:Hid (k+1<=2):=hlt;clear hlt
   go_wp2_with (first
    | (go_at_call 10;refine (HNs.out _).mono ?_;rintro r1 w1 ⟨rfl,hq1,hb1⟩;have HQ1:=show Hid (Sq (fun k=>k=wr.heap.size) w1 wr.heap.size (.live sy0)/\Below wr.heap.size wr w1/\Below W.heap.size W w1) from ⟨hq1,hb1,HPL.out.1.bel.trans (hb1.mono HPL.out.1.bel.size)⟩;clear hq1 hb1)
    | (go_at_call 9;refine (HAw.out _ HQ1.out.2.2).mono ?_;rintro r2 w2 ⟨rfl,hb2⟩;have HB2:=show Hid (Below w1.heap.size w1 w2) from hb2;clear hb2)
    | (go_at_call 11;refine (HNr.out _).mono ?_;rintro r3 w3 ⟨rfl,hq3,hb3⟩;have HQ3:=show Hid (Pb (fun k=>k=wr.heap.size) (fun k=>k=w2.heap.size) w3 wr.heap.size w2.heap.size (.live sy0)/\Below wr.heap.size wr w3/\wr.heap.size<=w2.heap.size) from r9 HQ1.out.1 HQ1.out.2.1 HB2.out hq3 hb3;have HR3:=show Hid (w3.ownsRow 0 30 2 (.slice p k c) ps.length (prC ps)/\ps.length<=1000) from ⟨(HPL.out.1.below HQ3.out.2.1).row,by have:=HPL.out.2.1;have:=HG.out;omega⟩;clear hq3 hb3)
    | (at_builtin;refine zo (by rfl) _ _ (by rfl) (.slice p k c) ps (.live sy0) (by rfl) HR3.out.1 HR3.out.2 (by rfl) ?_;intro q9 c9 w9 z1 z2 z3;rw [HPL.out.2.1] at z1 z3 ⊢;have HY:=show Hid (PL W w9 (.slice (some ⟨q9,0,none⟩) (k+1) c9) (ps++[(wr.heap.size,w2.heap.size,Sst.live sy0)]) (own++[((fun k=>k=wr.heap.size),(fun k=>k=w2.heap.size))])) from HPL.out.1.push HQ3.out.2.1 HQ3.out.1 (fun k e=>(by rcases e with e|e;rw [e];exact eq _;rw [e];exact HQ3.out.2.2)) ((gt _ _).alloc (eq _) _) (by rw [HPL.out.2.1];exact z1) z2 z3;clear z1 z2 z3))
   refine ⟨⟨k+1,_,_,HG.out,by go_num,rfl,_,_,HY.out,by simp [HPL.out.2.1],fun x q hx=>?_⟩,by simp [intOf];have:=HG.out;omega⟩
   by_cases hx2:x<ps.length
   ·rw [zW hx2] at hx;exact HPL.out.2.2 x q hx
   ·rw [zR (by omega)] at hx;have e0:x-ps.length=0:=by have:=(zv.1 hx).1;simp at this;omega
    rw [e0] at hx;cases hx;rfl
  ·obtain rfl:k=2:=by omega
   have q1:¬((2:Int)<2):=by omega
   obtain ⟨q0,hq0⟩:∃q0,p=some ⟨q0,0,none⟩:=by
    have hr:=HPL.out.1.row;rw [HPL.out.2.1] at hr;obtain ⟨g0,cp0,e,_⟩:=World.ownsRow.form hr (by omega);cases e;exact ⟨g0,rfl⟩
   subst hq0;have HZ0:Hid (∃ps own,PL W wr (.slice (some ⟨q0,0,none⟩) 2 c) ps own/\ps.length=2/\∀(x:Nat) (q:Pr),ps[x]?=some q->Zs 0 q.2.2):=⟨ps,own,HPL.out.1,HPL.out.2.1,fun x q hx=>by rw [HPL.out.2.2 x q hx];exact wX⟩;clear HPL hlt hk HAw HNs HNr HP0
   go_wp2_with fail
   go_loopw [6] (fun i wr2=>∃j:Nat,j<=L.length/\i=.int .i64 j/\Hid (∃ps own,PL W wr2 (.slice (some ⟨q0,0,none⟩) 2 c) ps own/\ps.length=2/\∀(x:Nat) (q:Pr),ps[x]?=some q->Zs j q.2.2)) (fun i _=>L.length-(intOf i).toNat)
   case atStart=>exact ⟨0,zx _,rfl,HZ0.out⟩
   case round=>
    obtain ⟨j,hj,rfl,HI⟩:=hrel
    by_cases hlt:j<L.length
    ·have q2:(j:Int)<L.length:=by omega
     have q3:(0:Int)<=j:=by omega
     obtain ⟨o,ho⟩:∃o,L[j]?=some o:=⟨_,hH hlt⟩;obtain ⟨ps,own,hPL,hlen,hall⟩:=HI.out
     obtain ⟨b,off,hab⟩:∃b off,ao=some ⟨b,off,none⟩:=by
      obtain ⟨b,off,h1,_⟩:=HL.out.1 j o ho;exact ⟨b,off,h1⟩
     subst hab;have hto:=HL.out.2 o (Ah ho);obtain ⟨x,hx⟩:∃x:Nat,o.on % 2=(x:Int):=⟨(o.on % 2).toNat,by omega⟩;have hx2:x<2:=by omega
     have hand:bits BinOp.and IntKind.i64 o.on 1=(x:Int):=by rw [mg];exact hx
     obtain ⟨⟨g,h,st⟩,hpx⟩:∃p,ps[x]?=some p:=⟨_,hH (by omega)⟩;obtain ⟨ow,hox⟩:∃p,own[x]?=some p:=⟨_,hH (by rw [hPL.len];omega)⟩;have hzs:Zs j st:=hall x (g,h,st) hpx
     have hcell:∀w' ps' own' st',PL W w' (.slice (some ⟨q0,0,none⟩) 2 c) ps' own'->ps'[x]?=some (g,h,st')->w'.cell? ⟨b,off+j*10,none⟩=some (.int .u8 o.e.k)/\w'.cell? ⟨b,off+j*10+1,none⟩=some (.int .u8 o.e.n)/\w'.cell? ⟨b,off+j*10+2,none⟩=some (.int .u8 o.e.d.k)/\w'.cell? ⟨b,off+j*10+3,none⟩=some (.string o.e.d.t)/\w'.cell? ⟨b,off+j*10+4,none⟩=some (.int .i64 o.e.d.a)/\w'.cell? ⟨b,off+j*10+5,none⟩=some (.int .i64 o.e.d.l)/\w'.cell? ⟨b,off+j*10+6,none⟩=some (.int .i64 o.e.d.c)/\w'.cell? ⟨b,off+j*10+7,none⟩=some (.int .i64 o.e.d.f)/\w'.cell? ⟨b,off+j*10+8,none⟩=some (.int .i64 o.on)/\w'.cell? ⟨b,off+j*10+9,none⟩=some (.bool o.fin)/\w'.cell? ⟨q0,x*2,none⟩=some (spg g)/\w'.cell? ⟨q0,x*2+1,none⟩=some (spg h):=by
      intro w' ps' own' st' hq hqx;obtain ⟨b',off',eb,x0,x1,x2,x3,x4,x5,x6,x7,x8,x9⟩:=(HL.out.1.below hq.bel) j o ho;simp only [zL,Addr.mk.injEq,and_true] at eb;obtain ⟨rfl,rfl⟩:=eb;obtain ⟨r1,r2⟩:=hq.cell hqx;exact ⟨x0,x1,x2,x3,x4,x5,x6,x7,x8,x9,r1,r2⟩
     have HC1:Hid (wr.cell? ⟨b,off+j*10,none⟩=some (.int .u8 o.e.k)/\wr.cell? ⟨b,off+j*10+1,none⟩=some (.int .u8 o.e.n)/\wr.cell? ⟨b,off+j*10+2,none⟩=some (.int .u8 o.e.d.k)/\wr.cell? ⟨b,off+j*10+3,none⟩=some (.string o.e.d.t)/\wr.cell? ⟨b,off+j*10+4,none⟩=some (.int .i64 o.e.d.a)/\wr.cell? ⟨b,off+j*10+5,none⟩=some (.int .i64 o.e.d.l)/\wr.cell? ⟨b,off+j*10+6,none⟩=some (.int .i64 o.e.d.c)/\wr.cell? ⟨b,off+j*10+7,none⟩=some (.int .i64 o.e.d.f)/\wr.cell? ⟨b,off+j*10+8,none⟩=some (.int .i64 o.on)/\wr.cell? ⟨b,off+j*10+9,none⟩=some (.bool o.fin)/\wr.cell? ⟨q0,x*2,none⟩=some (spg g)/\wr.cell? ⟨q0,x*2+1,none⟩=some (spg h)):=hcell wr ps own st hPL hpx
     have HPc:Hid (∀V,Below wr.heap.size wr V->Aa 12 #[.agg #[spg g,spg h],.agg #[.int .u8 o.e.k,.int .u8 o.e.n,.int .u8 o.e.d.k,.string o.e.d.t,.int .i64 o.e.d.a,.int .i64 o.e.d.l,.int .i64 o.e.d.c,.int .i64 o.e.d.f,.int .i64 o.on,.bool o.fin]] V fun y w'=>y=.returned (.bool true)/\Hid (∃ps own,PL W w' (.slice (some ⟨q0,0,none⟩) 2 c) ps own/\ps.length=2/\∀(x:Nat) (q:Pr),ps[x]?=some q->Zs (j+1) q.2.2)/\(w'.cell? ⟨b,off+j*10,none⟩=some (.int .u8 o.e.k)/\w'.cell? ⟨b,off+j*10+1,none⟩=some (.int .u8 o.e.n)/\w'.cell? ⟨b,off+j*10+2,none⟩=some (.int .u8 o.e.d.k)/\w'.cell? ⟨b,off+j*10+3,none⟩=some (.string o.e.d.t)/\w'.cell? ⟨b,off+j*10+4,none⟩=some (.int .i64 o.e.d.a)/\w'.cell? ⟨b,off+j*10+5,none⟩=some (.int .i64 o.e.d.l)/\w'.cell? ⟨b,off+j*10+6,none⟩=some (.int .i64 o.e.d.c)/\w'.cell? ⟨b,off+j*10+7,none⟩=some (.int .i64 o.e.d.f)/\w'.cell? ⟨b,off+j*10+8,none⟩=some (.int .i64 o.on)/\w'.cell? ⟨b,off+j*10+9,none⟩=some (.bool o.fin)/\w'.cell? ⟨q0,x*2,none⟩=some (spg g)/\w'.cell? ⟨q0,x*2+1,none⟩=some (spg h))):=fun V hV=>by
      have hPV:=hPL.below hV;refine (pI (hPV.pb x (g,h,st) ow hpx hox) hzs (by omega) o hto).mono ?_;rintro y w' ⟨rfl,hl9⟩;obtain ⟨own',hP'⟩:=hPV.play hpx hox hl9;have hxl:x<ps.length:=by omega
      refine ⟨rfl,⟨_,own',hP',by rw [List.length_set];exact hlen,fun x' q' hq'=>?_⟩,hcell w' _ own' (o.st st) hP' (AP hxl)⟩
      by_cases ex:x=x'
      ·subst ex;rw [AP hxl] at hq';cases hq';show Zs (j+1) (o.st st);unfold Opz.st
       split
       ·exact hzs.clo.1
       ·exact (hzs.put o.e hto).1
      ·rw [AT ex] at hq';exact (hall x' q' hq').mono (by omega)
     have i1:(x:Int)<2:=by omega
     have i2:(0:Int)<=x:=by omega
     clear HI hPL hall hlen hpx hox hzs hcell ho hto hx hx2;obtain ⟨⟨ek,en,⟨dk,dt,da,dl,dc,df⟩⟩,on,fn⟩:=o;simp only at hand HPc HC1
     go_wp2_with fail
     go_region_held3 (fun w'=>w'.cell? ⟨b,off+j*10,none⟩=some (.int .u8 ek)/\w'.cell? ⟨b,off+j*10+1,none⟩=some (.int .u8 en)/\w'.cell? ⟨b,off+j*10+2,none⟩=some (.int .u8 dk)/\w'.cell? ⟨b,off+j*10+3,none⟩=some (.string dt)/\w'.cell? ⟨b,off+j*10+4,none⟩=some (.int .i64 da)/\w'.cell? ⟨b,off+j*10+5,none⟩=some (.int .i64 dl)/\w'.cell? ⟨b,off+j*10+6,none⟩=some (.int .i64 dc)/\w'.cell? ⟨b,off+j*10+7,none⟩=some (.int .i64 df)/\w'.cell? ⟨b,off+j*10+8,none⟩=some (.int .i64 on)/\w'.cell? ⟨b,off+j*10+9,none⟩=some (.bool fn)/\w'.cell? ⟨q0,x*2,none⟩=some (spg g)/\w'.cell? ⟨q0,x*2+1,none⟩=some (spg h)) (first|assumption|(exact HC1.out)|go_keep) (first|(go_at_call 12;refine (HPc.out _ (by first|exact (gt _ _).drew|exact gt _ _)).mono ?_;rintro y w4 ⟨rfl,HP4,HS4⟩))
     all_goals (
      go_wp2_with fail
      obtain ⟨ps4,own4,hz4⟩:=HP4.out;exact ⟨⟨j+1,hlt,by go_num,ps4,own4,hz4⟩,by simp [intOf];omega⟩)
    ·obtain rfl:j=L.length:=by omega
     have q2:¬((L.length:Int)<L.length):=by omega
     have HE:Hid (Below W.heap.size W wr):=by obtain ⟨ps,own,hPL,_⟩:=HI.out;exact hPL.bel
     clear HI
     go_wp2_with fail
     go_ret
     exact ⟨rfl,HE.out⟩
end Go.Proofs.YtpdlohfdjiaegaaGreatDoor
namespace Go.Proofs.YtpdlohfdjiaegaaGreatDoor
open Go.ChangeShapes Go.WideShapes Go.ChangeAt Go.RowKit
open Go.ChangeMaps (open_string shut_string)
variable {H:Type}{held:Bool}{fuel:Nat}
theorem im {enc:TypeId × Value->H}{P:Program}{w:World}{base:Nat}{spare:Nat->Bool}{t:TypeId}{f0 f1 f2:Field}{cs:List Value}{x:DataW H × List MemPlace}(ht:P.underlying t=some (.struct #[f0,f1,f2])) (h:DataW.trod enc P w base spare held fuel t cs=some x) :
  ∃y0 y1 y2 n,fuel=n+1/\cs.length=P.cellsOf t/\DataW.trod enc P w base spare held n f0.type ((cs.drop f0.offset).take (P.cellsOf f0.type))=some y0 /\
   DataW.trod enc P w base spare held n f1.type ((cs.drop f1.offset).take (P.cellsOf f1.type))=some y1/\DataW.trod enc P w base spare held n f2.type ((cs.drop f2.offset).take (P.cellsOf f2.type))=some y2:=by
 obtain ⟨xs,n,e,rfl,hl,hlen,hf⟩:=DataW.trod_struct ht h
 match xs,hlen with
 |[y0,y1,y2],_=>exact ⟨y0,y1,y2,n,e,hl,by simpa using hf 0 f0 rfl,by simpa using hf 1 f1 rfl,by simpa using hf 2 f2 rfl⟩
theorem pick {α:Type}(P:Nat->α->Prop):∀n,(∀j,j<n->∃a,P j a)->∃l:List α,l.length=n/\∀j a,l[j]?=some a->P j a
 |0,_=>⟨[],rfl,fun j a h=>by simp at h⟩
 |n+1,h=>by
  obtain ⟨l,hl,hp⟩:=pick P n (fun j hj=>h j (by omega));obtain ⟨a,ha⟩:=h n (by omega);refine ⟨l++[a],by simp [hl],fun j b hb=>?_⟩
  by_cases hj:j<l.length
  ·rw [zW hj] at hb;exact hp j b hb
  ·rw [zR (by omega)] at hb;have h0:=(zv.1 hb).1;simp at h0;have:j=n:=by omega
   subst this;rw [show j-l.length=0 by omega] at hb;simp at hb;subst hb;exact ha
theorem mb (d:DataW H):1<=Rows.uptoBulk d:=by
 unfold Rows.uptoBulk
 split <;> omega
theorem gK :∀l:List (DataW H),l.length<=Rows.uptoBulkAll l
 |[]=>by simp
 |d :: l=>by
  have:=gK l;have:=mb d;rw [List.length_cons,Rows.uptoBulkAll];omega
theorem xI {enc:TypeId × Value->H}{W:World}{spare:Nat->Bool}{n cap:Nat}{ao:Option Addr}{x:DataW H × List MemPlace}
  (h:DataW.trod enc Tryz.prog W 0 spare held fuel 23 (Value.slice ao n cap).cells.toList=some x):∃l:List Opz,l.length=n/\Lop W ao l/\(∀o∈l,o.e.d.t.size<=9223372036854775807)/\n+1<=Rows.uptoBulk x.1:=by
 have hce:Tryz.prog.cellsOf 41=10:=by kernel_rfl
 rcases Go.Deep.open_slice Tryz.underlying23 h with ⟨hcs,hx⟩|⟨a,len,cap',m,k,D,Pl,hcs,_,hl,hmx,hm,hxe,hx⟩
 ·simp [Value.cells] at hcs;obtain ⟨rfl,rfl,rfl⟩:=hcs;exact ⟨[],rfl,(fun j a h=>by simp at h),by simp,mb _⟩
 ·simp [Value.cells] at hcs;obtain ⟨rfl,rfl,rfl⟩:=hcs;have hnm:n<=m:=by rw [hm];split <;> omega
  have each:∀j,j<n->∃y:Opz,y.e.d.t.size<=9223372036854775807/\W.cell? ((a.add (j*10)).add 0)=some (.int .u8 y.e.k)/\W.cell? ((a.add (j*10)).add 1)=some (.int .u8 y.e.n)/\W.cell? ((a.add (j*10)).add 2)=some (.int .u8 y.e.d.k)/\W.cell? ((a.add (j*10)).add 3)=some (.string y.e.d.t)/\W.cell? ((a.add (j*10)).add 4)=some (.int .i64 y.e.d.a)/\W.cell? ((a.add (j*10)).add 5)=some (.int .i64 y.e.d.l)/\W.cell? ((a.add (j*10)).add 6)=some (.int .i64 y.e.d.c)/\W.cell? ((a.add (j*10)).add 7)=some (.int .i64 y.e.d.f)/\W.cell? ((a.add (j*10)).add 8)=some (.int .i64 y.on)/\W.cell? ((a.add (j*10)).add 9)=some (.bool y.fin):=by
   intro j hj;obtain ⟨cs',h1,h2⟩:=hx j (by omega);rw [hce] at h1;obtain ⟨_,hlen,hcell⟩:=World.cells?_some h1;obtain ⟨w0,w1,w2,n1,_,_,q0,q1,q2⟩:=im Tryz.underlying41 h2
   match cs',hlen with
   |[c0,c1,c2,c3,c4,c5,c6,c7,c8,c9],_=>
    have ci:Tryz.prog.cellsOf 3=1:=by kernel_rfl
    have cb:Tryz.prog.cellsOf 4=1:=by kernel_rfl
    have cs:Tryz.prog.cellsOf 9=1:=by kernel_rfl
    have ck:Tryz.prog.cellsOf 33=1:=by kernel_rfl
    have cp:Tryz.prog.cellsOf 35=3:=by kernel_rfl
    have ct:Tryz.prog.cellsOf 37=6:=by kernel_rfl
    have ce:Tryz.prog.cellsOf 39=8:=by kernel_rfl
    have cek:Tryz.prog.cellsOf 31=1:=by kernel_rfl
    have cnk:Tryz.prog.cellsOf 32=1:=by kernel_rfl
    simp [ci,cb,ce] at q0 q1 q2;obtain ⟨b8,e8,_,_⟩:=AG Ac q1;obtain ⟨b9,e9,_⟩:=DataW.trod_bool AU q2;obtain ⟨y0,y1,y2,n',_,_,t0,t1,t2⟩:=im Tryz.underlying39 q0;simp [cek,cnk,ct] at t0 t1 t2;obtain ⟨b0,e0,_,_⟩:=AG Tryz.underlying31 t0;obtain ⟨b1,e1,_,_⟩:=AG Tryz.underlying32 t1;obtain ⟨z0,z1,z2,z3,n2,_,_,s0,s1,s2,s3⟩:=Go.Joins.trod_struct4 Tryz.underlying37 t2;simp [ci,cs,ck,cp] at s0 s1 s2 s3;obtain ⟨b2,e2,_,_⟩:=AG Tryz.underlying33 s0;obtain ⟨b3,e3,_,hb3⟩:=Dt Am s1;obtain ⟨u0,u1,u2,n3,_,_,r0,r1,r2⟩:=im Tryz.underlying35 s2;simp [ci] at r0 r1 r2;obtain ⟨b4,e4,_,_⟩:=AG Ac r0;obtain ⟨b5,e5,_,_⟩:=AG Ac r1;obtain ⟨b6,e6,_,_⟩:=AG Ac r2;obtain ⟨b7,e7,_,_⟩:=AG Ac s3;simp at e0 e1 e2 e3 e4 e5 e6 e7 e8 e9;subst e0 e1 e2 e3 e4 e5 e6 e7 e8 e9;exact ⟨⟨⟨b0,b1,⟨b2,b3,b4,b5,b6,b7⟩⟩,b8,b9⟩,by simpa [maxLen] using hb3,hcell 0 (by omega),hcell 1 (by omega),hcell 2 (by omega),hcell 3 (by omega),hcell 4 (by omega),hcell 5 (by omega),hcell 6 (by omega),hcell 7 (by omega),hcell 8 (by omega),hcell 9 (by omega)⟩
  obtain ⟨l,hal,hap⟩:=pick _ n each;refine ⟨l,hal,?_,(fun o ho=>by obtain ⟨j,hj⟩:=List.getElem?_of_mem ho;exact (hap j o hj).1),?_⟩
  ·intro j y hy;have hjl:=(zv.1 hy).1;obtain ⟨_,e0,e1,e2,e3,e4,e5,e6,e7,e8,e9⟩:=hap j y hy;obtain ⟨_,_,f0,_⟩:=each 0 (by omega);have hsp:a.spot=none:=by simpa [Addr.add] using World.cell?_spot f0
   obtain ⟨b,off,sp⟩:=a;simp only at hsp;subst hsp;rw [AM,AM] at e0 e1 e2 e3 e4 e5 e6 e7 e8 e9;exact ⟨b,off,rfl,e0,e1,e2,e3,e4,e5,e6,e7,e8,e9⟩
  ·have hb:=gK ((List.range n).map D);rw [C3,List.length_range] at hb;rw [hxe];show n+1<=Rows.uptoBulkAll ((List.range n).map D)+Rows.uptoBulkAll _+1;omega
theorem iw:ownKnob Tryz.prog.godebug=none:=by kernel_rfl
theorem fg:laidOutB Tryz.prog=true:=by kernel_rfl
theorem fc (H:Type) (enc:TypeId × Value->H) (W:World) (base:Nat) (args:Array Value) (ds gs:List (DataW H)) (before:List MemPlace)
  (hval0:∀(j:Nat) t v,Tryz.f4.params[j]?=some t->args[j]?=some v->Value.okWide Tryz.prog W .any base t v)
  (hW:DataW.Whole enc Tryz.prog Tryz.f4.params.toList Rows.stylePlaysSpec.vars false W args.toList ds gs before) (hk:Rows.uptoSmall H (ds++gs)=true) (hL:laidMetH Tryz.prog [("colophon/width.spans",Rows.laid_colophon_width_spans),("unicode/utf8.acceptRanges",Rows.laid_unicode_utf8_acceptRanges),("colophon/class.spans",Rows.laid_colophon_class_spans),("colophon/class.words",Rows.laid_colophon_class_words),("colophon/class.signs",Rows.laid_colophon_class_signs),("unicode/utf8.first",Rows.laid_unicode_utf8_first)] W) :
  Aa 4 args W fun e W'=>∃v,e=.returned v/\Rows.stylePlaysSpec.post enc Tryz.prog Tryz.f4 false true false false W args v W':=by
 have hval:∀(j:Nat) t v,Tryz.f4.params[j]?=some t->args[j]?=some v->Value.okWide Tryz.prog W .any base t v:=hval0;have hW':=hW;obtain ⟨p,q,hA0,hV,rfl,_,_⟩:=hW;have hA:DataW.TrodAll enc Tryz.prog W 0 (fun _=>true) true Tryz.f4.params.toList args.toList ds p:=hA0;rw [Tryz.params4] at hA hval;obtain ⟨v0,d0,rfl,rfl,h0⟩:=trodAll_one hA;obtain ⟨rfl,rfl⟩:=trodVars_none hV;obtain ⟨ao,len0,cap,rfl⟩:=okWide_slice Tryz.underlying23 (hval 0 23 v0 rfl rfl);have h0k:=h0;obtain ⟨fuel0,hf0⟩:=h0;obtain ⟨l,hal,hsc,hts,hbk⟩:=xI hf0;have hbq:len0+1<=Rows.uptoBulk d0:=hbk;subst hal;have hlt0:∀x∈p,x.block<W.heap.size:=fun x hx=>hA.lt x (by simp [hx])
 have hbd:Rows.uptoBulkAll _<=1048576:=zQ hk;simp only [Rows.uptoBulkAll,AI,Ay] at hbd;clear hA0 hval0;refine (mA l ao cap W hsc (by omega) hts (Lx.lB (by kernel_rfl) (by exact .tail _ (.tail _ (.head _))) (by exact .tail _ (.tail _ (.tail _ (.head _)))) (by exact .tail _ (.tail _ (.tail _ (.tail _ (.head _))))) hL) (Lw.kH (by kernel_rfl) (by exact .head _) hL)).mono fun e W' ⟨he,bel⟩=>?_
 subst he;exact ⟨_,rfl,_,_,_,[],_,[],hW',trodAll_mk1 (shut_bool AU _),(trodAll_mk1 (Below.trod fg (by kernel_rfl) (zQ (by kernel_rfl)) h0k bel hlt0)),rfl,bel.frame _,fun h=>by cases h⟩
theorem gN (os:Os):laidMet Tryz.prog Rows.stylePlaysUptoRow.laid ((World.laidAll Tryz.prog os [("colophon/width.spans",Rows.laid_colophon_width_spans),("unicode/utf8.acceptRanges",Rows.laid_unicode_utf8_acceptRanges),("colophon/class.spans",Rows.laid_colophon_class_spans),("colophon/class.words",Rows.laid_colophon_class_words),("colophon/class.signs",Rows.laid_colophon_class_signs),("unicode/utf8.first",Rows.laid_unicode_utf8_first)]).forCall (fun _ _=>0) ⟨#[],#[.slice none 0 0],[]⟩).memory:=
 laidMet_of_run' 8 (by kernel_rfl) (by kernel_rfl)
theorem f9 (os:Os) {H:Type}(enc:TypeId × Value->H):∃places,DataW.whole enc Tryz.prog ((World.laidAll Tryz.prog os [("colophon/width.spans",Rows.laid_colophon_width_spans),("unicode/utf8.acceptRanges",Rows.laid_unicode_utf8_acceptRanges),("colophon/class.spans",Rows.laid_colophon_class_spans),("colophon/class.words",Rows.laid_colophon_class_words),("colophon/class.signs",Rows.laid_colophon_class_signs),("unicode/utf8.first",Rows.laid_unicode_utf8_first)]).forCall (fun _ _=>0) ⟨#[],#[.slice none 0 0],[]⟩).memory Tryz.f4.params.toList Rows.stylePlaysSpec.vars false (#[.slice none 0 0]:Array Value).toList 8=some ([.nil],[],places):=
 ⟨[],by kernel_rfl⟩
theorem fy (os:Os) (started:os.Started) (H:Type) (enc:TypeId × Value->H) (F:Stop.Interp) :
  ReturnsInHanded {} Tryz.checked os 4 .any ((Rows.OpenSpec.upto Rows.stylePlaysSpec).preRow enc Tryz.prog Tryz.f4 Rows.stylePlaysUptoRow.domain false Rows.stylePlaysUptoRow.laid) (((Rows.OpenSpec.upto Rows.stylePlaysSpec).at F).post enc Tryz.prog Tryz.f4 false true false false):=by
 obtain ⟨places,hx⟩:=f9 os enc
 refine returnsInHanded_of_row (C:=Tryz.checked) (s:=Rows.OpenSpec.upto Rows.stylePlaysSpec) iw started (by kernel_rfl) Tryz.func4
  (witness_row_at (enc:=enc) (C:=Tryz.checked) false (World.laidAll Tryz.prog os [("colophon/width.spans",Rows.laid_colophon_width_spans),("unicode/utf8.acceptRanges",Rows.laid_unicode_utf8_acceptRanges),("colophon/class.spans",Rows.laid_colophon_class_spans),("colophon/class.words",Rows.laid_colophon_class_words),("colophon/class.signs",Rows.laid_colophon_class_signs),("unicode/utf8.first",Rows.laid_unicode_utf8_first)]) #[.slice none 0 0] (World.laidAll_os _ _ _) (by kernel_rfl) (by kernel_rfl) (by kernel_rfl)
   (OpenSpec.preRow_of_cond 8 hx (by kernel_rfl) (fun k hk=>by cases hk;kernel_rfl) (by kernel_rfl) (gN os))) ?_
 intro W base args ds gs before hval hW _ hcond _ hL _ _;exact fc H enc W base args ds gs before hval hW (hcond _ rfl) hL
theorem gh:Rows.StylePlaysUptoSaid:=
 OpenClaim.holds_of_cond 4 Tryz.f4 rfl rfl rfl rfl rfl rfl rfl ⟨rfl,rfl,rfl,rfl,rfl⟩ rfl rfl rfl rfl rfl (by kernel_rfl) Tryz.func4 (by kernel_rfl)
  (zQ (by kernel_rfl)) (by unfold Func.isWrapper;first|(rw [zw (by decide +kernel)];kernel_rfl)|(rw [zu (by decide +kernel)];exact ⟨rfl,rfl⟩))
  (fun os started H enc _ F=>by rw [OpenClaim.pre_eq_preRow];exact fy os started H enc F)
theorem stylePlays_card:Rows.StylePlaysUptoCardSaid:=
 Claim7.holds_tied_plain_at .later [] [.data,.data,.data,.data,.data,.pinned] true (true, "578e1a3834ba7666d9f0fd33b5d498d9dd5720c433983a585d4f19fad1170be7") false
  gh (fun _ h=>by cases h) (by kernel_rfl) (fun _ h=>by cases h) stylePlaysUpto_row_tie rfl ⟨rfl,rfl⟩ (by kernel_rfl) rfl
  (fun f fn hf hfn=>by
   obtain rfl:f=4:=zT ((show Tryz.prog.funcNamed "colophon/colophonlaw15.StylePlays"=some 4 by kernel_rfl).symm.trans hf) |>.symm
   obtain rfl:fn=Tryz.f4:=(zT (Tryz.func4.symm.trans hfn)).symm
   exact ⟨by kernel_rfl,fun j t ht=>by
    rw [Tryz.params4] at ht;have hm:t∈[23]:=by simpa using Array.mem_of_getElem? ht
    have hall:([23].all fun u=>!Tryz.prog.wantsStandIn u)=true:=by kernel_rfl
    exact (show Tryz.prog.wantsStandIn t=false by simpa using DJ.1 hall t hm)⟩)
  (by kernel_rfl)
#print axioms stylePlays_card
end Go.Proofs.YtpdlohfdjiaegaaGreatDoor
