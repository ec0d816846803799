import Derived.BigRegion
import Derived.Deep.RegionHeldLaw
import Derived.Test.YtcjiapphbpiffaaGreatDoorM13
set_option linter.unusedVariables false
set_option linter.unusedSimpArgs false
set_option maxHeartbeats 2000000
set_option maxRecDepth 100000
namespace Go.Proofs.YtcjiapphbpiffaaGreatDoor.Lw
open Go.Proofs.YtcjiapphbpiffaaGreatDoor.Lx
open Go.RowKit
variable {gb ga sz j:Nat}{w:World}{s:Sp}{l:List Dc}{v:Value}{st:List Sp}{o:Int}
theorem Ab {β:Type}{enc:β->List Value}(hsz:∀x,(enc x).length=sz) {w:World}{e:Nat}{v:Value}{r:List β}{x:β}(h:w.ownsRow 0 e sz v (x :: r).length (bB enc (x :: r).reverse)) :
  ∃b cap,v=.slice (some ⟨b,0,none⟩) (r.length+1) cap/\r.length+1<=cap/\cap<=maxLen/\w.ownsRow 0 e sz (.slice (some ⟨b,0,none⟩) r.length cap) r.length (bB enc r.reverse)/\(∀j u,(enc x)[j]?=some u->w.cell? ⟨b,r.length*sz+j,none⟩=some u)/\∃C,w.heap[b]?=some (.cells C e (0,0)):=by
 have G:=fun b U=>h.cells (g:=b) U
 rcases h.2 with ⟨Z,F⟩|⟨b,cap,C,rfl,F,H,I,J,Q,M⟩
 ·simp at F
 ·have O:(x :: r).reverse=r.reverse++[x]:=by simp
  rw [O] at M;refine ⟨b,cap,rfl,I,J,⟨?_,.inr ⟨b,cap,C,rfl,F,H,?_,J,Q,?_⟩⟩,?_,C,H⟩
  ·rw [fC enc sz hsz,UQ]
  ·simp at I;omega
  ·have:C.toList.take (r.length*sz)=(C.toList.take ((x :: r).length*sz)).take (r.length*sz):=by
    rw [VV,Xb (Nat.mul_le_mul_right _ (by simp))]
   rw [this,M,cz,TT (by rw [fC enc sz hsz,UQ];exact gt _),TZ (by rw [fC enc sz hsz,UQ];exact gt _)]
  ·intro j u Y
   have S:(bB enc (x :: r).reverse)[r.length*sz+j]?=some u:=by
    rw [O];refine aR enc sz hsz _ _ _ x u ?_ Y;rw [Vp (by simp)];simp
   have:=G b rfl _ u S;rw [UA,Td] at this;exact this
theorem B9 {e n k:Nat}{xs:List Value}(h:w.ownsRow 0 e sz v n xs) (C:v.ownBlock=some k):∀o,w.heap[k]?=some o->o.isCells=true:=by
 rcases h.2 with ⟨rfl,_⟩|⟨b,cap,G,rfl,_,F,_⟩
 ·cases C
 ·cases C;exact dg F
theorem TL.push {B:Nat}{W C:World}{H:Value}(h:TL B w gb ga s st) (S:Below w.heap.size w W) (hB:B<=w.heap.size) (h1:W.heap[ga]?=some (.cells #[v] 167 (0,0))) (Z:∀k,v.ownBlock=some k->B<=k/\k≠gb) (ho:W.ownsRow 0 166 2 v st.length (bB II st.reverse))
  (Q:C.ownsRow 0 166 2 H (st.length+1) (bB II st.reverse++II s)) (hg:W.grownBy C v.ownBlock) (aa:H.ownBlock=v.ownBlock\/H.ownBlock=some W.heap.size) :
  TL B (((C.setCell ⟨ga,0,none⟩ H).setCell ⟨gb,0,none⟩ (.int .i64 0)).setCell ⟨gb,1,none⟩ (.int .i64 0)) gb ga ⟨0,0⟩ (s :: st)/\Bo B gb ga w (((C.setCell ⟨ga,0,none⟩ H).setCell ⟨gb,0,none⟩ (.int .i64 0)).setCell ⟨gb,1,none⟩ (.int .i64 0)):=by
 have F:=h.ne;have G:=Kp.of_grown hg;have O:=ag h.hb S;have r1:=aN ho h1 (by decide);have U:C.heap[ga]?=some (.cells #[v] 167 (0,0)):=G.blk h1 (fun e=>r1 e.symm);have Y:C.heap[gb]?=some (.cells #[.int .i64 s.all,.int .i64 s.hang] 166 (0,0)):=G.blk O (fun e=>(Z gb e.symm).2 rfl);have r2:=aN Q U (by decide);have ab:=au O
 have I:∀k,H.ownBlock=some k->B<=k/\k≠gb:=by
  intro k G
  rcases aa with e|e
  ·exact Z k (by rw [<-e];exact G)
  ·rw [e] at G;injection G with G
   subst G;exact ⟨SY hB S.size,by omega⟩
 have k1:=Kp.set C ga 0 H;have k2:=Kp.set (C.setCell ⟨ga,0,none⟩ H) gb 0 (.int .i64 0);have k3:=Kp.set ((C.setCell ⟨ga,0,none⟩ H).setCell ⟨gb,0,none⟩ (.int .i64 0)) gb 1 (.int .i64 0);refine ⟨⟨?_,⟨H,?_,?_,I⟩⟩,?_⟩
 ·exact aj (aj (bh Y (Xl F) _) 0 _) 1 _
 ·exact bh (bh (aj U 0 _) F _) F _
 ·refine k3.row (k2.row (k1.row ?_ (fun k J M=>r2 (by rw [J,M]))) (fun k J M=>(I k J).2 M)) (fun k J M=>(I k J).2 M)
  have:bB II (s :: st).reverse=bB II st.reverse++II s:=by
   rw [UJ,cz];simp [bB]
  rw [this];exact Q
 ·have b0:Kp (Sx B gb ga) w C:=(Kp.of_below S).step G (fun k _ e=>.inr (.inr (Z k e.symm).1));refine ⟨((b0.step k1 (fun k _ e=>.inr (.inl e))).step k2 (fun k _ e=>.inl e)).step k3 (fun k _ e=>.inl e),?_⟩;have o1:KeepsOthers W C:=iR G (fun k e=>B9 ho e.symm);have o2:=iR k1 (fun k e=>by subst e;exact dg U);have o3:=iR k2 (fun k e=>by subst e;exact dg (bh Y (Xl F) _));have o4:=iR k3 (fun k e=>by subst e;exact dg (aj (bh Y (Xl F) _) 0 _));exact (iS S).trans (o1.trans (o2.trans (o3.trans o4)))
theorem Ee {B:Nat}(h:TL B w gb ga s st) (hs:Sb s) (hB:B<=w.heap.size) (hn:st.length<=1000000000) :
  Ta 86 #[.agg #[.int .u8 7,.string ⟨#[]⟩,.int .i64 0,.int .i64 0,.bool false],.pointer (some ⟨ga,0,none⟩),.pointer (some ⟨gb,0,none⟩)] w fun e w'=>TA B w gb ga (0,⟨0,0⟩,s :: st) e w':=by
 obtain ⟨i0,hi,S,U,Y⟩:=T7 Tryz.info166;obtain ⟨v,h1,h2,h3⟩:=h.ha;have ab:=au h1;have ac:=au h.hb;have aa:=h.ne;have a0:w.cell? ⟨ga,0,none⟩=some v:=af h1 rfl;have b0:w.cell? ⟨gb,0,none⟩=some (.int .i64 s.all):=af h.hb rfl;have b1:w.cell? ⟨gb,1,none⟩=some (.int .i64 s.hang):=af h.hb rfl;obtain ⟨p,cap,rfl,_,_⟩:=aK h2;have C:Below w.heap.size w ((w.alloc (.cells #[.int .u8 7,.string ⟨#[]⟩,.int .i64 0,.int .i64 0,.bool false] 89)).alloc (.cells #[.int .i64 s.all,.int .i64 s.hang] 166)):=((hH _ _).alloc (gt _) _).alloc (by rw [SX];omega) _;have J:(w.alloc (.cells #[.int .u8 7,.string ⟨#[]⟩,.int .i64 0,.int .i64 0,.bool false] 89)).heap.size=w.heap.size+1:=SX _ _
 go_enter Ws,V2
 go_wp2_with (first|(at_builtin;refine T2 (P:=Tryz.prog) (w:=(w.alloc (.cells #[.int .u8 7,.string ⟨#[]⟩,.int .i64 0,.int .i64 0,.bool false] 89)).alloc (.cells #[.int .i64 s.all,.int .i64 s.hang] 166)) rfl _ _ 167 rfl 0 166 i0 (.agg #[.int .i64 0,.int .i64 0]) 2 16 Tryz.underlying167 hi S U Y rfl (by decide) _ _ _ rfl (bv h2 C) ⟨w.heap.size+1,0,none⟩ 1 1 (II s) rfl rfl ?c1 ?c2 ?c3 ?c4 ?c5 ?_))
 case c1=>exact ny _ _ _ _ _ J.symm
 case c2=>intro u hu;simp [II] at hu;rcases hu with rfl|rfl <;> rfl
 case c3=>unfold maxLen;omega
 case c4=>omega
 case c5=>omega
 intro v2 M G F _ I;obtain ⟨k1,k2⟩:=h.push C hB (ag h1 C) h3 (bv h2 C) G F (by rw [SX,J];exact I);have Q:=Kp.of_grown F;have r1:=aN h2 h1 (by decide);have O:M.heap[ga]?=some (.cells #[.slice p st.length cap] 167 (0,0)):=Q.blk (ag h1 C) (fun e=>r1 e.symm);have H:M.heap[gb]?=some (.cells #[.int .i64 s.all,.int .i64 s.hang] 166 (0,0)):=Q.blk (ag h.hb C) (fun e=>(h3 gb e.symm).2 rfl);have x0:=af (k:=0) O rfl;have x1:=am (k:=0) O;have y0:=af (k:=0) H rfl;have y1:=af (k:=1) H rfl;have y2:=am (k:=0) H;have y3:=am (k:=1) H;have Z:Hid (TL B (((M.setCell ⟨ga,0,none⟩ v2).setCell ⟨gb,0,none⟩ (.int .i64 0)).setCell ⟨gb,1,none⟩ (.int .i64 0)) gb ga ⟨0,0⟩ (s :: st)/\Bo B gb ga w (((M.setCell ⟨ga,0,none⟩ v2).setCell ⟨gb,0,none⟩ (.int .i64 0)).setCell ⟨gb,1,none⟩ (.int .i64 0))):=⟨k1,k2⟩;obtain ⟨p2,cap2,rfl,_,_⟩:=aK G;clear k1 k2 Q O H F I G h h1 h2 h3 C r1
 go_wp2_with fail
 go_ret
 exact ⟨rfl,Z.out.1,Z.out.2⟩
theorem TL.pop {B:Nat}{W:World}{x:Sp}{r:List Sp}(h:TL B w gb ga s (x :: r)) (J:Below w.heap.size w W) (hB:B<=w.heap.size):∃b cap,W.cell? ⟨ga,0,none⟩=some (.slice (some ⟨b,0,none⟩) (r.length+1) cap)/\r.length+1<=cap/\cap<=maxLen/\W.cell? ⟨b,r.length*2,none⟩=some (.int .i64 x.all)/\W.cell? ⟨b,r.length*2+1,none⟩=some (.int .i64 x.hang) /\
  (b≠ga/\b≠gb/\b<w.heap.size) /\
  TL B (((W.setCell ⟨gb,0,none⟩ (.int .i64 x.all)).setCell ⟨gb,1,none⟩ (.int .i64 x.hang)).setCell ⟨ga,0,none⟩ (.slice (some ⟨b,0,none⟩) r.length cap)) gb ga x r/\Bo B gb ga w (((W.setCell ⟨gb,0,none⟩ (.int .i64 x.all)).setCell ⟨gb,1,none⟩ (.int .i64 x.hang)).setCell ⟨ga,0,none⟩ (.slice (some ⟨b,0,none⟩) r.length cap)):=by
 have C:=h.ne;have M:=h.below J;obtain ⟨v,I,U,Z⟩:=M.ha;obtain ⟨b,cap,rfl,c1,c2,c3,c4,cur,c5⟩:=Ab Jz U;have Y:=aN U I (by decide);have F:=Z b rfl
 have S:b<w.heap.size:=by
  obtain ⟨v',O,Q,aa⟩:=h.ha;have e:=ag O J;rw [I] at e;injection e with e
  injection e with e _
  have G:v'=.slice (some ⟨b,0,none⟩) (r.length+1) cap:=by
   have:=Tm (·[0]?) e
   simpa using this.symm
  subst G;exact (Q.lt b rfl).2
 refine ⟨b,cap,af I rfl,c1,c2,c4 0 _ rfl,c4 1 _ rfl,⟨fun e=>Y (by rw [e];rfl),F.2,S⟩,⟨?_,⟨.slice (some ⟨b,0,none⟩) r.length cap,?_,?_,fun k hk=>by cases hk;exact F⟩⟩,?_⟩
 ·exact bh (aj (aj M.hb 0 _) 1 _) (Xl C) _
 ·exact aj (bh (bh I C _) C _) 0 _
 ·refine (Kp.set _ ga 0 _).row ((Kp.set _ gb 1 _).row ((Kp.set _ gb 0 _).row c3 ?_) ?_) ?_
  ·intro k H G;cases H;exact F.2 G
  ·intro k H G;cases H;exact F.2 G
  ·intro k H G;cases H;exact Y (by rw [<-G];rfl)
 ·refine ⟨(((Kp.of_below J).step (Kp.set W gb 0 _) (fun k _ e=>.inl e)).step (Kp.set _ gb 1 _) (fun k _ e=>.inl e)).step (Kp.set _ ga 0 _) (fun k _ e=>.inr (.inl e)),?_⟩;have o2:=iR (Kp.set W gb 0 (.int .i64 x.all)) (fun k e=>by subst e;exact dg M.hb);have o3:=iR (Kp.set (W.setCell ⟨gb,0,none⟩ (.int .i64 x.all)) gb 1 (.int .i64 x.hang)) (fun k e=>by subst e;exact dg (aj M.hb 0 _));have o4:=iR (Kp.set ((W.setCell ⟨gb,0,none⟩ (.int .i64 x.all)).setCell ⟨gb,1,none⟩ (.int .i64 x.hang)) ga 0 (.slice (some ⟨b,0,none⟩) r.length cap)) (fun k e=>by subst e;exact dg (bh (bh I C _) C _));exact (iS J).trans (o2.trans (o3.trans o4))
theorem kY {d:Dc}(G:l[j]?=some d):cG o j (l.drop j)=if rt d=true/\0<=o+dD d.k then cG (o+dD d.k) (j+1) (l.drop (j+1)) else some j:=by
 obtain ⟨C,F⟩:=Te.1 G;rw [TD C,F];rfl
theorem AY (C:l.length<=j):cG o j (l.drop j)=if 0<o then some j else none:=by
 rw [Ua C];rfl
def Pp:Option Nat->Int × Int
 |some j=>(70,(j:Int))
 |none=>(0,0)
theorem Hm (h:¬2097152<l.length):mX l=Pp (cG 0 0 l):=by
 unfold mX;rw [Eq h];cases cG 0 0 l <;> rfl
theorem DD (ao:Option Addr) (l:List Dc) (cap:Nat) (w:World) (hL:Lay w ao l) (hn:l.length<=9223372036854775807) :
  Ta 85 #[.slice ao l.length cap] w fun e w'=>e=.returned (.tuple #[.int .i64 (mX l).1,.int .i64 (mX l).2])/\Below w.heap.size w w':=by
 by_cases hm:2097152<l.length
 ·have q0:(2097152:Int)<l.length:=by omega
  have Y:Hid (mX l=(2,0)):=by show _=_;unfold mX;rw [IO hm]
  go_enter Tryz.func85,Tryz.ntmps85
  go_wp2_with fail
  go_ret2
  rw [Y.out];exact ⟨rfl,hH _ _⟩
 have q0:¬(2097152:Int)<l.length:=by omega
 have Y:Hid (mX l=Pp (cG 0 0 l)):=Hm hm;have HL:Hid (Lay w ao l):=hL;clear hL
 go_enter Tryz.func85,Tryz.ntmps85
 go_wp2_with fail
 go_loopw [4,12] (fun o j wr=>∃(k:Nat) (z:Int),k<=l.length/\o=.int .i64 z/\j=.int .i64 k/\0<=z/\z<=k/\Hid (cG z k (l.drop k)=cG 0 0 l/\Below w.heap.size w wr)) (fun _ j _=>l.length-(intOf j).toNat)
 case atStart=>exact ⟨0,0,by omega,rfl,rfl,by omega,by omega,rfl,hH _ _⟩
 case round=>
  obtain ⟨k,z,hk,rfl,rfl,aa,ab,M⟩:=hrel
  by_cases J:k<l.length
  ·have q1:(k:Int)<l.length:=by omega
   obtain ⟨d,hd⟩:∃d,l[k]?=some d:=⟨_,Pi J⟩;obtain ⟨ht,b,off,rfl,c0,c1,c2,c3,c4⟩:=(HL.out.below M.out.2) k d hd
   have HS:Hid ((if rt d=true/\0<=z+dD d.k then cG (z+dD d.k) (k+1) (l.drop (k+1)) else some k)=cG 0 0 l):=by
    show _=_;rw [<-kY hd];exact M.out.1
   have U:Hid (Tb w wr):=M.out.2;have O:Hid (∀W,Ta 139 #[d.v] W fun x w'=>x=.returned (.bool (rt d))/\Tb W w'):=fun W=>Ce d ht W
   clear M hd;obtain ⟨Q,dt,db,di,de⟩:=d;simp only [Dc.v] at O;simp only at c0 c1 c2 c3 c4 HS ht
   generalize rt ⟨Q,dt,db,di,de⟩=r at *
   have H:Hid (r=true->0<=z+dD Q->cG (z+dD Q) (k+1) (l.drop (k+1))=cG 0 0 l):=fun h1 h2=>by rw [<-HS.out,IO ⟨h1,h2⟩]
   have G:Hid (¬(r=true/\0<=z+dD Q)->mX l=(70,(k:Int))):=fun h=>by rw [Y.out,<-HS.out,Eq h];rfl
   clear HS
   have S:Hid (∀W I,W=wr.alloc (.cells #[.int .u8 Q,.string dt,.int .i64 db,.int .i64 di,.bool de] 89)->Tb W I->Tb w I):=fun W I hW h=>by
    subst hW;exact (U.out.alloc U.out.size _).trans (h.mono (by rw [SX];have:=U.out.size;omega))
   by_cases k6:Q=6
   ·subst k6;have Z:z+dD 6=z+1:=rfl;rw [Z] at H G;cases r
    ·have F:Hid (mX l=(70,(k:Int))):=G.out (by simp);clear H G
     go_wp2_with (go_at_call 139;refine (O.out _).mono ?_;rintro e I ⟨rfl,C⟩)
     all_goals (go_ret2;rw [F.out];exact ⟨rfl,S.out _ _ rfl C⟩)
    ·have F:Hid (cG (z+1) (k+1) (l.drop (k+1))=cG 0 0 l):=H.out rfl (by omega);clear H G
     go_wp2_with (go_at_call 139;refine (O.out _).mono ?_;rintro e I ⟨rfl,C⟩)
     exact ⟨⟨k+1,z+1,J,by go_num,by go_num,by omega,by omega,F.out,S.out _ _ rfl C⟩,by simp [intOf];omega⟩
   by_cases k7:Q=7
   ·subst k7;have Z:z+dD 7=z-1:=rfl;rw [Z] at H G
    by_cases hz:0<z
    ·cases r
     ·have F:Hid (mX l=(70,(k:Int))):=G.out (by simp);clear H G
      go_wp2_with (go_at_call 139;refine (O.out _).mono ?_;rintro e I ⟨rfl,C⟩)
      all_goals (go_ret2;rw [F.out];exact ⟨rfl,S.out _ _ rfl C⟩)
     ·have F:Hid (cG (z-1) (k+1) (l.drop (k+1))=cG 0 0 l):=H.out rfl (by omega);clear H G
      go_wp2_with (go_at_call 139;refine (O.out _).mono ?_;rintro e I ⟨rfl,C⟩)
      exact ⟨⟨k+1,z-1,J,by go_num,by go_num,by omega,by omega,F.out,S.out _ _ rfl C⟩,by simp [intOf];omega⟩
    ·obtain rfl:z=0:=by omega
     have F:Hid (mX l=(70,(k:Int))):=G.out (by omega);clear H G
     go_wp2_with (go_at_call 139;refine (O.out _).mono ?_;rintro e I ⟨rfl,C⟩)
     all_goals (go_ret2;rw [F.out];exact ⟨rfl,S.out _ _ rfl (hH _ _)⟩)
   ·have Z:z+dD Q=z:=by simp [dD,k6,k7]
    rw [Z] at H G;cases r
    ·have F:Hid (mX l=(70,(k:Int))):=G.out (by simp);clear H G
     go_wp2_with (go_at_call 139;refine (O.out _).mono ?_;rintro e I ⟨rfl,C⟩)
     all_goals (go_ret2;rw [F.out];exact ⟨rfl,S.out _ _ rfl C⟩)
    ·have F:Hid (cG z (k+1) (l.drop (k+1))=cG 0 0 l):=H.out rfl (by omega);clear H G
     go_wp2_with (go_at_call 139;refine (O.out _).mono ?_;rintro e I ⟨rfl,C⟩)
     exact ⟨⟨k+1,z,J,by go_num,by go_num,by omega,by omega,F.out,S.out _ _ rfl C⟩,by simp [intOf];omega⟩
  ·obtain rfl:k=l.length:=by omega
   have q1:¬((l.length:Int)<l.length):=by omega
   have he:=M.out.1;rw [AY (gt _)] at he;have U:Hid (Tb w wr):=M.out.2
   by_cases hz:0<z
   ·have F:Hid (mX l=(70,(l.length:Int))):=by show _=_;rw [Y.out,<-he,IO hz];rfl
    clear M he
    go_wp2_with fail
    go_ret2
    rw [F.out];exact ⟨rfl,U.out⟩
   ·have F:Hid (mX l=(0,0)):=by show _=_;rw [Y.out,<-he,Eq hz];rfl
    clear M he
    go_wp2_with fail
    go_ret2
    rw [F.out];exact ⟨rfl,U.out⟩
theorem Tryz.info83:(Tryz.prog.info? 83).map (fun i=>(i.zero,i.size,i.bytes))=some (some (.agg #[.int .i64 0,.bool false,.bool false]),3,16):=by kernel_rfl
def uD (b:Bk):List Value:=[.int .i64 b.ind,.bool b.ev,.bool b.ft]
theorem LS (b:Bk):(uD b).length=3:=rfl
def J7 (n gs:Nat) (b:Bk) (v:Value) (en:Bool):Array Value:=#[.int .i64 n,.pointer (some ⟨gs,0,none⟩),.int .i64 b.ind,.bool b.ev,.bool b.ft,v,.bool en]
structure PS (B:Nat) (w0:World) (own:Nat->Nat) (W:World) (g gs n:Nat) (p:Pr):Prop where
 en:En own W
 lo:∀k,k<B->own k=0
 bel:Below B w0 W
 hB:B<=w0.heap.size
 sk:SK own 1 W gs p.sk
 pr:∃v,W.heap[g]?=some (.cells (J7 n gs p.bl v p.en) 86 (0,0))/\(W.ownsRow 0 83 3 v p.ar.length (bB uD p.ar.reverse)/\∀k,v.ownBlock=some k->own k=2)
 lab:own g=2
section
variable {B:Nat} {w0:World} {own:Nat->Nat} {W:World} {g gs n:Nat} {p:Pr}
theorem PS.c0 (h:PS B w0 own W g gs n p):W.cell? ⟨g,0,none⟩=some (.int .i64 n):=by obtain ⟨v,C,_⟩:=h.pr;exact af C rfl
theorem PS.c1 (h:PS B w0 own W g gs n p):W.cell? ⟨g,1,none⟩=some (.pointer (some ⟨gs,0,none⟩)):=by obtain ⟨v,C,_⟩:=h.pr;exact af C rfl
theorem PS.c2 (h:PS B w0 own W g gs n p):W.cell? ⟨g,2,none⟩=some (.int .i64 p.bl.ind):=by obtain ⟨v,C,_⟩:=h.pr;exact af C rfl
theorem PS.c3 (h:PS B w0 own W g gs n p):W.cell? ⟨g,3,none⟩=some (.bool p.bl.ev):=by obtain ⟨v,C,_⟩:=h.pr;exact af C rfl
theorem PS.c4 (h:PS B w0 own W g gs n p):W.cell? ⟨g,4,none⟩=some (.bool p.bl.ft):=by obtain ⟨v,C,_⟩:=h.pr;exact af C rfl
theorem PS.c6 (h:PS B w0 own W g gs n p):W.cell? ⟨g,6,none⟩=some (.bool p.en):=by obtain ⟨v,C,_⟩:=h.pr;exact af C rfl
theorem PS.fz (h:PS B w0 own W g gs n p) (k:Nat):W.frozen? ⟨g,k,none⟩=false:=by obtain ⟨v,C,_⟩:=h.pr;exact am C
theorem PS.lt (h:PS B w0 own W g gs n p):g<W.heap.size:=by obtain ⟨v,C,_⟩:=h.pr;exact au C
theorem PS.bl (h:PS B w0 own W g gs n p):B<=W.heap.size:=SY h.hB h.bel.size
theorem PS.gB (h:PS B w0 own W g gs n p):B<=g:=by
 refine Nat.le_of_not_lt fun C=>?_
 have:=h.lo g C;rw [h.lab] at this;cases this
theorem PS.below (h:PS B w0 own W g gs n p) {W':World}(C:Below W.heap.size W W'):PS B w0 own W' g gs n p:=by
 obtain ⟨v,F,G,H⟩:=h.pr;exact ⟨h.en.below C,h.lo,h.bel.trans (C.mono h.bl),h.hB,h.sk.below C,⟨v,ag F C,bv G C,H⟩,h.lab⟩
def Sd (own own':Nat->Nat) (W W':World):Prop:=∀k,k<W.heap.size->own k=0->W'.heap[k]?=W.heap[k]?/\own' k=0
theorem Sd.refl (own:Nat->Nat) (W:World):Sd own own W W:=fun k _ h=>⟨rfl,h⟩
theorem Sd.trans {H I J:Nat->Nat}{A C D:World}(h:Sd H I A C) (M:A.heap.size<=C.heap.size) (k:Sd I J C D):Sd H J A D:=fun j G F=>
 ⟨(k j (by omega) (h j G F).2).1.trans (h j G F).1,(k j (by omega) (h j G F).2).2⟩
theorem PS.sink (h:PS B w0 own W g gs n p) {W':World}{s':fJ}(Q:Ae own 1 W W' gs s'):∃C,PS B w0 C W' g gs n { p with sk:=s' }/\Sd own C W W'/\W.heap.size<=W'.heap.size:=by
 obtain ⟨C,M,F,O⟩:=Q;obtain ⟨v,h1,h2⟩:=h.pr;have G:=au h1;have I:=h.bl;refine ⟨C,⟨M,fun k H=>(F.old k (by omega)).trans (h.lo k H),h.bel.trans (F.below I h.lo (by omega)),h.hB,O,⟨v,?_,yR F (by omega) h2⟩,(F.old g G).trans h.lab⟩,fun k H J=>⟨F.block k H (by rw [J];omega),(F.old k H).trans J⟩,F.size⟩;exact (F.block g G (by rw [h.lab];omega)).trans h1
theorem PS.sett (h:PS B w0 own W g gs n p) (b:Bool):PS B w0 own (W.setCell ⟨g,6,none⟩ (.bool b)) g gs n { p with en:=b }/\Sd own own W (W.setCell ⟨g,6,none⟩ (.bool b)):=by
 obtain ⟨v,F,G,M⟩:=h.pr;have H:Fr 2 own own W (W.setCell ⟨g,6,none⟩ (.bool b)):=(Fr.refl 2 own W).set' h.lab 6 _;have Q:Nf own (W.setCell ⟨g,6,none⟩ (.bool b)):=h.en.nf.below (Kp.set W g 6 _).size;have S:=aN G F (by decide)
 exact ⟨⟨h.en.fr (by omega) Q H,h.lo,h.bel.setCell (p:=⟨g,6,none⟩) h.gB _,h.hB,h.sk.kept H (by omega),⟨v,aj F 6 _,(Kp.set W g 6 _).row G (fun k I J=>S (by rw [I,J])),M⟩,h.lab⟩,
  fun k O C=>⟨(Kp.set W g 6 (.bool b)).block k O (fun e=>by subst e;rw [h.lab] at C;cases C),C⟩⟩
end
theorem rF {B:Nat}{w0:World}{own:Nat->Nat}{W:World}{g gs n:Nat}{p:Pr}(h:PS B w0 own W g gs n p) {U:Nat}(Q:Bp p U) (hU:U<=2147483647) (need:Nat) (aa:need<=1000000) (hn:n<=4096) :
  Ta 49 #[.pointer (some ⟨g,0,none⟩),.int .i64 need] W fun e w'=>e=.returned (.bool (p.fits n need))/\Below W.heap.size W w':=by
 have G:=Q.col;have M:Hid (∀V,Tb W V->Ta 96 #[.pointer (some ⟨gs,0,none⟩)] V fun e w'=>e=.returned (.int .i64 ((p.sk.col:Int)+p.sk.wait))/\Tb V w'):=fun V C=>Dw (h.below C).sk (by omega) (by omega)
 have c0:=h.c0;have c1:=h.c1;have Z:=h.lt;have O:Hid (∀V,Tb W V->V.cell? ⟨g,0,none⟩=some (.int .i64 n)/\V.cell? ⟨g,1,none⟩=some (.pointer (some ⟨gs,0,none⟩))/\Tb W V):=fun V C=>⟨(h.below C).c0,(h.below C).c1,C⟩
 have e:p.fits n need=decide ((need:Int)<=(n:Int)-((p.sk.col:Int)+p.sk.wait)):=by
  unfold Pr.fits Pr.at;rw [UF];omega
 rw [e];obtain ⟨z,S⟩:∃z:Nat,p.sk.col+p.sk.wait=z:=⟨_,rfl⟩;have F:(p.sk.col:Int)+p.sk.wait=(z:Int):=by omega
 rw [F] at M ⊢;have ab:z<=2147483647:=by omega
 have J:IntKind.i64.wrap ((n:Int)-z)=(n:Int)-z:=by rw [TJ];omega
 clear S F G e h Q
 go_enter Tryz.func49,Tryz.ntmps49
 go_wp2_with fail
 go_region_held3 (fun w'=>w'.cell? ⟨g,0,none⟩=some (.int .i64 n)/\w'.cell? ⟨g,1,none⟩=some (.pointer (some ⟨gs,0,none⟩))/\Below W.heap.size W w') (first|(exact O.out _ (by assumption))|(exact O.out _ (hH _ _).drew)|go_keep) (first|(go_at_call 96;refine (M.out _ (by first|assumption|exact (hH _ _).drew)).mono ?_;rintro e Y ⟨rfl,H⟩;have I:=(by first|exact (hH W.heap.size W).drew.trans (H.mono (gt _))|assumption:Below W.heap.size W Y)))
 all_goals (
  go_wp2_with fail
  go_ret
  exact ⟨by rw [<-J];rfl,I⟩)
theorem zl {B:Nat}{w0:World}{own:Nat->Nat}{W:World}{g gs n:Nat}{p:Pr}(h:PS B w0 own W g gs n p) {U:Nat}(G:Bp p U) (I:U<=2147483647) (need:Nat) (F:need<=1000000) (J:n<=4096) :
  Ta 46 #[.pointer (some ⟨g,0,none⟩),.int .i64 need] W fun e w'=>e=.returned (.bool (p.brk n need))/\Below W.heap.size W w':=by
 have H:=rF h G I need F J;have c3:=h.c3;have c4:=h.c4;unfold Pr.brk
 generalize p.fits n need=f at *
 generalize p.bl.ev=ev at *
 generalize p.bl.ft=ft at *
 clear h G;cases ev
 ·go_enter Tryz.func46,Tryz.ntmps46
  go_wp2_with (go_at_call 49;refine H.mono ?_;rintro e M ⟨rfl,C⟩)
  go_ret
  exact ⟨rfl,C⟩
 ·go_enter Tryz.func46,Tryz.ntmps46
  go_wp2_with fail
  go_ret
  exact ⟨rfl,hH _ _⟩
def PA (B:Nat) (w0:World) (own:Nat->Nat) (W:World) (g gs n:Nat) (p':Pr) (w':World):Prop:=∃own',PS B w0 own' w' g gs n p'/\Sd own own' W w'/\W.heap.size<=w'.heap.size
theorem wE {B:Nat}{w0:World}{own:Nat->Nat}{W:World}{g gs n:Nat}{p:Pr}(h:PS B w0 own W g gs n p) {U:Nat}(G:Bp p U) (Q:U<=2147483647) (m:Nat) (S:m<=1000) :
  Ta 45 #[.pointer (some ⟨g,0,none⟩),.int .i64 m] W fun e w'=>e=.returned (.tuple #[])/\PA B w0 own W g gs n (p.hold m) w':=by
 have H:=G.col;have C:Hid (Ta 92 #[.pointer (some ⟨gs,0,none⟩)] W fun e w'=>e=.returned (.bool p.sk.fresh)/\w'=W):=wO h.sk;have c1:=h.c1;unfold Pr.hold;cases F:p.sk.fresh
 ·have I:Hid (Ta 93 #[.pointer (some ⟨gs,0,none⟩),.int .i64 m] W fun e w'=>e=.returned (.int .i64 0)/\PA B w0 own W g gs n { p with sk:=p.sk.blanks m } w'):=by
   refine (DH h.sk h.en (by omega) m (by omega) (by omega)).mono ?_;rintro e w' ⟨rfl,M⟩;exact ⟨rfl,h.sink M⟩
  rw [F] at C;clear h G F
  go_enter Tryz.func45,Tryz.ntmps45
  go_wp2_with (first|(go_at_call 92;refine C.out.mono ?_;rintro e O ⟨rfl,rfl⟩)|(go_at_call 93;refine I.out.mono ?_;rintro e w2 ⟨rfl,h2⟩))
  go_end0
  exact ⟨rfl,h2⟩
 ·have J:Hid (PA B w0 own W g gs n p W):=⟨own,h,Sd.refl _ _,gt _⟩;rw [F] at C;clear h G F
  go_enter Tryz.func45,Tryz.ntmps45
  go_wp2_with (first|(go_at_call 92;refine C.out.mono ?_;rintro e O ⟨rfl,rfl⟩))
  go_end0
  exact ⟨rfl,J.out⟩
theorem wT {B:Nat}{w0:World}{own:Nat->Nat}{W:World}{g gs n:Nat}{p:Pr}(h:PS B w0 own W g gs n p) {U:Nat}(G:Bp p U) (hU:U<=2147483647) :
  Ta 47 #[.pointer (some ⟨g,0,none⟩)] W fun e w'=>e=.returned (.tuple #[])/\PA B w0 own W g gs n p.endl w':=by
 have S:=G.col;have Z:=G.out;have Y:=G.ind;have H:Hid (Ta 92 #[.pointer (some ⟨gs,0,none⟩)] W fun e w'=>e=.returned (.bool p.sk.fresh)/\w'=W):=wO h.sk;have c1:=h.c1;have c2:=h.c2;have aa:=h.lt;unfold Pr.endl;cases J:p.sk.fresh
 ·have HB:Hid (∀V,V=W.drew->Ta 94 #[.pointer (some ⟨gs,0,none⟩),.int .i64 p.bl.ind] V fun e w'=>e=.returned (.int .i64 0)/\Hid (PA B w0 own W g gs n { p with sk:=p.sk.feed p.bl.ind } w')/\w'.cell? ⟨g,1,none⟩=some (.pointer (some ⟨gs,0,none⟩))/\w'.cell? ⟨g,2,none⟩=some (.int .i64 p.bl.ind)/\w'.cell? ⟨g,6,none⟩=some (.bool p.en)/\w'.frozen? ⟨g,6,none⟩=false):=by
   intro V hV;subst hV;have hd:=h.below (hH _ W).drew;refine (La hd.sk hd.en (by omega) p.bl.ind (by omega) (by omega)).mono ?_;rintro e w' ⟨rfl,ha⟩;obtain ⟨C,F,M,I⟩:=hd.sink ha;exact ⟨rfl,⟨C,F,M,I⟩,F.c1,F.c2,F.c6,F.fz 6⟩
  rw [J] at H;clear h G J
  go_enter Tryz.func47,Tryz.ntmps47
  go_wp2_with (first|(go_at_call 92;refine H.out.mono ?_;rintro e Q ⟨rfl,rfl⟩))
  go_region_held3 (fun w'=>w'.cell? ⟨g,1,none⟩=some (.pointer (some ⟨gs,0,none⟩))/\w'.cell? ⟨g,2,none⟩=some (.int .i64 p.bl.ind)) (first|(exact ⟨by assumption,by assumption⟩)|(exact ⟨c1,c2⟩)|go_keep) (first|(go_at_call 94;refine (HB.out _ rfl).mono ?_;rintro e Q ⟨rfl,HP,x1,x2,x6,f6⟩))
  all_goals (
   go_wp2_with fail
   go_end0
   obtain ⟨C,F,M,I⟩:=HP.out;have O:=F.sett true;exact ⟨rfl,C,O.1,M.trans I O.2,SY I (Kp.set _ g 6 (.bool true)).size⟩)
 ·have HE:Hid (PA B w0 own W g gs n p W):=⟨own,h,Sd.refl _ _,gt _⟩;rw [J] at H;clear h G J
  go_enter Tryz.func47,Tryz.ntmps47
  go_wp2_with (first|(go_at_call 92;refine H.out.mono ?_;rintro e Q ⟨rfl,rfl⟩))
  go_end0
  exact ⟨rfl,HE.out⟩
theorem PS.box {B:Nat}{w0:World}{own:Nat->Nat}{W:World}{g gs n:Nat}{p:Pr}(h:PS B w0 own W g gs n p) (o:Obj):PS B w0 own (W.alloc o) g gs n p/\(W.alloc o).heap[W.heap.size]?=some o/\own W.heap.size=0/\Sd own own W (W.alloc o)/\W.heap.size<=(W.alloc o).heap.size:=
 ⟨h.below ((hH _ _).alloc (gt _) _),aq _ _,h.en.nf _ (gt _),fun k F C=>⟨Below.heap_alloc W o k F,C⟩,by rw [SX];omega⟩
theorem PA.of {B:Nat}{w0:World}{own:Nat->Nat}{W:World}{g gs n:Nat}{p:Pr}(h:PS B w0 own W g gs n p) (o:Obj) {p':Pr}{w':World}(I:PA B w0 own (W.alloc o) g gs n p' w'):PA B w0 own W g gs n p' w':=by
 obtain ⟨C,F,G,H⟩:=I;obtain ⟨_,_,_,b1,b2⟩:=h.box o;exact ⟨C,F,b1.trans b2 G,SY b2 H⟩
section
variable {B:Nat} {w0:World} {own:Nat->Nat} {W:World} {g gs n:Nat} {p:Pr}
theorem Fb (h:PS B w0 own W g gs n p) {U:Nat}(J:Bp p U) (hU:U<=2147483647) (need:Nat) (t:ByteArray) (ht:t.size<=65535) :
  Ta 26 #[.pointer (some ⟨g,0,none⟩),.agg #[.int .u8 1,.string t,.int .i64 0,.int .i64 0,.bool false],.int .i64 need] W fun e w'=>e=.returned (.tuple #[])/\PA B w0 own W g gs n { p with sk:=p.sk.text t,en:=false } w':=by
 have Y:=J.col;have Z:=J.out;have c1:=h.c1;have aa:=h.lt;obtain ⟨W1,F⟩:∃W1,W.alloc (.cells #[.int .u8 1,.string t,.int .i64 0,.int .i64 0,.bool false] 89)=W1:=⟨_,rfl⟩;obtain ⟨b1,b2,b3,b4,b5⟩:=h.box (.cells #[.int .u8 1,.string t,.int .i64 0,.int .i64 0,.bool false] 89);rw [F] at b1 b2 b4 b5;have x1:W1.cell? ⟨W.heap.size,1,none⟩=some (.string t):=af b2 rfl;have O:=b1.c1
 have HB:Hid (∀V,V=W1.drew->Ta 44 #[.pointer (some ⟨gs,0,none⟩),.string t] V fun e w'=>e=.returned (.int .i64 0)/\Hid (PA B w0 own W g gs n { p with sk:=p.sk.text t } w')/\w'.cell? ⟨g,1,none⟩=some (.pointer (some ⟨gs,0,none⟩))/\w'.cell? ⟨W.heap.size,1,none⟩=some (.string t)/\w'.cell? ⟨g,6,none⟩=some (.bool p.en)/\w'.frozen? ⟨g,6,none⟩=false):=by
  intro V hV;subst hV;have hd:=b1.below (hH _ W1).drew;refine (Jf hd.sk hd.en (by omega) t (by omega)).mono ?_;rintro e w' ⟨rfl,ha⟩;obtain ⟨C,G,H,I⟩:=hd.sink ha;have Q:=H W.heap.size (au b2) b3;exact ⟨rfl,⟨C,G,b4.trans b5 H,SY b5 I⟩,G.c1,af (Q.1.trans b2) rfl,G.c6,G.fz 6⟩
 have M:Hid (W.alloc (.cells #[.int .u8 1,.string t,.int .i64 0,.int .i64 0,.bool false] 89)=W1):=F;clear h J b1 b2 b4 b5 F
 go_enter Vn,U8
 go_wp2_with fail
 rw [M.out]
 go_region_held3 (fun w'=>w'.cell? ⟨g,1,none⟩=some (.pointer (some ⟨gs,0,none⟩))/\w'.cell? ⟨W.heap.size,1,none⟩=some (.string t)) (first|(exact ⟨by assumption,by assumption⟩)|(exact ⟨O,x1⟩)|go_keep) (first|(go_at_call 44;refine (HB.out _ rfl).mono ?_;rintro e w1 ⟨rfl,HP,y1,y2,y6,f6⟩))
 all_goals (
  go_wp2_with fail
  go_end0
  obtain ⟨C,G,H,I⟩:=HP.out;have S:=G.sett false;exact ⟨rfl,C,S.1,H.trans I S.2,SY I (Kp.set _ g 6 (.bool false)).size⟩)
theorem Co (h:PS B w0 own W g gs n p) {U:Nat}(F:Bp p U) (I:U<=2147483647) (need:Nat) :
  Ta 26 #[.pointer (some ⟨g,0,none⟩),.agg #[.int .u8 2,.string ⟨#[]⟩,.int .i64 0,.int .i64 0,.bool false],.int .i64 need] W fun e w'=>e=.returned (.tuple #[])/\PA B w0 own W g gs n (p.hold 1) w':=by
 have G:Hid (∀o,Ta 45 #[.pointer (some ⟨g,0,none⟩),.int .i64 1] (W.alloc o) fun e w'=>e=.returned (.tuple #[])/\PA B w0 own W g gs n (p.hold 1) w'):=fun o=>
  (wE (h.box o).1 F I 1 (by omega)).mono fun e w' ⟨C,H⟩=>⟨C,PA.of h o H⟩
 clear h F
 go_enter Vn,U8
 go_wp2_with (go_at_call 45;refine (G.out _).mono ?_;rintro e J ⟨rfl,C⟩)
 go_end0
 exact ⟨rfl,C⟩
theorem Fc (h:PS B w0 own W g gs n p) {U:Nat}(F:Bp p U) (I:U<=2147483647) (need:Nat) :
  Ta 26 #[.pointer (some ⟨g,0,none⟩),.agg #[.int .u8 4,.string ⟨#[]⟩,.int .i64 0,.int .i64 0,.bool false],.int .i64 need] W fun e w'=>e=.returned (.tuple #[])/\PA B w0 own W g gs n p.endl w':=by
 have G:Hid (∀o,Ta 47 #[.pointer (some ⟨g,0,none⟩)] (W.alloc o) fun e w'=>e=.returned (.tuple #[])/\PA B w0 own W g gs n p.endl w'):=fun o=>
  (wT (h.box o).1 F I).mono fun e w' ⟨C,H⟩=>⟨C,PA.of h o H⟩
 clear h F
 go_enter Vn,U8
 go_wp2_with (go_at_call 47;refine (G.out _).mono ?_;rintro e J ⟨rfl,C⟩)
 go_end0
 exact ⟨rfl,C⟩
theorem JZ (h:PS B w0 own W g gs n p) {U:Nat}(Q:Bp p U) (hU:U<=2147483647) (need:Nat) (aa:need<=1000000) (hn:n<=4096) (m:Nat) (hm:m<=1000) :
  Ta 26 #[.pointer (some ⟨g,0,none⟩),.agg #[.int .u8 3,.string ⟨#[]⟩,.int .i64 m,.int .i64 0,.bool false],.int .i64 need] W fun e w'=>e=.returned (.tuple #[])/\PA B w0 own W g gs n (if p.brk n need then p.endl else p.hold m) w':=by
 obtain ⟨W1,F⟩:∃W1,W.alloc (.cells #[.int .u8 3,.string ⟨#[]⟩,.int .i64 m,.int .i64 0,.bool false] 89)=W1:=⟨_,rfl⟩;have H:=h.box (.cells #[.int .u8 3,.string ⟨#[]⟩,.int .i64 m,.int .i64 0,.bool false] 89)
 have J:∀V,Below W1.heap.size W1 V->PS B w0 own V g gs n p/\Sd own own W V/\W.heap.size<=V.heap.size:=by
  intro V G;obtain ⟨b1,Z,b3,b4,b5⟩:=H;rw [F] at b1 b4 b5;exact ⟨b1.below G,b4.trans b5 (fun k hk h0=>⟨G.block k hk,h0⟩),SY b5 G.size⟩
 have HK:Hid (Ta 46 #[.pointer (some ⟨g,0,none⟩),.int .i64 need] W1 fun e w'=>e=.returned (.bool (p.brk n need))/\Tb W1 w'):=by
  rw [<-F];exact zl H.1 Q hU need aa hn
 have x2:∀V,Below W1.heap.size W1 V->V.cell? ⟨W.heap.size,2,none⟩=some (.int .i64 m):=fun V G=>by
  have Z:=H.2.1;rw [F] at Z;exact af (ag Z G) rfl
 have HX:Hid (∀V,Tb W1 V->V.cell? ⟨W.heap.size,2,none⟩=some (.int .i64 m)):=x2
 have HH:Hid (∀V,Tb W1 V->Ta 45 #[.pointer (some ⟨g,0,none⟩),.int .i64 m] V fun e w'=>e=.returned (.tuple #[])/\PA B w0 own W g gs n (p.hold m) w'):=fun V G=>by
  obtain ⟨S,Y,M⟩:=J V G;refine (wE S Q hU m hm).mono ?_;rintro e w' ⟨rfl,own',d1,d2,d3⟩;exact ⟨rfl,own',d1,Y.trans M d2,SY M d3⟩
 have HE:Hid (∀V,Tb W1 V->Ta 47 #[.pointer (some ⟨g,0,none⟩)] V fun e w'=>e=.returned (.tuple #[])/\PA B w0 own W g gs n p.endl w'):=fun V G=>by
  obtain ⟨S,Y,M⟩:=J V G;refine (wT S Q hU).mono ?_;rintro e w' ⟨rfl,own',d1,d2,d3⟩;exact ⟨rfl,own',d1,Y.trans M d2,SY M d3⟩
 have O:Hid (W.alloc (.cells #[.int .u8 3,.string ⟨#[]⟩,.int .i64 m,.int .i64 0,.bool false] 89)=W1):=F;clear H J x2 h Q F
 generalize p.brk n need=b at *
 cases b
 ·go_enter Vn,U8
  go_wp2_with fail
  rw [O.out];refine HK.out.mono ?_;rintro e w1 ⟨rfl,C⟩;have y2:=HX.out _ C;have I:Hid (Tb W1 w1):=C;clear C
  go_wp2_with (first|(go_at_call 45;refine (HH.out _ I.out).mono ?_;rintro e w2 ⟨rfl,h2⟩))
  go_end0
  exact ⟨rfl,h2⟩
 ·go_enter Vn,U8
  go_wp2_with fail
  rw [O.out];refine HK.out.mono ?_;rintro e w1 ⟨rfl,C⟩;have I:Hid (Tb W1 w1):=C;clear C
  go_wp2_with (first|(go_at_call 47;refine (HE.out _ I.out).mono ?_;rintro e w2 ⟨rfl,h2⟩))
  go_end0
  exact ⟨rfl,h2⟩
theorem Cn (h:PS B w0 own W g gs n p) {U:Nat}(Q:Bp p U) (hU:U<=2147483647) (need:Nat) :
  Ta 26 #[.pointer (some ⟨g,0,none⟩),.agg #[.int .u8 5,.string ⟨#[]⟩,.int .i64 0,.int .i64 0,.bool false],.int .i64 need] W fun e w'=>e=.returned (.tuple #[])/\PA B w0 own W g gs n (if p.en then { p with sk:=p.sk.empty,en:=false } else p) w':=by
 obtain ⟨W1,F⟩:∃W1,W.alloc (.cells #[.int .u8 5,.string ⟨#[]⟩,.int .i64 0,.int .i64 0,.bool false] 89)=W1:=⟨_,rfl⟩;obtain ⟨b1,b2,b3,b4,b5⟩:=h.box (.cells #[.int .u8 5,.string ⟨#[]⟩,.int .i64 0,.int .i64 0,.bool false] 89);have aa:=h.lt;have c6:=h.c6;have c1:=h.c1;rw [F] at b1 b4 b5;have S:=Q.out
 have Y:Hid (Ta 48 #[.pointer (some ⟨gs,0,none⟩)] W1 fun e w'=>e=.returned (.int .i64 0)/\Hid (PA B w0 own W g gs n { p with sk:=p.sk.empty } w')/\w'.cell? ⟨g,6,none⟩=some (.bool p.en)/\w'.frozen? ⟨g,6,none⟩=false):=by
  refine (GJ b1.sk b1.en (by omega) (by omega)).mono ?_;rintro e w' ⟨rfl,ha⟩;obtain ⟨C,G,J,I⟩:=b1.sink ha;exact ⟨rfl,⟨C,G,b4.trans b5 J,SY b5 I⟩,G.c6,G.fz 6⟩
 have Z:Hid (PA B w0 own W g gs n p W1):=⟨own,b1,b4,b5⟩;have H:Hid (W.alloc (.cells #[.int .u8 5,.string ⟨#[]⟩,.int .i64 0,.int .i64 0,.bool false] 89)=W1):=F;clear b1 b2 b4 b5 h Q F;cases O:p.en
 ·rw [O] at c6
  go_enter Vn,U8
  go_wp2_with fail
  go_end0
  rw [H.out];exact ⟨rfl,Z.out⟩
 ·rw [O] at c6
  go_enter Vn,U8
  go_wp2_with fail
  rw [H.out];refine Y.out.mono ?_;rintro e w1 ⟨rfl,HP,y6,f6⟩
  go_wp2_with fail
  go_end0
  obtain ⟨C,G,J,I⟩:=HP.out;have M:=G.sett false;exact ⟨rfl,C,M.1,J.trans I M.2,SY I (Kp.set _ g 6 (.bool false)).size⟩
end
section
variable {B:Nat} {w0:World} {own:Nat->Nat} {W:World} {g gs n:Nat} {p:Pr}
theorem PS.turn (h:PS B w0 own W g gs n p) {C:Nat->Nat}{W':World}{p':Pr}(F:Fr 2 own C W W') (O:Nf C W') (J:p'.sk=p.sk)
  (I:∃v,W'.heap[g]?=some (.cells (J7 n gs p'.bl v p'.en) 86 (0,0))/\(W'.ownsRow 0 83 3 v p'.ar.length (bB uD p'.ar.reverse)/\∀k,v.ownBlock=some k->C k=2)) :
  PS B w0 C W' g gs n p'/\Sd own C W W'/\W.heap.size<=W'.heap.size:=by
 have H:=h.bl;refine ⟨⟨h.en.fr (by omega) O F,fun k G=>(F.old k (by omega)).trans (h.lo k G),h.bel.trans (F.below H h.lo (by omega)),h.hB,?_,I,(F.old g h.lt).trans h.lab⟩,fun k G M=>⟨F.block k G (by rw [M];omega),(F.old k G).trans M⟩,F.size⟩;rw [J];exact h.sk.kept F (by omega)
theorem PS.push (h:PS B w0 own W g gs n p) {v C:Value}{F:World}(Y:W.heap[g]?=some (.cells (J7 n gs p.bl v p.en) 86 (0,0))) (h2:W.ownsRow 0 83 3 v p.ar.length (bB uD p.ar.reverse)) (Z:∀k,v.ownBlock=some k->own k=2)
  (J:F.ownsRow 0 83 3 C (p.ar.length+1) (bB uD p.ar.reverse++uD p.bl)) (hg:W.grownBy F v.ownBlock) (S:C.ownBlock=v.ownBlock\/C.ownBlock=some W.heap.size) :
  (∃H,PS B w0 H (F.setCell ⟨g,5,none⟩ C) g gs n { p with ar:=p.bl :: p.ar }/\Sd own H W (F.setCell ⟨g,5,none⟩ C)/\W.heap.size<=(F.setCell ⟨g,5,none⟩ C).heap.size)/\F.heap[g]?=some (.cells (J7 n gs p.bl v p.en) 86 (0,0)):=by
 have M:=Kp.of_grown hg;have r1:=aN h2 Y (by decide);have Q:F.heap[g]?=some (.cells (J7 n gs p.bl v p.en) 86 (0,0)):=M.blk Y (fun e=>r1 e.symm);have r2:=aN J Q (by decide);have ks:=Kp.set F g 5 C;have U:=fun k M=>(J.lt k M).2
 have aa:=h.lt;have G:Kp (fun k=>own k=2) W (F.setCell ⟨g,5,none⟩ C):=((Kp.refl (fun k=>own k=2) W).step M (fun j _ e=>Z j e.symm)).step ks (fun j _ e=>by subst e;exact h.lab);refine ⟨⟨fun k=>if k<W.heap.size then own k else if C.ownBlock=some k then 2 else 0,h.turn (G.fr (fun k _ e=>e) (fun k M=>IO M)) ?_ rfl ⟨C,?_,?_,?_⟩⟩,Q⟩
 ·intro k I;show (if k<W.heap.size then own k else if C.ownBlock=some k then 2 else 0)=0;have:=G.size;rw [Eq (by omega),Eq];intro e;have h4:=U k e;have h5:=ks.size;omega
 ·exact aj Q 5 _
 ·refine ks.row ?_ (fun k e1 O=>r2 (by rw [e1,O]))
  have:bB uD (p.bl :: p.ar).reverse=bB uD p.ar.reverse++uD p.bl:=by
   rw [UJ,cz];simp [bB]
  show F.ownsRow 0 83 3 C (p.ar.length+1) (bB uD (p.bl :: p.ar).reverse)
  rw [this];exact J
 ·intro k e;show (if k<W.heap.size then own k else if C.ownBlock=some k then 2 else 0)=2
  by_cases I:k<W.heap.size
  ·rw [IO I]
   rcases S with O|O
   ·exact Z k (by rw [<-O];exact e)
   ·rw [O] at e;injection e with e;omega
  ·rw [Eq I,IO e]
theorem PS.setb (h:PS B w0 own W g gs n p) (b:Bk):PS B w0 own (((W.setCell ⟨g,2,none⟩ (.int .i64 b.ind)).setCell ⟨g,3,none⟩ (.bool b.ev)).setCell ⟨g,4,none⟩ (.bool b.ft)) g gs n { p with bl:=b }/\Sd own own W (((W.setCell ⟨g,2,none⟩ (.int .i64 b.ind)).setCell ⟨g,3,none⟩ (.bool b.ev)).setCell ⟨g,4,none⟩ (.bool b.ft))/\W.heap.size<=(((W.setCell ⟨g,2,none⟩ (.int .i64 b.ind)).setCell ⟨g,3,none⟩ (.bool b.ev)).setCell ⟨g,4,none⟩ (.bool b.ft)).heap.size:=by
 obtain ⟨v,C,F,J⟩:=h.pr;have M:=aN F C (by decide);have G:=((Kp.set W g 2 (.int .i64 b.ind)).trans (Kp.set _ g 3 (.bool b.ev))).trans (Kp.set _ g 4 (.bool b.ft));refine h.turn ((((Fr.refl 2 own W).set' h.lab 2 _).set' h.lab 3 _).set' h.lab 4 _) (h.en.nf.below G.size) rfl ⟨v,aj (aj (aj C 2 _) 3 _) 4 _,G.row F (fun k H I=>M (by rw [H,I])),J⟩
end
theorem Jt {W:World}{J:Array Oper}{o:Oper}{a:Act}{K:Act->World->Prop}{Q:Exit->Act->World->Prop}{E:Prop}(F:o.guard=none) (s x:Operand)
  (Z:o.op=.call { callee:=.builtin .append,args:=#[s,x],argTypes:=#[84,84] }) (v:Value) (l:List Bk) (b:Bk) (hs:a.eval s=v) (hr:W.ownsRow 0 83 3 v l.length (bB uD l.reverse))
  (g c:Nat) (hx:a.eval x=.slice (some ⟨g,0,none⟩) 1 c) (U:W.heap[g]?=some (.cells #[.int .i64 b.ind,.bool b.ev,.bool b.ft] 83 (0,0))) (hl:l.length<=1000000000)
  (h:∀q cap w',w'.ownsRow 0 83 3 (.slice (some ⟨q,0,none⟩) (l.length+1) cap) (l.length+1) (bB uD l.reverse++uD b)->W.grownBy w' v.ownBlock->(v.ownBlock=some q\/q=W.heap.size)->K (a.put o.dst (.slice (some ⟨q,0,none⟩) (l.length+1) cap)) w') :
  if Region.wanted o (yielded J a.tmps)=true then Oper.wp Tryz.prog o a W K Q else E:=by
 obtain ⟨i0,Y,G,H,I⟩:=T7 Tryz.info83;refine Vt W F s x 84 Z 0 83 i0 (.agg #[.int .i64 0,.bool false,.bool false]) 3 16 Tryz.underlying84 Y G H I rfl (by decide) v _ _ hs hr ⟨g,0,none⟩ 1 c (uD b) hx rfl ?_ ?_ (by omega) (by unfold maxLen;omega) (by omega) (SW _) _ rfl ?_
 ·intro j u C;exact TX U j u (by simpa [uD] using C)
 ·intro u C;simp [uD] at C;rcases C with rfl|rfl|rfl <;> rfl
 ·intro q cap w' M O S _;exact h q cap w' M O S
theorem J0 {B:Nat}{w0:World}{own:Nat->Nat}{W:World}{g gs n:Nat}{p:Pr}(h:PS B w0 own W g gs n p) {U:Nat}(J:Bp p U) (hU:U<=2147483647) (need:Nat) (ak:need<=1000000) (hn:n<=4096) (hl:p.ar.length<=1000000000) (m:Nat) (hm:m<=1000) (e:Bool) :
  Ta 26 #[.pointer (some ⟨g,0,none⟩),.agg #[.int .u8 6,.string ⟨#[]⟩,.int .i64 0,.int .i64 m,.bool e],.int .i64 need] W fun x w'=>x=.returned (.tuple #[])/\PA B w0 own W g gs n { p with ar:=p.bl :: p.ar,bl:=⟨min (p.bl.ind+m) 1000,e,p.fits n need⟩ } w':=by
 obtain ⟨W1,Q⟩:∃W1,W.alloc (.cells #[.int .u8 6,.string ⟨#[]⟩,.int .i64 0,.int .i64 m,.bool e] 89)=W1:=⟨_,rfl⟩;obtain ⟨b1,b2,b3,b4,b5⟩:=h.box (.cells #[.int .u8 6,.string ⟨#[]⟩,.int .i64 0,.int .i64 m,.bool e] 89);rw [Q] at b1 b2 b4 b5;obtain ⟨v,h1,h2,h3⟩:=b1.pr;have ax:=b1.lt;have c2:=b1.c2;have c3:=b1.c3;have c4:=b1.c4;have f5:=b1.fz 5;have c5:W1.cell? ⟨g,5,none⟩=some v:=af h1 rfl;have x3:W1.cell? ⟨W.heap.size,3,none⟩=some (.int .i64 m):=af b2 rfl;have x4:W1.cell? ⟨W.heap.size,4,none⟩=some (.bool e):=af b2 rfl;obtain ⟨pp,cap,rfl,_,_⟩:=aK h2;have Z:Hid (W.alloc (.cells #[.int .u8 6,.string ⟨#[]⟩,.int .i64 0,.int .i64 m,.bool e] 89)=W1):=Q;have HR:Hid (∀V,Below W1.heap.size W1 V->V.ownsRow 0 83 3 (.slice pp p.ar.length cap) p.ar.length (bB uD p.ar.reverse)):=fun V G=>bv h2 G
 have HA:Hid (∀V q C I,Below W1.heap.size W1 V->I.ownsRow 0 83 3 (.slice (some ⟨q,0,none⟩) (p.ar.length+1) C) (p.ar.length+1) (bB uD p.ar.reverse++uD p.bl)->V.grownBy I (Value.slice pp p.ar.length cap).ownBlock->((Value.slice pp p.ar.length cap).ownBlock=some q\/q=V.heap.size) ->
   Hid (PA B w0 own W g gs n { p with ar:=p.bl :: p.ar } (I.setCell ⟨g,5,none⟩ (.slice (some ⟨q,0,none⟩) (p.ar.length+1) C))/\(I.setCell ⟨g,5,none⟩ (.slice (some ⟨q,0,none⟩) (p.ar.length+1) C)).heap[W.heap.size]?=some (.cells #[.int .u8 6,.string ⟨#[]⟩,.int .i64 0,.int .i64 m,.bool e] 89 (0,0)))/\(I.cell? ⟨g,2,none⟩=some (.int .i64 p.bl.ind)/\I.cell? ⟨g,3,none⟩=some (.bool p.bl.ev)/\I.cell? ⟨g,4,none⟩=some (.bool p.bl.ft)/\I.cell? ⟨g,5,none⟩=some (.slice pp p.ar.length cap))/\I.frozen? ⟨g,5,none⟩=false):=by
  intro V q C I G a1 a2 a3;have F:=b1.below G;obtain ⟨⟨ah,d1,d2,O⟩,S⟩:=F.push (ag h1 G) (bv h2 G) h3 a1 a2 (by rcases a3 with a|a;exact .inl a.symm;exact .inr (by rw [a];rfl));have hs:Sd own own W1 V:=fun k hk h0=>⟨G.block k hk,h0⟩
  have al:=(b4.trans b5 hs).trans (SY b5 G.size) d2;have an:=hs.trans G.size d2;refine ⟨⟨⟨ah,d1,al,SY (SY b5 G.size) O⟩,(an _ (au b2) b3).1.trans b2⟩,⟨af S rfl,af S rfl,af S rfl,af S rfl⟩,am S⟩
 clear Q
 go_enter Vn,U8
 go_wp2_with fail
 rw [Z.out]
 go_region_law (refine Jt (by rfl) _ _ (by rfl) _ p.ar p.bl (by rfl) (HR.out _ (by first|exact ((hH _ _).alloc (gt _) _).drew|exact ((hH _ _).drew).alloc (gt _) _)) W1.heap.size 1 (by rfl) (by first|exact aq _ _|exact aq W1.drew _) hl ?_;intro q C I ad ac ab;obtain ⟨Y,ai,z5⟩:=HA.out _ _ _ _ (by first|exact ((hH _ _).alloc (gt _) _).drew|exact ((hH _ _).drew).alloc (gt _) _) ad ac ab;obtain ⟨y2,y3,y4,y5⟩:=ai)
 all_goals (
  obtain ⟨H,aa⟩:∃H,I.setCell ⟨g,5,none⟩ (.slice (some ⟨q,0,none⟩) (p.ar.length+1) C)=H:=⟨_,rfl⟩;obtain ⟨⟨own3,d1,d2,O⟩,dx⟩:=Y.out;rw [aa] at d1 d2 O dx ⊢;clear Y ac ab ad y2 y3 y4 y5 z5 aa;have y2:=d1.c2;have ay:H.cell? ⟨W.heap.size,3,none⟩=some (.int .i64 m):=af dx rfl;have az:H.cell? ⟨W.heap.size,4,none⟩=some (.bool e):=af dx rfl;have HF:Hid (∀V,Below H.heap.size H V->Ta 49 #[.pointer (some ⟨g,0,none⟩),.int .i64 need] V fun e w'=>e=.returned (.bool (p.fits n need))/\Below V.heap.size V w'):=fun V G=>rF (p:={ p with ar:=p.bl :: p.ar }) (d1.below G) ⟨J.out,J.col,J.ind,fun b hb=>by rcases Tt.1 hb with rfl|hb;exact J.ind;exact J.ar b hb,J.wt⟩ hU need ak hn
  have HE:Hid (∀V,Below H.heap.size H V->PA B w0 own W g gs n { p with ar:=p.bl :: p.ar,bl:=⟨min (p.bl.ind+m) 1000,e,p.fits n need⟩ } (((V.setCell ⟨g,2,none⟩ (.int .i64 (min (p.bl.ind+m) 1000:Nat))).setCell ⟨g,3,none⟩ (.bool e)).setCell ⟨g,4,none⟩ (.bool (p.fits n need)))/\V.cell? ⟨g,2,none⟩=some (.int .i64 p.bl.ind)/\V.cell? ⟨g,3,none⟩=some (.bool p.bl.ev)/\V.cell? ⟨g,4,none⟩=some (.bool p.bl.ft)/\V.frozen? ⟨g,2,none⟩=false/\V.frozen? ⟨g,3,none⟩=false/\V.frozen? ⟨g,4,none⟩=false/\V.cell? ⟨W.heap.size,4,none⟩=some (.bool e)):=by
   intro V G;have F:=d1.below G;obtain ⟨k1,k2,k3⟩:=F.setb ⟨min (p.bl.ind+m) 1000,e,p.fits n need⟩;have hs:Sd own3 own3 H V:=fun k hk h0=>⟨G.block k hk,h0⟩
   exact ⟨⟨own3,k1,(d2.trans O hs).trans (SY O G.size) k2,SY (SY O G.size) k3⟩,F.c2,F.c3,F.c4,F.fz 2,F.fz 3,F.fz 4,af (ag dx G) rfl⟩
  have av:=J.ind;have ae:min ((p.bl.ind:Int)+m) 1000=((min (p.bl.ind+m) 1000:Nat):Int):=by omega
  have aw:g<H.heap.size:=d1.lt;clear d1 d2 O dx h J b1 b2 b3 b4 b5 h1 h2 h3 c2 c3 c4 c5 f5 x3 x4 HA HR Z;obtain ⟨M,hM⟩:∃M,min (p.bl.ind+m) 1000=M:=⟨_,rfl⟩;rw [hM] at HE ae;have HM:Hid (min (p.bl.ind+m) 1000=M):=hM;clear hM
  go_wp2_with fail
  go_region
  all_goals (
   go_wp2_with fail
   have ap:=(HE.out _ (hH _ H).drew).2;obtain ⟨v2,v3,v4,u2,u3,u4,v5⟩:=ap
   go_region_with (first|(go_at_call 49;refine (HF.out _ (by first|exact (hH _ _).drew.drew|exact (hH _ _).drew)).mono ?_;rintro e w4 ⟨rfl,aj⟩;obtain ⟨HP4,r2,r3,r4,q2,q3,q4,r5⟩:=HE.out _ ((hH _ H).drew.drew.trans (aj.mono (gt _)))))
   all_goals (
    go_wp2_with fail
    go_end0
    rw [HM.out];exact ⟨rfl,HP4⟩)))
theorem PS.pop {B:Nat}{w0:World}{own:Nat->Nat}{W:World}{g gs n:Nat}{p:Pr}(h:PS B w0 own W g gs n p) {b:Bk}{r:List Bk}(Q:p.ar=b :: r):∃q cap,W.cell? ⟨g,5,none⟩=some (.slice (some ⟨q,0,none⟩) (r.length+1) cap)/\r.length+1<=cap/\cap<=maxLen/\W.cell? ⟨q,r.length*3,none⟩=some (.int .i64 b.ind)/\W.cell? ⟨q,r.length*3+1,none⟩=some (.bool b.ev)/\W.cell? ⟨q,r.length*3+2,none⟩=some (.bool b.ft)/\q≠g /\
  PA B w0 own W g gs n { p with bl:=b,ar:=r } ((((W.setCell ⟨g,2,none⟩ (.int .i64 b.ind)).setCell ⟨g,3,none⟩ (.bool b.ev)).setCell ⟨g,4,none⟩ (.bool b.ft)).setCell ⟨g,5,none⟩ (.slice (some ⟨q,0,none⟩) r.length cap)):=by
 obtain ⟨v,F,G,M⟩:=h.pr;rw [Q] at G;obtain ⟨q,cap,rfl,c1,c2,c3,c4,cur,c5⟩:=Ab LS G;have S:=aN G F (by decide);have C:q≠g:=fun e=>S (by rw [e];rfl)
 have H:=(((Kp.set W g 2 (.int .i64 b.ind)).trans (Kp.set _ g 3 (.bool b.ev))).trans (Kp.set _ g 4 (.bool b.ft))).trans (Kp.set _ g 5 (.slice (some ⟨q,0,none⟩) r.length cap));refine ⟨q,cap,af F rfl,c1,c2,c4 0 _ rfl,c4 1 _ rfl,c4 2 _ rfl,C,own,?_⟩;refine h.turn (((((Fr.refl 2 own W).set' h.lab 2 _).set' h.lab 3 _).set' h.lab 4 _).set' h.lab 5 _) (h.en.nf.below H.size) rfl ⟨.slice (some ⟨q,0,none⟩) r.length cap,aj (aj (aj (aj F 2 _) 3 _) 4 _) 5 _,H.row c3 (fun k I J=>by cases I;exact C J),fun k O=>M k (by cases O;rfl)⟩
theorem JY {B:Nat}{w0:World}{own:Nat->Nat}{W:World}{g gs n:Nat}{p:Pr}(h:PS B w0 own W g gs n p) (need:Nat) {b:Bk}{r:List Bk}(S:p.ar=b :: r) (hl:r.length<=1000000000) :
  Ta 26 #[.pointer (some ⟨g,0,none⟩),.agg #[.int .u8 7,.string ⟨#[]⟩,.int .i64 0,.int .i64 0,.bool false],.int .i64 need] W fun x w'=>x=.returned (.tuple #[])/\PA B w0 own W g gs n { p with bl:=b,ar:=r } w':=by
 have c2:=h.c2;have c3:=h.c3;have c4:=h.c4;have f2:=h.fz 2;have f3:=h.fz 3;have f4:=h.fz 4;have f5:=h.fz 5;have Z:=h.lt;obtain ⟨q,cap,c5,d1,d2,U,q1,q2,H,F,I,J,G⟩:=h.pop S;have aa:g≠q:=Xl H;have hq:q<W.heap.size:=S9 _ _ U
 have M:Hid (∀o,PA B w0 own W g gs n { p with bl:=b,ar:=r } (((((W.setCell ⟨g,2,none⟩ (.int .i64 b.ind)).setCell ⟨g,3,none⟩ (.bool b.ev)).setCell ⟨g,4,none⟩ (.bool b.ft)).setCell ⟨g,5,none⟩ (.slice (some ⟨q,0,none⟩) r.length cap)).alloc o).drew):=by
  intro o;have C:=((hH _ ((((W.setCell ⟨g,2,none⟩ (.int .i64 b.ind)).setCell ⟨g,3,none⟩ (.bool b.ev)).setCell ⟨g,4,none⟩ (.bool b.ft)).setCell ⟨g,5,none⟩ (.slice (some ⟨q,0,none⟩) r.length cap))).alloc (gt _) o).drew;exact ⟨F,I.below C,J.trans G (fun k Q O=>⟨C.block k Q,O⟩),SY G C.size⟩
 have Y:cap<=9223372036854775807:=d2;clear I J G h
 go_enter Vn,U8
 go_wp2_with fail
 go_region
 all_goals (
  go_wp2_with fail
  go_end0
  exact ⟨rfl,M.out _⟩)
theorem J1 {B:Nat}{w0:World}{own:Nat->Nat}{W:World}{g gs n:Nat}{p:Pr}(h:PS B w0 own W g gs n p) {U:Nat}(F:Bp p U) (C:U<=2147483647) (need:Nat) (G:need<=1000000) (J:n<=4096) (I:p.ar.length<=1000000000) (d:Dc) (hd:rt d=true) (M:d.k=7->p.ar≠[]) :
  Ta 26 #[.pointer (some ⟨g,0,none⟩),d.v,.int .i64 need] W fun e w'=>e=.returned (.tuple #[])/\PA B w0 own W g gs n (put n d need p) w':=by
 cases mO hd with
 |text t hq=>exact Fb h F C need t (nG hq).2
 |brk m hq=>
  obtain ⟨O,Q⟩:=sP hq;have:=JZ h F C need G J m.toNat (by omega);rw [show ((m.toNat:Nat):Int)=m by omega] at this;exact this
 |beg m e hq=>
  obtain ⟨O,Q⟩:=sP hq;have:=J0 h F C need G J I m.toNat (by omega) e;rw [show ((m.toNat:Nat):Int)=m by omega] at this;exact this
 |blank=>exact Co h F C need
 |hard=>exact Fc h F C need
 |empty=>exact Cn h F C need
 | «end»=>
  cases H:p.ar with
  |nil=>exact absurd H (M rfl)
  |cons b r=>
   have:=JY h need H (by rw [H] at I;simp at I;omega)
   have e:put n ⟨7,bE,0,0,false⟩ need p={ p with bl:=b,ar:=r }:=by
    show ({ p with bl:=p.ar.headD ⟨0,false,false⟩,ar:=p.ar.tail }:Pr)=_
    rw [H];rfl
   rw [e];exact this
end Go.Proofs.YtcjiapphbpiffaaGreatDoor.Lw
