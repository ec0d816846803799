import Derived.RangeFuncOwn
import Derived.Test.YtcmbkeghnmgbfaaGreatDoorM20
set_option linter.all false
set_option maxHeartbeats 2000000
set_option maxRecDepth 100000
namespace Go.Proofs.YtcmbkeghnmgbfaaGreatDoor.Lw
open Go.Proofs.Tryz
open Lx
open Go.RowKit
variable {p:Pr}{D B g gs N b0:Nat}{v r:List Dc}{d0 x:Dc}{tot:Int}{hl:List Nat}{w0 W:World}
theorem Jy (l:List UInt8):decide (0<=Lib.indexByte l 10)=decide ((10:UInt8)∈l)/\-1<=Lib.indexByte l 10:=by
 induction l with
 |nil=>exact⟨rfl,by decide⟩
 |cons b l ih=>
  unfold Lib.indexByte
  by_cases H:b=10
  ·subst H;simp
  ·have I:(b==(10:UInt8))=false:=by simpa using H
   have u:¬(10:UInt8)=b:=fun h=>H h.symm
   rw[I];obtain⟨J,M⟩:=ih
   generalize Lib.indexByte l 10=z at *
   by_cases F:(10:UInt8)∈l
   ·have:0<=z:=by simpa[F]using J
    have G:¬z=-1:=by omega
    simp[F,u,G];omega
   ·have:¬0<=z:=by simpa[F]using J
    have G:z=-1:=by omega
    simp[F,u,G]
theorem ii (s:ByteArray) (w:World) :
  Kb 218 #[.string s,.int .u8 10] w fun e w'=>e=.returned (.int .i64 (Lib.indexByte s.data.toList 10))/\w'=w:=by
 go_enter func218,ntmps218
 go_wp2
 rw[run_callFunc_extern func274 (by kernel_rfl) (by kernel_rfl) (by kernel_rfl) (e:=Extern.BytealgIndexByte.indexByte) (by kernel_rfl),Lib.run_indexByteString];simp only[Result.andThen];rw[Oper.upon_value]
 go_wp2
 go_ret
 exact⟨rfl,rfl⟩
theorem gJ (s:ByteArray) (w:World) :
  Kb 164 #[.string s,.string ⟨#[10]⟩] w fun e w'=>e=.returned (.int .i64 (Lib.indexByte s.data.toList 10))/\w'=w:=by
 go_enter func164,ntmps164
 go_wp2_with(go_at_call 218;refine(ii _ _).mono ?_;rintro e w'⟨rfl,rfl⟩)
 ·have h:([(10:UInt8)]==s.toList)=true:=by assumption
  have e:s.data.toList=[10]:=by rw[<-Lib.toList_data];exact(LM.1 h).symm
  have u:Lib.indexByte s.data.toList 10=0:=by rw[e];rfl
  go_ret
  exact⟨by rw[u];rfl,rfl⟩
 ·go_ret
  exact⟨rfl,rfl⟩
theorem sI (s:ByteArray) (w:World) :
  Kb 247 #[.string s,.string ⟨#[10]⟩] w fun e w'=>e=.returned (.int .i64 (Lib.indexByte s.data.toList 10))/\w'=w:=by
 go_enter func247,ntmps247
 go_wp2_with(go_at_call 164;refine(gJ _ _).mono ?_;rintro e w'⟨rfl,rfl⟩)
 go_ret
 exact⟨rfl,rfl⟩
theorem Et (s:ByteArray) (w:World) :
  Kb 189 #[.string s,.string ⟨#[10]⟩] w fun e w'=>e=.returned (.bool (lC s))/\w'=w:=by
 have h:=(Jy s.data.toList).1;unfold lC;rw[<-h];clear h
 go_enter func189,ntmps189
 go_wp2_with(go_at_call 247;refine(sI _ _).mono ?_;rintro e w'⟨rfl,rfl⟩)
 go_ret
 exact⟨rfl,rfl⟩
theorem DJ {β:Type}{enc:β->List Value}{sz:Nat}(hsz:∀x,(enc x).length=sz) {w:World}{e:Nat}{v:Value}{r:List β}{x:β}(h:w.ownsRow 0 e sz v (x :: r).length (au enc (x :: r).reverse)) :
  ∃b cap,v=.slice (some ⟨b,0,none⟩) (r.length+1) cap/\r.length+1<=cap/\cap<=maxLen/\w.ownsRow 0 e sz (.slice (some ⟨b,0,none⟩) r.length cap) r.length (au enc r.reverse)/\(∀j u,(enc x)[j]?=some u->w.cell? ⟨b,r.length*sz+j,none⟩=some u)/\∃F,w.heap[b]?=some (.cells F e (0,0)):=by
 have H:=fun b hb=>h.cells (g:=b) hb
 rcases h.2 with⟨h1,G⟩|⟨b,cap,F,rfl,G,I,J,M,h6,O⟩
 ·simp at G
 ·have hr:(x :: r).reverse=r.reverse++[x]:=by simp
  rw[hr]at O;refine⟨b,cap,rfl,J,M,⟨?_,.inr ⟨b,cap,F,rfl,G,I,?_,M,h6,?_⟩⟩,?_,F,I⟩
  ·rw[bo enc sz hsz,KZ]
  ·simp at J;omega
  ·have:F.toList.take (r.length*sz)=(F.toList.take ((x :: r).length*sz)).take (r.length*sz):=by
    rw[M5,LE (Nat.mul_le_mul_right _ (by simp))]
   rw[this,O,aW,Lm (by rw[bo enc sz hsz,KZ];exact ge _),Ly (by rw[bo enc sz hsz,KZ];exact ge _)]
  ·intro j u hj
   have h8:(au enc (x :: r).reverse)[r.length*sz+j]?=some u:=by
    rw[hr];refine aO enc sz hsz _ _ _ x u ?_ hj;rw[Mf (by simp)];simp
   have:=H b rfl _ u h8;rw[KV,Km]at this;exact this
theorem cM.pop {hd:nK}{own:Nat->Nat}{n:Nat}(h:cM hd B w0 own W g gs n p) {b:Bk}{r:List Bk}(hr:p.ar=b :: r):∃q cap,W.cell? ⟨g,12,none⟩=some (.slice (some ⟨q,0,none⟩) (r.length+1) cap)/\r.length+1<=cap/\cap<=maxLen/\W.cell? ⟨q,r.length*3,none⟩=some (.int .i64 b.ind)/\W.cell? ⟨q,r.length*3+1,none⟩=some (.bool b.ev)/\W.cell? ⟨q,r.length*3+2,none⟩=some (.bool b.ft)/\q≠g /\
  fT hd B w0 own W g gs n { p with bl:=b,ar:=r } ((((W.setCell ⟨g,9,none⟩ (.int .i64 b.ind)).setCell ⟨g,10,none⟩ (.bool b.ev)).setCell ⟨g,11,none⟩ (.bool b.ft)).setCell ⟨g,12,none⟩ (.slice (some ⟨q,0,none⟩) r.length cap)):=by
 obtain⟨v,F,G,M⟩:=h.pr;rw[hr]at G;obtain⟨q,cap,rfl,c1,c2,c3,c4,cur,c5⟩:=DJ Fj G;have r1:=aE G F (by decide);have u:q≠g:=fun e=>r1 (by rw[e];rfl)
 have H:=(((Kp.set W g 9 (.int .i64 b.ind)).trans (Kp.set _ g 10 (.bool b.ev))).trans (Kp.set _ g 11 (.bool b.ft))).trans (Kp.set _ g 12 (.slice (some ⟨q,0,none⟩) r.length cap));refine⟨q,cap,aa F rfl,c1,c2,c4 0 _ rfl,c4 1 _ rfl,c4 2 _ rfl,u,own,?_⟩;refine h.turn (((((Fr.refl 2 own W).set' h.lab 9 _).set' h.lab 10 _).set' h.lab 11 _).set' h.lab 12 _) (h.en.nf.below H.size) rfl ⟨.slice (some ⟨q,0,none⟩) r.length cap,ab (ab (ab (ab F 9 _) 10 _) 11 _) 12 _,H.row c3 (fun k I J=>by cases I;exact u J),fun k O=>M k (by cases O;rfl)⟩
theorem Be {hd:nK}{own:Nat->Nat}{n:Nat}(h:cM hd B w0 own W g gs n p) (need:Nat) {b:Bk}{r:List Bk}(hr:p.ar=b :: r) (hl:r.length<=1000000000) :
  Kb 155 #[.pointer (some ⟨g,7,none⟩),.agg #[.int .u8 7,.string ⟨#[]⟩,.int .i64 0,.int .i64 0,.bool false],.int .i64 need] W fun x w'=>x=.returned (.tuple #[])/\fT hd B w0 own W g gs n { p with bl:=b,ar:=r } w':=by
 have c2:=h.c2;have c3:=h.c3;have c4:=h.c4;have f2:=h.fz 9;have f3:=h.fz 10;have f4:=h.fz 11;have f5:=h.fz 12;have ab:=h.lt;obtain⟨q,cap,c5,d1,M,q0,q1,q2,G,own',H,I,F⟩:=h.pop hr;have ac:g≠q:=MN G;have hq:q<W.heap.size:=Kg _ _ q0
 have J:Hid (∀o,fT hd B w0 own W g gs n { p with bl:=b,ar:=r } (((((W.setCell ⟨g,9,none⟩ (.int .i64 b.ind)).setCell ⟨g,10,none⟩ (.bool b.ev)).setCell ⟨g,11,none⟩ (.bool b.ft)).setCell ⟨g,12,none⟩ (.slice (some ⟨q,0,none⟩) r.length cap)).alloc o).drew):=by
  intro o;have u:=((gt _ ((((W.setCell ⟨g,9,none⟩ (.int .i64 b.ind)).setCell ⟨g,10,none⟩ (.bool b.ev)).setCell ⟨g,11,none⟩ (.bool b.ft)).setCell ⟨g,12,none⟩ (.slice (some ⟨q,0,none⟩) r.length cap))).alloc (ge _) o).drew;exact⟨own',H.below u,I.trans F (fun k hk O=>⟨u.block k hk,O⟩),Kh F u.size⟩
 have aa:cap<=9223372036854775807:=M;clear H I F h
 go_enter func155,ntmps155
 go_wp2_with fail
 go_region
 all_goals(
  go_wp2_with fail
  go_end0
  exact⟨rfl,J.out _⟩)
theorem Bh {hd:nK}{own:Nat->Nat}{n:Nat}(h:cM hd B w0 own W g gs n p) {U:Nat}(F:Bp p U) (u:U<=2147483647) (need:Nat) (G:need<=1000000000000000) (J:n<=4096) (hl:p.ar.length<=1000000000) (d:Dc) (I:rt d=true) (M:d.k=7->p.ar≠[]) :
  Kb 155 #[.pointer (some ⟨g,7,none⟩),d.v,.int .i64 need] W fun e w'=>e=.returned (.tuple #[])/\fT hd B w0 own W g gs n (put n d need p) w':=by
 cases iy I with
 |text t hq=>exact yl h F u need t (iz hq).2
 |brk m hq=>
  obtain⟨O,q2⟩:=kW hq;have:=Bf h F u need G J m.toNat (by omega);rw[show((m.toNat:Nat):Int)=m by omega]at this;exact this
 |beg m e hq=>
  obtain⟨O,q2⟩:=kW hq;have:=Bg h F u need G J hl m.toNat (by omega) e;rw[show((m.toNat:Nat):Int)=m by omega]at this;exact this
 |blank=>exact tS h F u need
 |hard=>exact ym h F u need
 |empty=>exact tR h F u need
 | «end»=>
  cases H:p.ar with
  |nil=>exact absurd H (M rfl)
  |cons b r=>
   have:=Be h need H (by rw[H]at hl;simp at hl;omega)
   have e:put n ⟨7,bE,0,0,false⟩ need p={ p with bl:=b,ar:=r }:=by
    show({ p with bl:=p.ar.headD ⟨0,false,false⟩,ar:=p.ar.tail }:Pr)=_
    rw[H];rfl
   rw[e];exact this
structure Sc where
 n:Nat
 dp:Nat
 ok:Bool
def fq (s:Sc) (d:Dc):Sc:=if s.ok=true then s else if dn d.k s.dp=0 then⟨s.n,s.dp,true⟩else⟨s.n+pw d,dn d.k s.dp,false⟩
def eP (s:Sc) (d:Dc):Sc:=if s.ok=true then s else if s.dp=0/\dN d then⟨s.n,s.dp,true⟩else⟨s.n+pw d,dn d.k s.dp,false⟩
theorem nV {s:Sc}(h:s.ok=true) (r:List Dc):r.foldl fq s=s:=by
 induction r with
 |nil=>rfl
 |cons d r ih=>rw[KU];have:fq s d=s:=(by unfold fq;rw[Kd h]);rw[this];exact ih
theorem jn {s:Sc}(h:s.ok=true) (r:List Dc):r.foldl eP s=s:=by
 induction r with
 |nil=>rfl
 |cons d r ih=>rw[KU];have:eP s d=s:=(by unfold eP;rw[Kd h]);rw[this];exact ih
theorem zF (r:List Dc):∀s:Sc,s.n<=(r.foldl fq s).n:=by
 induction r with
 |nil=>intro s;exact ge _
 |cons d r ih=>
  intro s;rw[KU];refine Kh ?_ (ih _);unfold fq
  split
  ·exact ge _
  ·split
   ·exact ge _
   ·exact NV _ _
theorem zE (r:List Dc):∀s:Sc,s.n<=(r.foldl eP s).n:=by
 induction r with
 |nil=>intro s;exact ge _
 |cons d r ih=>
  intro s;rw[KU];refine Kh ?_ (ih _);unfold eP
  split
  ·exact ge _
  ·split
   ·exact ge _
   ·exact NV _ _
def jc (l:List Dc):Nat:=(l.map pw).sum
theorem bX (d:Dc) (r:List Dc):jc (d :: r)=pw d+jc r:=by simp[jc]
theorem qt (l:List Dc) (d:Dc):jc (l++[d])=jc l+pw d:=by simp[jc]
theorem uM:∀(r:List Dc) (n dp:Nat),(r.foldl fq ⟨n,dp,false⟩).ok=false->(r.foldl fq ⟨n,dp,false⟩).n=n+jc r
 |[],n,dp,_=>rfl
 |d :: r,n,dp,h=>by
  rw[KU]at h ⊢
  by_cases u:dn d.k dp=0
  ·have e:fq ⟨n,dp,false⟩ d=⟨n,dp,true⟩:=by simp[fq,u]
   rw[e,nV rfl]at h;cases h
  ·have e:fq ⟨n,dp,false⟩ d=⟨n+pw d,dn d.k dp,false⟩:=by simp[fq,u]
   rw[e]at h ⊢;rw[uM r _ _ h,bX];omega
theorem uJ:∀(r:List Dc) (n dp:Nat),(r.foldl eP ⟨n,dp,false⟩).ok=false->(r.foldl eP ⟨n,dp,false⟩).n=n+jc r
 |[],n,dp,_=>rfl
 |d :: r,n,dp,h=>by
  rw[KU]at h ⊢
  by_cases u:dp=0/\dN d
  ·have e:eP ⟨n,dp,false⟩ d=⟨n,dp,true⟩:=by simp[eP,u]
   rw[e,jn rfl]at h;cases h
  ·have e:eP ⟨n,dp,false⟩ d=⟨n+pw d,dn d.k dp,false⟩:=by simp only[eP,KE,LP,IO u]
   rw[e]at h ⊢;rw[uJ r _ _ h,bX];omega
theorem uL:∀(r:List Dc) (n dp:Nat),(r.foldl fq ⟨n,dp,false⟩).n<=n+jc r
 |[],n,dp=>ge _
 |d :: r,n,dp=>by
  rw[KU,bX]
  by_cases u:dn d.k dp=0
  ·have e:fq ⟨n,dp,false⟩ d=⟨n,dp,true⟩:=by simp[fq,u]
   rw[e,nV rfl];exact NV _ _
  ·have e:fq ⟨n,dp,false⟩ d=⟨n+pw d,dn d.k dp,false⟩:=by simp[fq,u]
   rw[e];have:=uL r (n+pw d) (dn d.k dp);omega
theorem uI:∀(r:List Dc) (n dp:Nat),(r.foldl eP ⟨n,dp,false⟩).n<=n+jc r
 |[],n,dp=>ge _
 |d :: r,n,dp=>by
  rw[KU,bX]
  by_cases u:dp=0/\dN d
  ·have e:eP ⟨n,dp,false⟩ d=⟨n,dp,true⟩:=by simp[eP,u]
   rw[e,jn rfl];exact NV _ _
  ·have e:eP ⟨n,dp,false⟩ d=⟨n+pw d,dn d.k dp,false⟩:=by simp only[eP,KE,LP,IO u]
   rw[e];have:=uI r (n+pw d) (dn d.k dp);omega
theorem uT (R:Int):∀(r:List Dc) (n dp:Nat),(((qi R n dp r).1:Int)<=R↔((r.foldl fq ⟨n,dp,false⟩).n:Int)<=R)
 |[],n,dp=>Iff.rfl
 |d :: r,n,dp=>by
  rw[qi,KU]
  by_cases u:dn d.k dp=0
  ·have e:fq ⟨n,dp,false⟩ d=⟨n,dp,true⟩:=by simp[fq,u]
   rw[Kd u,e,nV rfl]
  ·have e:fq ⟨n,dp,false⟩ d=⟨n+pw d,dn d.k dp,false⟩:=by simp[fq,u]
   rw[IO u,e]
   by_cases F:R<((n+pw d:Nat):Int)
   ·rw[Kd F];have:=zF r ⟨n+pw d,dn d.k dp,false⟩;simp only at this ⊢;omega
   ·rw[IO F];exact uT R r _ _
theorem od (R:Int):∀(r:List Dc) (n dp:Nat),(n:Int)<=R->((qi R n dp r).2=true↔((r.foldl fq ⟨n,dp,false⟩).ok=true\/R<((r.foldl fq ⟨n,dp,false⟩).n:Int)))
 |[],n,dp,h=>by simp only[qi,List.foldl_nil,KE,false_or,false_iff];omega
 |d :: r,n,dp,h=>by
  rw[qi,KU]
  by_cases u:dn d.k dp=0
  ·have e:fq ⟨n,dp,false⟩ d=⟨n,dp,true⟩:=by simp[fq,u]
   rw[Kd u,e,nV rfl];simp
  ·have e:fq ⟨n,dp,false⟩ d=⟨n+pw d,dn d.k dp,false⟩:=by simp[fq,u]
   rw[IO u,e]
   by_cases F:R<((n+pw d:Nat):Int)
   ·rw[Kd F];have:=zF r ⟨n+pw d,dn d.k dp,false⟩;simp only at this;simp only[true_iff];exact .inr (by omega)
   ·rw[IO F];exact od R r _ _ (by omega)
theorem uS (R:Int):∀(r:List Dc) (n dp:Nat),(((py R n dp r).1:Int)<=R↔((r.foldl eP ⟨n,dp,false⟩).n:Int)<=R)
 |[],n,dp=>Iff.rfl
 |d :: r,n,dp=>by
  rw[py,KU]
  by_cases F:R<(n:Int)
  ·rw[Kd F];have:=zE (d :: r) ⟨n,dp,false⟩;rw[KU]at this;simp only at this ⊢;omega
  ·rw[IO F]
   by_cases u:dp=0/\dN d
   ·have e:eP ⟨n,dp,false⟩ d=⟨n,dp,true⟩:=by simp[eP,u]
    rw[Kd u,e,jn rfl]
   ·have e:eP ⟨n,dp,false⟩ d=⟨n+pw d,dn d.k dp,false⟩:=by simp only[eP,KE,LP,IO u]
    rw[IO u,e];exact uS R r _ _
theorem uR (R:Int):∀(r:List Dc) (n dp:Nat),((py R n dp r).2=true↔((r.foldl eP ⟨n,dp,false⟩).ok=true\/R<((r.foldl eP ⟨n,dp,false⟩).n:Int)))
 |[],n,dp=>by simp only[py,List.foldl_nil,KE,false_or,KJ]
 |d :: r,n,dp=>by
  rw[py,KU]
  by_cases F:R<(n:Int)
  ·rw[Kd F];have:=zE (d :: r) ⟨n,dp,false⟩;rw[KU]at this;simp only at this;simp only[true_iff];exact .inr (by omega)
  ·rw[IO F]
   by_cases u:dp=0/\dN d
   ·have e:eP ⟨n,dp,false⟩ d=⟨n,dp,true⟩:=by simp[eP,u]
    rw[Kd u,e,jn rfl];simp
   ·have e:eP ⟨n,dp,false⟩ d=⟨n+pw d,dn d.k dp,false⟩:=by simp only[eP,KE,LP,IO u]
    rw[IO u,e];exact uR R r _ _
def sc (d:Dc) (r:List Dc):Sc:=if d.k=6 then r.foldl fq ⟨0,1,false⟩else if d.k=3 then r.foldl eP ⟨d.b.toNat,0,false⟩else⟨0,0,false⟩
theorem zR (d:Dc) (r:List Dc):(sc d r).n<=jc (d :: r):=by
 unfold sc;rw[bX]
 split
 ·have:=uL r 0 1;omega
 ·split
  ·rename_i F u
   have:=uI r d.b.toNat 0;have e:pw d=d.b.toNat:=by unfold pw;rw[IO (by omega),IO (by omega),Kd u]
   omega
  ·exact Kj _
theorem GA (d:Dc) (r:List Dc) (G:d.k=6\/d.k=3) (h:(sc d r).ok=false):(sc d r).n=jc (d :: r):=by
 unfold sc at h ⊢;rw[bX]
 split at h
 ·rename_i u
  rw[Kd u,uM r 0 1 h,sZ (.inl u)]
 ·rename_i u
  have F:d.k=3:=by omega
  rw[IO u];rw[Kd F]at h ⊢;have e:pw d=d.b.toNat:=by unfold pw;rw[IO (by omega),IO (by omega),Kd F]
  rw[uJ r _ 0 h,e]
def oK:Nat->List Dc->Prop
 |_,[]=>False
 |dp,d :: r=>dn d.k dp=0\/oK (dn d.k dp) r
theorem vL:∀(r u:List Dc) (dp:Nat),oK dp r->oK dp (r++u)
 |[],u,dp,h=>h.elim
 |d :: r,u,dp,h=>by
  rw[KF]
  rcases h with h|h
  ·exact .inl h
  ·exact .inr (vL r u _ h)
theorem vM:∀(r:List Dc) (n dp:Nat),(r.foldl fq ⟨n,dp,false⟩).ok=true->oK dp r
 |[],n,dp,h=>by cases h
 |d :: r,n,dp,h=>by
  rw[KU]at h
  by_cases u:dn d.k dp=0
  ·exact .inl u
  ·have e:fq ⟨n,dp,false⟩ d=⟨n+pw d,dn d.k dp,false⟩:=by simp[fq,u]
   rw[e]at h;exact .inr (vM r _ _ h)
theorem Ba:∀(r:List Dc) (n dp:Nat),oK (dp+1) r->(r.foldl eP ⟨n,dp,false⟩).ok=true
 |[],n,dp,h=>h.elim
 |d :: r,n,dp,h=>by
  rw[KU]
  by_cases G:dp=0/\dN d
  ·have e:eP ⟨n,dp,false⟩ d=⟨n,dp,true⟩:=by simp[eP,G]
   rw[e,jn rfl]
  ·have e:eP ⟨n,dp,false⟩ d=⟨n+pw d,dn d.k dp,false⟩:=by simp only[eP,KE,LP,IO G]
   rw[e]
   have I:d.k=7->0<dp:=fun I=>by
    rcases Nu dp with H|H
    ·exact absurd ⟨H,.inr (.inr (.inr I))⟩ G
    ·exact H
   have J:dn d.k (dp+1)=dn d.k dp+1:=by
    unfold dn
    by_cases F:d.k=6
    ·rw[Kd F,Kd F]
    ·rw[IO F,IO F]
     by_cases u:d.k=7
     ·have:=I u;rw[Kd u,Kd u];omega
     ·rw[IO u,IO u]
   rcases h with h|h
   ·omega
   ·rw[J]at h;exact Ba r _ _ h
def Fe (p:Pr) (v:List Dc):Prop:=∀(m:Nat) (b:Bk),(p.bl :: p.ar)[m]?=some b->b.ft=true->oK (m+1) v
theorem fe0 (v:List Dc):Fe qD v:=by
 intro m b h e;have:b∈[qD.bl]:=LF h;simp at this;subst this;cases e
theorem Fe.app (h:Fe p v) (u:List Dc):Fe p (v++u):=fun m b G F=>vL v u _ (h m b G F)
theorem Fe.same {p F:Pr}{d:Dc}{r:List Dc}(h:Fe p (d :: r)) (G:d.k≠6/\d.k≠7) (J:F.bl=p.bl) (I:F.ar=p.ar):Fe F r:=by
 intro m b H M;rw[J,I]at H;have e:dn d.k (m+1)=m+1:=by unfold dn;rw[IO G.1,IO G.2]
 rcases h m b H M with u|u
 ·omega
 ·rw[e]at u;exact u
theorem tX {n:Nat}{d:Dc}(h:Fe p (d :: r)) (hd:rt d=true) (M:d.k=7->p.ar≠[]) (J:d.k=6->p.fits N n=true->oK 1 r):Fe (put N d n p) r:=by
 cases iy hd with
 |text t hq=>exact h.same ⟨by simp,by simp⟩ rfl rfl
 |brk m hq=>
  have e:put N ⟨3,bE,m,0,false⟩ n p=if p.brk N n then p.endl else p.hold m.toNat:=by simp[put]
  rw[e]
  split
  ·exact h.same ⟨by simp,by simp⟩ (eX p).1 (eX p).2
  ·exact h.same ⟨by simp,by simp⟩ (fQ p m.toNat).2.1 (fQ p m.toNat).2.2
 |beg m e hq=>
  have I:put N ⟨6,bE,0,m,e⟩ n p={ p with ar:=p.bl :: p.ar,bl:=⟨min (p.bl.ind+m.toNat) 1000,e,p.fits N n⟩ }:=by simp[put]
  rw[I];intro k b F H;cases k with
  |zero=>
   simp at F;subst F;exact J rfl H
  |succ k=>
   rcases h k b (by simpa using F) H with u|u
   ·exact absurd u (by simp[dn])
   ·exact u
 |blank=>
  have e:put N ⟨2,bE,0,0,false⟩ n p=p.hold 1:=by simp[put]
  rw[e];exact h.same ⟨by simp,by simp⟩ (fQ p 1).2.1 (fQ p 1).2.2
 |hard=>
  have e:put N ⟨4,bE,0,0,false⟩ n p=p.endl:=by simp[put]
  rw[e];exact h.same ⟨by simp,by simp⟩ (eX p).1 (eX p).2
 |empty=>
  have e:put N ⟨5,bE,0,0,false⟩ n p=if p.en then { p with sk:=p.sk.empty,en:=false }else p:=by simp[put]
  rw[e]
  split
  ·exact h.same ⟨by simp,by simp⟩ rfl rfl
  ·exact h.same ⟨by simp,by simp⟩ rfl rfl
 | «end»=>
  obtain⟨b0,r0,G⟩:∃b r,p.ar=b :: r:=by
   cases O:p.ar with
   |nil=>exact absurd O (M rfl)
   |cons b r=>exact⟨b,r,rfl⟩
  have I:put N ⟨7,bE,0,0,false⟩ n p={ p with bl:=b0,ar:=r0 }:=by simp[put,G]
  rw[I];intro k b F H
  rcases h (k+1) b (by rw[G];simpa using F) H with u|u
  ·exact absurd u (by simp[dn])
  ·exact u
def pD (N:Nat) (p:Pr) (d:Dc) (ok:Bool) (n:Nat):Bool:=!(decide (d.k=6\/d.k=3)&&!ok)||!p.fits N n||(decide (d.k=3)&&(p.sk.fresh||p.bl.ev))
theorem dv {n:Nat}:p.fits N n=decide ((n:Int)<=(N:Int)-(p.at:Nat)):=by
 unfold Pr.fits;rw[KR];omega
theorem uG {N:Nat}{p:Pr}{d:Dc}{r:List Dc}(h:Fe p (d :: r)):(jl N p (d :: r)).2=pD N p d (sc d r).ok (sc d r).n:=by
 unfold pD
 by_cases F:d.k=6
 ·have e:jl N p (d :: r)=if(N:Int)-(p.at:Nat)<0 then(0,true)else qi ((N:Int)-(p.at:Nat)) 0 1 r:=by simp only[jl,Kd F]
  have I:sc d r=r.foldl fq ⟨0,1,false⟩:=by unfold sc;rw[Kd F]
  rw[e,I,dv];have u:¬d.k=3:=by omega
  simp only[F,u]
  by_cases J:(N:Int)-(p.at:Nat)<0
  ·rw[Kd J];have:¬((((r.foldl fq ⟨0,1,false⟩).n:Nat):Int)<=(N:Int)-(p.at:Nat)):=by omega
   simp[this]
  ·rw[IO J];have:=od ((N:Int)-(p.at:Nat)) r 0 1 (by omega);rw[KS,this];simp
 ·by_cases u:d.k=3
  ·have e:jl N p (d :: r)=if p.sk.fresh||p.bl.ev||p.bl.ft then(0,true)else py ((N:Int)-(p.at:Nat)) d.b.toNat 0 r:=by simp only[jl,IO F,Kd u]
   have I:sc d r=r.foldl eP ⟨d.b.toNat,0,false⟩:=by unfold sc;rw[IO F,Kd u]
   rw[e,I,dv];cases hf:p.sk.fresh
   ·cases O:p.bl.ev
    ·cases ht:p.bl.ft
     ·have:=uR ((N:Int)-(p.at:Nat)) r d.b.toNat 0;simp only[Bool.or_self,KE,LP];rw[KS,this];simp[u]
     ·have G:=h 0 p.bl rfl ht;have H:dn d.k 1=1:=by unfold dn;rw[IO F,IO (by omega)]
      have M:oK 1 r:=by
       rcases G with G|G
       ·rw[show(0:Nat)+1=1 from rfl,H]at G;omega
       ·rw[show(0:Nat)+1=1 from rfl,H]at G;exact G
      have:=Ba r d.b.toNat 0 M;simp[this]
    ·simp[u]
   ·simp[u]
  ·have e:jl N p (d :: r)=(0,true):=by simp only[jl,IO F,IO u]
   rw[e];simp[F,u]
theorem uK {rest:List Dc}:∀(v:List Dc) (n dp:Nat),(v.foldl eP ⟨n,dp,false⟩).ok=true->min (v.foldl eP ⟨n,dp,false⟩).n 4097=min (n+eQ dp (bm (v++rest)).2.1 (bm (v++rest)).2.2) 4097
 |[],n,dp,h=>by cases h
 |d :: r,n,dp,h=>by
  rw[KU]at h ⊢
  by_cases u:dp=0/\dN d
  ·have e:eP ⟨n,dp,false⟩ d=⟨n,dp,true⟩:=by simp[eP,u]
   rw[e,jn rfl];obtain⟨rfl,u⟩:=u;rw[KF,lN _ _ u,K0]
  ·have e:eP ⟨n,dp,false⟩ d=⟨n+pw d,dn d.k dp,false⟩:=by simp only[eP,KE,LP,IO u]
   rw[e]at h ⊢;have F:=uK (rest:=rest) r _ _ h;have hc:=oZ d (r++rest) dp u;rw[F,KF];omega
theorem oi (hN:N<=4096) {p:Pr}{d:Dc}{r rest:List Dc}(hI:Ft N p (bm (d :: (r++rest))).2.1 (bm (d :: (r++rest))).2.2) (h:Fe p (d :: r)):put N d (sc d r).n p=put N d (jl N p (d :: r)).1 p:=by
 refine qu ⟨fun u=>?_,fun I=>?_⟩
 ·have e:jl N p (d :: r)=if(N:Int)-(p.at:Nat)<0 then(0,true)else qi ((N:Int)-(p.at:Nat)) 0 1 r:=by simp only[jl,Kd u]
  have H:sc d r=r.foldl fq ⟨0,1,false⟩:=by unfold sc;rw[Kd u]
  rw[e,H,dv,dv,KR]
  by_cases M:(N:Int)-(p.at:Nat)<0
  ·rw[Kd M];simp only;omega
  ·rw[IO M];exact(uT _ r 0 1).symm
 ·have u:¬d.k=6:=by omega
  have e:jl N p (d :: r)=if p.sk.fresh||p.bl.ev||p.bl.ft then(0,true)else py ((N:Int)-(p.at:Nat)) d.b.toNat 0 r:=by simp only[jl,IO u,Kd I]
  have H:sc d r=r.foldl eP ⟨d.b.toNat,0,false⟩:=by unfold sc;rw[IO u,Kd I]
  by_cases hf:p.sk.fresh=true
  ·exact .inl hf
  by_cases O:p.bl.ev=true
  ·exact .inr (.inl O)
  refine .inr (.inr ?_);rw[H,dv,dv,KR]
  by_cases ht:p.bl.ft=true
  ·rw[e,Kd (by simp[ht])];have F:=h 0 p.bl rfl ht;have G:dn d.k 1=1:=by unfold dn;rw[IO u,IO (by omega)]
   have h2:oK 1 r:=by
    rcases F with F|F
    ·rw[show(0:Nat)+1=1 from rfl,G]at F;omega
    ·rw[show(0:Nat)+1=1 from rfl,G]at F;exact F
   have aa:=uK (rest:=rest) r d.b.toNat 0 (Ba r d.b.toNat 0 h2);have k1:=hI.ft 0 p.bl rfl ht;have k2:=iO d (r++rest) 0 (by omega);have k3:dn d.k 0=0:=by unfold dn;rw[IO u,IO (by omega)]
   have J:pw d=d.b.toNat:=by unfold pw;rw[IO (by omega),IO (by omega),Kd I]
   rw[k3,J]at k2;have k4:(bm (r++rest)).2.1.hang<=(bm (r++rest)).2.1.all:=(oC (r++rest)).1;have k5:eR 0 (bm (r++rest)).2.1 (bm (r++rest)).2.2=(bm (r++rest)).2.1.all:=rfl;have k6:eQ 0 (bm (r++rest)).2.1 (bm (r++rest)).2.2=(bm (r++rest)).2.1.hang:=rfl;simp only;omega
  ·rw[e,IO (by simp[hf,O,ht])];exact(uS _ r _ 0).symm
abbrev wr (x:Int):Int:=IntKind.i64.wrap x
structure Px where
 d:Dc
 ah:Int
 st:Bool
 nd:Int
def jO (d:Dc):Bool:=decide (d.k=6\/d.k=3)
def Px.need (tot:Int) (x:Px):Int:=if jO x.d&&!x.st then wr (tot-x.ah)else x.nd
def Px.settle (tot:Int) (x:Px):Px:=⟨x.d,x.ah,true,x.need tot⟩
abbrev Pm:=Nat->Option Px
def fj (m:Pm) (b:Nat) (x:Px):Pm:=fun k=>if k=b then some x else m k
theorem cg (m:Pm) (b:Nat) (x:Px):fj m b x b=some x:=Kd rfl
theorem fd (m:Pm) {b k:Nat}(x:Px) (h:k≠b):fj m b x k=m k:=IO h
def sett (tot e:Int):Pm->List Nat->Pm × List Nat
 |m,[]=>(m,[])
 |m,b :: r=>match m b with
  |none=>(m,b :: r)
  |some x=>if x.d.k=3 then sett tot e (fj m b (x.settle tot)) r else if e=7 then(fj m b (x.settle tot),r)else(m,b :: r)
def aP (tot e:Int) (m:Pm) (rl:List Nat):Pm × List Nat:=if e=1\/e=2\/e=6 then(m,rl)else sett tot e m rl
def fU (N:Nat) (tot:Int) (m:Pm):Pr->List Nat->Pr × List Nat
 |p,[]=>(p,[])
 |p,b :: r=>match m b with
  |none=>(p,b :: r)
  |some x=>if pD N p x.d x.st (x.need tot).toNat=true then fU N tot m (put N x.d (x.need tot).toNat p) r else(p,b :: r)
def HI (m:Pm) (tot:Int):List Nat->List Dc->Prop
 |[],[]=>True
 |b :: bs,d :: r=>(∃ah,m b=some ⟨d,ah,(sc d r).ok,if(sc d r).ok then((sc d r).n:Int)else 0⟩/\wr (tot-ah)=((jc (d :: r):Nat):Int))/\HI m tot bs r
 |_,_=>False
def jU:List Nat->List Dc->Nat->Dc->List Dc->Prop
 |b' :: bs,d' :: r',b,d,r=>(b'=b/\d'=d/\r'=r)\/jU bs r' b d r
 |_,_,_,_,_=>False
theorem HI.len {m:Pm}:∀{hl:List Nat}{v:List Dc},HI m tot hl v->hl.length=v.length
 |[],[],_=>rfl
 |b :: bs,d :: r,h=>by rw[List.length_cons,List.length_cons,h.2.len]
 |[],d :: r,h=>h.elim
 |b :: bs,[],h=>h.elim
theorem HI.of {m:Pm}:∀{hl:List Nat}{v:List Dc}{b:Nat}{d:Dc}{r:List Dc},HI m tot hl v->jU hl v b d r->(∃F,m b=some ⟨d,F,(sc d r).ok,if(sc d r).ok then((sc d r).n:Int)else 0⟩/\wr (tot-F)=((jc (d :: r):Nat):Int))
 |b' :: bs,d' :: r',b,d,r,h,u=>by
  rcases u with⟨rfl,rfl,rfl⟩|u
  ·exact h.1
  ·exact h.2.of u
 |[],[],_,_,_,_,u=>u.elim
 |[],_ :: _,_,_,_,_,u=>u.elim
 |_ :: _,[],_,_,_,_,u=>u.elim
theorem jU.mem:∀{hl:List Nat}{v:List Dc}{b:Nat}{d:Dc}{r:List Dc},jU hl v b d r->b∈hl
 |b' :: bs,d' :: r',b,d,r,u=>by
  rcases u with⟨rfl,rfl,rfl⟩|u
  ·exact Ko
  ·exact KA _ u.mem
 |[],[],_,_,_,u=>u.elim
 |[],_ :: _,_,_,_,u=>u.elim
 |_ :: _,[],_,_,_,u=>u.elim
theorem jU.snoc {nb:Nat}{x:Dc}:∀{hl:List Nat}{v:List Dc}{b:Nat}{d:Dc}{u:List Dc},hl.length=v.length->jU (hl++[nb]) (v++[x]) b d u->(∃r,u=r++[x]/\jU hl v b d r)\/(b=nb/\d=x/\u=[])
 |[],[],b,d,u,_,h=>by
  rcases h with⟨rfl,rfl,rfl⟩|h
  ·exact .inr ⟨rfl,rfl,rfl⟩
  ·exact h.elim
 |b' :: bs,d' :: rs,b,d,u,hl,h=>by
  rcases h with⟨rfl,rfl,h⟩|h
  ·exact .inl ⟨rs,h.symm,.inl ⟨rfl,rfl,rfl⟩⟩
  ·rcases jU.snoc (by simpa using hl) h with⟨r,F,G⟩|F
   ·exact .inl ⟨r,F,.inr G⟩
   ·exact .inr F
 |[],d' :: rs,_,_,_,hl,_=>by simp at hl
 |b' :: bs,[],_,_,_,hl,_=>by simp at hl
theorem ki {F:Int}{d:Dc}(h:wr (tot-F)=((jc (d :: r):Nat):Int)):Px.need tot ⟨d,F,(sc d r).ok,if(sc d r).ok then((sc d r).n:Int)else 0⟩=(((sc d r).n:Nat):Int):=by
 unfold Px.need;cases G:(sc d r).ok
 ·by_cases u:d.k=6\/d.k=3
  ·have:jO d=true:=Ku u;simp only[this,Bool.not_false,Bool.and_self,MG,h,GA d r u G]
  ·have:jO d=false:=Kr u;have e:sc d r=⟨0,0,false⟩:=by unfold sc;rw[IO (by omega),IO (by omega)]
   simp[this,e]
 ·simp
def WR (m:Pm) (hl:List Nat) (v:List Dc) (D:Nat):Nat->List Nat->Prop
 |l,[]=>l=D
 |l,b :: rl=>∃x,m b=some x/\x.st=false/\((x.d.k=6/\(∀d r,jU hl v b d r->(sc d r).dp=l+1)/\WR m hl v D (l+1) rl)\/(x.d.k=3/\(∀d r,jU hl v b d r->(sc d r).dp=l)/\(∀b' r',rl=b' :: r'->∃x',m b'=some x'/\x'.d.k=6)/\WR m hl v D l rl))
structure WI (m:Pm) (tot:Int) (hl rl:List Nat) (v:List Dc) (D:Nat):Prop where
 hi:HI m tot hl v
 wr:WR m hl v D 0 rl
 cm:∀b d r,jU hl v b d r->(d.k=6\/d.k=3)->(sc d r).ok=false->b∈rl
 nh:hl.Nodup
 nw:rl.Nodup
theorem wi0 (tot:Int):WI (fun _=>none) tot [] [] [] 0:=⟨trivial,rfl,fun _ _ _ h=>h.elim,List.nodup_nil,List.nodup_nil⟩
theorem WR.tail {m:Pm}:∀{l:Nat}{rl:List Nat},WR m (b0 :: hl) (d0 :: v) D l rl->WR m hl v D l rl
 |l,[],h=>h
 |l,b :: rl,h=>by
  obtain⟨x,I,J,M⟩:=h;refine⟨x,I,J,?_⟩
  rcases M with⟨F,G,H⟩|⟨F,G,H,O⟩
  ·exact .inl ⟨F,fun d r u=>G d r (.inr u),H.tail⟩
  ·exact .inr ⟨F,fun d r u=>G d r (.inr u),H,O.tail⟩
theorem WI.tail {m:Pm}{rl:List Nat}(h:WI m tot (b0 :: hl) rl (d0 :: v) D):WI m tot hl rl v D:=
 ⟨h.hi.2,h.wr.tail,fun b d r u F G=>h.cm b d r (.inr u) F G,(Mu.1 h.nh).2,h.nw⟩
theorem WR.le {m:Pm}:∀{l:Nat}{rl:List Nat},WR m hl v D l rl->l<=D/\rl.length<=2*(D-l)+1/\((∀G r',rl=G :: r'->∃F,m G=some F/\F.d.k=6)->rl.length<=2*(D-l))
 |l,[],h=>by have:l=D:=h;subst this;exact⟨ge _,by simp,fun _=>by simp⟩
 |l,b :: rl,h=>by
  obtain⟨x,J,h2,M⟩:=h
  rcases M with⟨k1,k2,u⟩|⟨k1,k2,u,k4⟩
  ·obtain⟨H,O,I⟩:=u.le;rw[List.length_cons];exact⟨by omega,by omega,fun _=>by omega⟩
  ·obtain⟨H,O,I⟩:=k4.le;have:=I u;rw[List.length_cons];refine⟨H,by omega,fun h=>?_⟩;obtain⟨F,e1,e2⟩:=h b rl rfl;rw[J]at e1;cases e1;omega
theorem WR.mem {m:Pm}:∀{l:Nat}{rl:List Nat},WR m hl v D l rl->∀b∈rl,∃x,m b=some x/\x.st=false/\(x.d.k=6\/x.d.k=3)/\∀d r,jU hl v b d r->l<=(sc d r).dp/\(x.d.k=6->l+1<=(sc d r).dp)
 |l,[],h,b,F=>nomatch F
 |l,b0 :: rl,h,b,F=>by
  obtain⟨x,M,O,h3⟩:=h
  rcases KL.1 F with rfl|F
  ·rcases h3 with⟨G,H,I⟩|⟨G,H,I,k4⟩
   ·exact⟨x,M,O,.inl G,fun d r u=>by rw[H d r u];exact⟨by omega,fun _=>ge _⟩⟩
   ·exact⟨x,M,O,.inr G,fun d r u=>by rw[H d r u];exact⟨ge _,fun e=>by omega⟩⟩
  ·rcases h3 with⟨G,H,I⟩|⟨G,H,I,k4⟩
   ·obtain⟨x',e1,e2,e3,J⟩:=I.mem b F;exact⟨x',e1,e2,e3,fun d r u=>⟨by have:=(J d r u).1;omega,fun e=>by have:=(J d r u).2 e;omega⟩⟩
   ·exact k4.mem b F
theorem nZ (d:Dc) (r:List Dc) (x:Dc):sc d (r++[x])=if d.k=6 then fq (sc d r) x else if d.k=3 then eP (sc d r) x else sc d r:=by
 unfold sc
 split
 ·rw[OD];rfl
 ·split
  ·rw[OD];rfl
  ·rfl
theorem uQ {d:Dc}{r:List Dc}{x:Dc}(J:d.k=6\/d.k=3) (F:(sc d r).ok=false) (I:d.k=6->dn x.k (sc d r).dp≠0) (H:d.k=3->¬((sc d r).dp=0/\dN x)):(sc d (r++[x])).ok=false/\(sc d (r++[x])).dp=dn x.k (sc d r).dp:=by
 rw[nZ]
 by_cases u:d.k=6
 ·rw[Kd u];unfold fq;rw[IO (by rw[F];simp),IO (I u)];exact⟨rfl,rfl⟩
 ·have G:d.k=3:=by omega
  rw[IO u,Kd G];unfold eP;rw[IO (by rw[F];simp),IO (H G)];exact⟨rfl,rfl⟩
theorem zS {d:Dc}(u:(sc d r).ok=false) (h:(d.k=6/\dn x.k (sc d r).dp=0)\/(d.k=3/\(sc d r).dp=0/\dN x)):(sc d (r++[x])).ok=true/\(sc d (r++[x])).n=(sc d r).n:=by
 rw[nZ]
 rcases h with⟨G,h⟩|⟨F,h⟩
 ·rw[Kd G];unfold fq;rw[IO (by rw[u];simp),Kd h];exact⟨rfl,rfl⟩
 ·rw[IO (by omega),Kd F];unfold eP;rw[IO (by rw[u];simp),Kd h];exact⟨rfl,rfl⟩
theorem uP {d:Dc}(h:(sc d r).ok=true\/¬(d.k=6\/d.k=3)):sc d (r++[x])=sc d r:=by
 rw[nZ]
 rcases h with h|h
 ·split
  ·unfold fq;rw[Kd h]
  ·split
   ·unfold eP;rw[Kd h]
   ·rfl
 ·rw[IO (by omega),IO (by omega)]
theorem oX {k:Int}{l:Nat}(h:k=7->1<=l):dn k (l+1)=dn k l+1:=by
 unfold dn
 by_cases F:k=6
 ·rw[Kd F,Kd F]
 ·rw[IO F,IO F]
  by_cases u:k=7
  ·have:=h u;rw[Kd u,Kd u];omega
  ·rw[IO u,IO u]
theorem WR.shift {m m':Pm}{tot:Int}{hl:List Nat}{v:List Dc}{D nb:Nat}{x:Dc}(hi:HI m tot hl v):∀{l:Nat}{rl:List Nat},WR m hl v D l rl->(∀b∈rl,m' b=m b/\b≠nb)->(x.k=7->1<=l)->(dN x->1<=l\/(∀H u,rl=H :: u->∃M,m H=some M/\M.d.k=6))->WR m' (hl++[nb]) (v++[x]) (dn x.k D) (dn x.k l) rl
 |l,[],h,_,_,_=>by have:l=D:=h;subst this;exact rfl
 |l,b :: rl,h,hm,h7,hE=>by
  have hw:=h;obtain⟨y,h1,h2,h3⟩:=h
  have O:∀d u,jU (hl++[nb]) (v++[x]) b d u->∃r,u=r++[x]/\jU hl v b d r/\d=y.d/\(sc d r).ok=false:=by
   intro d u I
   rcases jU.snoc hi.len I with⟨r,G,F⟩|⟨G,_,_⟩
   ·obtain⟨ah,e3,_⟩:=hi.of F;rw[h1]at e3;cases e3;exact⟨r,G,F,rfl,h2⟩
   ·exact absurd G (hm b Ko).2
  refine⟨y,(hm b Ko).1.trans h1,h2,?_⟩
  rcases h3 with⟨J,k2,k3⟩|⟨J,k2,k3,k4⟩
  ·refine .inl ⟨J,fun d u I=>?_,?_⟩
   ·obtain⟨r,rfl,F,rfl,e4⟩:=O d u I;have hd:=k2 _ r F;have hs:=oX (k:=x.k) h7;have:=uQ (x:=x) (.inl J) e4 (fun _=>by rw[hd,hs];omega) (fun e=>by omega);rw[this.2,hd,hs]
   ·have hs:=oX (k:=x.k) h7;rw[<-hs];exact k3.shift hi (fun b hb=>hm b (KA _ hb)) (fun _=>by omega) (fun _=>.inl (by omega))
  ·have aa:dN x->1<=l:=fun e=>by
    rcases hE e with h|h
    ·exact h
    ·obtain⟨M,G,F⟩:=h b rl rfl;rw[h1]at G;cases G;omega
   refine .inr ⟨J,fun d u I=>?_,fun H u e=>?_,?_⟩
   ·obtain⟨r,rfl,F,rfl,e4⟩:=O d u I;have hd:=k2 _ r F;have:=uQ (x:=x) (.inr J) e4 (fun e=>by omega) (fun _=>by rw[hd];exact fun h=>by have:=aa h.2;omega);rw[this.2,hd]
   ·obtain⟨M,G,F⟩:=k3 H u e;exact⟨M,by rw[(hm H (by rw[e];exact KA _ Ko)).1];exact G,F⟩
   ·exact k4.shift hi (fun b hb=>hm b (KA _ hb)) h7 (fun e=>.inl (aa e))
theorem HI.snoc {m m':Pm}{tot u:Int}{nb:Nat}{x:Dc}(H:m' nb=some ⟨x,tot,false,0⟩) (ht:u=wr (tot+(pw x:Nat))):∀{hl:List Nat}{v:List Dc},HI m tot hl v->jc v+pw x<4611686018427387904->(∀b d r,jU hl v b d r->∀F,m b=some ⟨d,F,(sc d r).ok,if(sc d r).ok then((sc d r).n:Int)else 0⟩->wr (tot-F)=((jc (d :: r):Nat):Int)->m' b=some ⟨d,F,(sc d (r++[x])).ok,if(sc d (r++[x])).ok then((sc d (r++[x])).n:Int)else 0⟩)->HI m' u (hl++[nb]) (v++[x])
 |[],[],_,hb,_=>by
  refine⟨⟨tot,?_,?_⟩,trivial⟩
  ·have e:(sc x []).ok=false:=by unfold sc;split;rfl;split<;>rfl
   rw[e];exact H
  ·rw[ht,bX];have:jc []=0:=rfl;rw[this]at hb ⊢;unfold wr;rw[Ki,Ki];omega
 |b :: bs,d :: r,h,hb,hA=>by
  obtain⟨⟨F,M,G⟩,O⟩:=h;rw[bX]at hb;refine⟨⟨F,hA b d r (.inl ⟨rfl,rfl,rfl⟩) F M G,?_⟩,HI.snoc H ht O (by omega) (fun I J r' ha=>hA I J r' (.inr ha))⟩;have e:d :: (r++[x])=(d :: r)++[x]:=rfl;show wr (u - F)=((jc (d :: (r++[x])):Nat):Int);rw[e,qt,ht];rw[bX]at G ⊢;unfold wr at G ⊢;rw[Ki]at G ⊢;rw[Ki];omega
 |[],_ :: _,h,_,_=>h.elim
 |_ :: _,[],h,_,_=>h.elim
