import Derived.Test.YtpdlohfdjiaegaaGreatDoorR20
set_option linter.unusedVariables false
set_option linter.unusedSimpArgs false
namespace Go.Proofs.YtpdlohfdjiaegaaGreatDoor.Lw
open Go.Proofs.YtpdlohfdjiaegaaGreatDoor.Lx
open Go.RowKit
theorem jv (n:Nat):∀(l:List Dc) (ms:List Nat) (p:Pr) (k:Nat) (d:Dc) (m:Nat),l[k]?=some d->ms[k]?=some m->jh n (l.take (k+1)) (ms.take (k+1)) p=put n d m (jh n (l.take k) (ms.take k) p)
 |[],ms,p,k,d,m,h,_=>by simp at h
 |x :: l,[],p,k,d,m,_,h=>by simp at h
 |x :: l,y :: ms,p,0,d,m,h1,h2=>by
  simp at h1 h2;subst h1 h2;simp [jh]
 |x :: l,y :: ms,p,k+1,d,m,h1,h2=>by
  have:=jv n l ms (put n x y p) k d m (by simpa using h1) (by simpa using h2)
  simpa [jh] using this
def pst (n:Nat) (l:List Dc) (k:Nat):Pr:=jh n (l.take k) ((nds l).1.take k) pr0
theorem kU {n:Nat}{l:List Dc}{k:Nat}{d:Dc}(h:l[k]?=some d):∃m,(nds l).1[k]?=some m/\m<=4097/\pst n l (k+1)=put n d m (pst n l k):=by
 have hk:=(zv.1 h).1;obtain ⟨m,hm⟩:∃m,(nds l).1[k]?=some m:=⟨_,hH (by rw [gW];exact hk)⟩;exact ⟨m,hm,(mS l).1 m (Ah hm),jv n l _ pr0 k d m h hm⟩
theorem uW (n:Nat) (l:List Dc):(pst n l l.length).sk.out=oQ n l:=by
 unfold pst oQ;rw [Aw,Ak (by rw [gW];exact eq _)]
theorem qS (l:List Dc) (k:Nat):uds (l.take k)<=uds l:=by
 unfold uds
 have:(l.map ud).sum=((l.take k).map ud).sum+((l.drop k).map ud).sum:=by
  rw [<-List.sum_append,<-BO,CG]
 omega
theorem rS {n:Nat}{l:List Dc}(hr:∀d∈l,rt d=true) (k:Nat):Bp (pst n l k) (uds l):=by
 have:=nV (n:=n) (l.take k) ((nds l).1.take k) pr0 0 (fun d hd=>hr d (Bu hd)) bp0;exact this.mono (by have:=qS l k;omega)
theorem iH {n:Nat}{l:List Dc}(hf:frm 0 0 l=none):∀k:Nat,k<=l.length->∃o:Int,0<=o/\o<=k/\((pst n l k).ar.length:Int)=o/\frm o k (l.drop k)=none
 |0,_=>⟨0,DF _,DF _,by simp [pst,jh,pr0],by simpa using hf⟩
 |k+1,hk=>by
  obtain ⟨o,h0,h1,h2,h3⟩:=iH hf k (by omega);obtain ⟨d,hd⟩:∃d,l[k]?=some d:=⟨_,hH (by omega)⟩;obtain ⟨m,_,_,e⟩:=kU (n:=n) hd;rw [fK hd] at h3
  split at h3
  ·rename_i hc
   refine ⟨o+dep d.k,hc.2,?_,?_,h3⟩
   ·have:dep d.k<=1:=by unfold dep;split;omega;split <;> omega
    omega
   ·rw [e];exact rO hc.1 h2 hc.2
  ·cases h3
theorem pG {n:Nat}{l:List Dc}(hf:frm 0 0 l=none) {k:Nat}{d:Dc}(hd:l[k]?=some d):d.k=7->(pst n l k).ar≠[]:=by
 intro h7 hn;have hk:=(zv.1 hd).1;obtain ⟨o,h0,h1,h2,h3⟩:=iH (n:=n) hf k (by omega);rw [fK hd] at h3
 split at h3
 ·rename_i hc
  have:=hc.2;rw [h7,show dep 7=-1 from rfl] at this;rw [hn] at h2;simp at h2;omega
 ·cases h3
theorem rU {w2 w3:World}{gs n:Nat}(hT:Tab w2) (ha:Ae (fun _=>0) 1 w2 w3 gs st0):∃own,PS w2.heap.size w2 own (w3.alloc (.cells (prc n gs ⟨0,false,false⟩ (.slice none 0 0) false) 117)) w3.heap.size gs n pr0:=by
 obtain ⟨own3,e1,e2,e3⟩:=ha;have hb:Below w3.heap.size w3 (w3.alloc (.cells (prc n gs ⟨0,false,false⟩ (.slice none 0 0) false) 117)):=(gt _ _).alloc (eq _) _;have hs3:=e2.size;have hf:Fr 2 own3 (fun k=>if k=w3.heap.size then 2 else own3 k) w3 (w3.alloc (.cells (prc n gs ⟨0,false,false⟩ (.slice none 0 0) false) 117)):=⟨hb.os,hb.tape,hb.output,hb.size,fun k hk _=>hb.block k hk,fun k hk=>zu (by omega)⟩;refine ⟨fun k=>if k=w3.heap.size then 2 else own3 k,e1.fr (by omega) ?_ hf,?_,?_,eq _,e3.kept hf (by omega),⟨.slice none 0 0,ag _ _,Ar _ _ _ _,fun k h=>by cases h⟩,zw rfl⟩
 ·intro k hk;rw [ge] at hk;show (if k=w3.heap.size then 2 else own3 k)=0;rw [zu (by omega)];exact e1.nf k (by omega)
 ·intro k hk;show (if k=w3.heap.size then 2 else own3 k)=0;rw [zu (by omega)];exact e2.old k hk
 ·exact (e2.below (eq _) (fun _ _=>rfl) (by omega)).trans (hb.mono hs3)
set_option maxHeartbeats 4000000 in
set_option maxRecDepth 100000 in
theorem rV (n:Nat) (hn1:1<=n) (hn2:n<=4096) (ao:Option Addr) (l:List Dc) (cap:Nat) (w:World) (hL:Lay w ao l) (hT:Tab w) (hlen:l.length<=100000000) (hU:uds l<=268435456) (hf:frm 0 0 l=none) :
  Aa 33 #[.int .i64 n,.slice ao l.length cap] w fun e w'=>e=.returned (.tuple #[.string ⟨(oQ n l).toArray⟩,.int .i64 0])/\Below w.heap.size w w':=by
 have hrt:=m9 l 0 0 hf;have q0:¬((n:Int)<1):=by omega
 have q1:¬((4096:Int)<n):=by omega
 have HM:Hid (Aa 57 #[.slice ao l.length cap] w fun e w'=>e=.returned (.bool true)/\Below w.heap.size w w'):=by
  have:=jA ao l cap w hL (by omega);rw [hf] at this;exact this
 have HN:Hid (∀W,Below w.heap.size w W->Aa 58 #[.slice ao l.length cap] W fun e w'=>e=.returned (.slice (some ⟨W.heap.size,0,none⟩) l.length l.length)/\w'.heap[W.heap.size]?=some (.cells (ni (nds l).1).toArray 3 (0,0))/\Below W.heap.size W w'):=fun W hW=>pO ao l cap W (hL.below hW) (hT.below hW) hlen hf
 have HS:Hid (∀W,Below w.heap.size w W->Aa 59 #[] W fun e w'=>e=.returned (.pointer (some ⟨W.heap.size,0,none⟩))/\Ae (fun _=>0) 1 W w' W.heap.size st0):=fun W hW=>mR _ 1 W ⟨fun _ _=>rfl,hT.below hW,rfl⟩ (by omega)
 have HL:Hid (Lay w ao l/\Tab w):=⟨hL,hT⟩;clear hL hT
 go_enter D7,DX
 go_wp2_with fail
 refine HM.out.mono ?_;rintro e w1 ⟨rfl,hb1⟩
 go_wp2_with fail
 refine (HN.out w1 hb1).mono ?_;rintro e w2 ⟨rfl,hnd,hb2⟩;have HB2:Hid (Below w.heap.size w w2):=hb1.trans (hb2.mono hb1.size);obtain ⟨nb,hnb⟩:∃nb,w1.heap.size=nb:=⟨_,rfl⟩;rw [hnb] at hnd ⊢;have HND:Hid (w2.heap[nb]?=some (.cells (ni (nds l).1).toArray 3 (0,0))):=hnd;clear hnd hb2 hb1 hnb HM HN
 go_wp2_with fail
 refine (HS.out w2 HB2.out).mono ?_;rintro e w3 ⟨rfl,ha⟩;obtain ⟨own0,hp0⟩:=rU (n:=n) (HL.out.2.below HB2.out) ha;have HP0:Hid (∃own,PS w2.heap.size w2 own (w3.alloc (.cells (prc n w2.heap.size ⟨0,false,false⟩ (.slice none 0 0) false) 117)) w3.heap.size w2.heap.size n pr0):=⟨own0,hp0⟩;obtain ⟨gs,hgs⟩:∃gs,w2.heap.size=gs:=⟨_,rfl⟩;obtain ⟨g,hg⟩:∃g,w3.heap.size=g:=⟨_,rfl⟩;rw [hgs,hg] at HP0;clear ha hp0 HS
 go_wp2_with fail
 have hbs:gs<=w2.heap.size:=by omega
 go_loopw [26] (fun i wr=>∃(k:Nat),k<=l.length/\i=.int .i64 k/\Hid (∃own,PS gs w2 own wr g gs n (pst n l k))) (fun i _=>l.length-(intOf i).toNat)
 case atStart=>exact ⟨0,zx _,rfl,HP0.out⟩
 case round=>
  obtain ⟨k,hk,rfl,HI⟩:=hrel
  by_cases hlt:k<l.length
  ·have q2:(k:Int)<l.length:=by omega
   have q3:(0:Int)<=k:=by omega
   obtain ⟨d,hd⟩:∃d,l[k]?=some d:=⟨_,hH hlt⟩;obtain ⟨own,hps⟩:=HI.out;have hLr:Lay wr ao l:=(HL.out.1.below HB2.out).below (by rw [hgs];exact hps.bel);obtain ⟨ht,b,off,rfl,c0,c1,c2,c3,c4⟩:=hLr k d hd;obtain ⟨m,hm,hm4,hpe⟩:=kU (n:=n) hd;have hrd:=hrt d (Ah hd);obtain ⟨o,ho0,ho1,ho2,_⟩:=iH (n:=n) hf k hk;have hnb:wr.heap[nb]?=some (.cells (ni (nds l).1).toArray 3 (0,0)):=(hps.bel.block nb (by have:=ah HND.out;omega)).trans HND.out;obtain ⟨b1,b2,b3,b4,b5⟩:=hps.box (.cells #[.int .u8 d.k,.string d.t,.int .i64 d.b,.int .i64 d.i,.bool d.e] 57);obtain ⟨W1,hW1⟩:∃W1,wr.alloc (.cells #[.int .u8 d.k,.string d.t,.int .i64 d.b,.int .i64 d.i,.bool d.e] 57)=W1:=⟨_,rfl⟩;rw [hW1] at b1 b2 b4 b5
   have hcell:∀V:World,W1.heap.size<=V.heap.size->V.heap[wr.heap.size]?=W1.heap[wr.heap.size]?->V.heap[nb]?=W1.heap[nb]?->(V.cell? ⟨wr.heap.size,0,none⟩=some (.int .u8 d.k)/\V.cell? ⟨wr.heap.size,1,none⟩=some (.string d.t)/\V.cell? ⟨wr.heap.size,2,none⟩=some (.int .i64 d.b)/\V.cell? ⟨wr.heap.size,3,none⟩=some (.int .i64 d.i)/\V.cell? ⟨wr.heap.size,4,none⟩=some (.bool d.e)/\V.cell? ⟨nb,k,none⟩=some (.int .i64 m)):=by
    intro V _ e1 e2;have a1:=e1.trans b2;have a2:V.heap[nb]?=some (.cells (ni (nds l).1).toArray 3 (0,0)):=e2.trans (by rw [<-hW1];exact aB hnb _);exact ⟨aa a1 rfl,aa a1 rfl,aa a1 rfl,aa a1 rfl,aa a1 rfl,aa a2 (by simp [ni,hm])⟩
   have HPUT:Hid (∀V,V=W1.drew->Aa 60 #[.pointer (some ⟨g,0,none⟩),.agg #[.int .u8 d.k,.string d.t,.int .i64 d.b,.int .i64 d.i,.bool d.e],.int .i64 m] V fun e w'=>e=.returned (.tuple #[])/\Hid (∃own,PS gs w2 own w' g gs n (pst n l (k+1)))/\(w'.cell? ⟨wr.heap.size,0,none⟩=some (.int .u8 d.k)/\w'.cell? ⟨wr.heap.size,1,none⟩=some (.string d.t)/\w'.cell? ⟨wr.heap.size,2,none⟩=some (.int .i64 d.b)/\w'.cell? ⟨wr.heap.size,3,none⟩=some (.int .i64 d.i)/\w'.cell? ⟨wr.heap.size,4,none⟩=some (.bool d.e)/\w'.cell? ⟨nb,k,none⟩=some (.int .i64 m))):=by
    intro V hV;subst hV;have hd1:=b1.below (gt _ W1).drew;have:=gT hd1 (rS hrt k) (by omega) m (by omega) hn2 (by omega) d hrd (pG hf hd);refine this.mono ?_;rintro e w' ⟨rfl,own',p1,p2,p3⟩;rw [<-hpe] at p1;have x1:=p2 wr.heap.size (ah b2) b3;have hnl:nb<W1.heap.size:=by have:=ah hnb;have:=b5;omega
    have x2:w'.heap[nb]?=W1.heap[nb]?:=(p1.bel.block nb (by have:=ah HND.out;omega)).trans (b1.bel.block nb (by have:=ah HND.out;omega)).symm;exact ⟨rfl,⟨own',p1⟩,hcell w' p3 x1.1 x2⟩
   have HC1:Hid (W1.cell? ⟨wr.heap.size,0,none⟩=some (.int .u8 d.k)/\W1.cell? ⟨wr.heap.size,1,none⟩=some (.string d.t)/\W1.cell? ⟨wr.heap.size,2,none⟩=some (.int .i64 d.b)/\W1.cell? ⟨wr.heap.size,3,none⟩=some (.int .i64 d.i)/\W1.cell? ⟨wr.heap.size,4,none⟩=some (.bool d.e)/\W1.cell? ⟨nb,k,none⟩=some (.int .i64 m)):=hcell W1 (eq _) rfl rfl;have HW1:Hid (wr.alloc (.cells #[.int .u8 d.k,.string d.t,.int .i64 d.b,.int .i64 d.i,.bool d.e] 57)=W1):=hW1;clear HI hps hLr hpe hrd ho0 ho1 ho2 hnb b1 b2 b3 b4 b5 hW1 hcell hd hm
   go_wp2_with fail
   rw [HW1.out]
   go_region_held3 (fun w'=>w'.cell? ⟨wr.heap.size,0,none⟩=some (.int .u8 d.k)/\w'.cell? ⟨wr.heap.size,1,none⟩=some (.string d.t)/\w'.cell? ⟨wr.heap.size,2,none⟩=some (.int .i64 d.b)/\w'.cell? ⟨wr.heap.size,3,none⟩=some (.int .i64 d.i)/\w'.cell? ⟨wr.heap.size,4,none⟩=some (.bool d.e)/\w'.cell? ⟨nb,k,none⟩=some (.int .i64 m)) (first|assumption|(exact HC1.out)|go_keep) (first|(go_at_call 60;refine (HPUT.out _ rfl).mono ?_;rintro e w4 ⟨rfl,HP4,HS4⟩))
   all_goals (
    go_wp2_with fail
    exact ⟨⟨k+1,hlt,by go_num,HP4.out⟩,by simp [intOf];omega⟩)
  ·obtain rfl:k=l.length:=by omega
   have q2:¬((l.length:Int)<l.length):=by omega
   obtain ⟨own,hps⟩:=HI.out;have c1:=hps.c1
   have HT:Hid (Aa 61 #[.pointer (some ⟨gs,0,none⟩)] wr fun e w'=>e=.returned (.string ⟨(oQ n l).toArray⟩)/\Below w.heap.size w w'):=by
    have hbd:=rS (n:=n) hrt l.length;refine (uy hps.sk hps.en (by omega) (by have:=hbd.out;omega)).mono ?_;rintro e w' ⟨rfl,ha⟩;obtain ⟨own',p1,_⟩:=hps.sink ha;rw [uW];refine ⟨rfl,HB2.out.trans ?_⟩;have:=p1.bel;exact this.mono (by have:=HB2.out.size;omega)
   clear HI hps
   go_wp2_with (go_at_call 61;refine HT.out.mono ?_;rintro e w5 ⟨rfl,hb5⟩)
   go_ret2
   exact ⟨rfl,hb5⟩
theorem pH (n:Int) (ao:Option Addr) (l:List Dc) (cap:Nat) (w:World) (hL:Lay w ao l) (hT:Tab w) (hlen:l.length<=100000000) (hU:uds l<=268435456) :
  Aa 33 #[.int .i64 n,.slice ao l.length cap] w fun e w'=>e=.returned (.tuple #[.string (fw n l).1,.int .i64 (fw n l).2])/\Below w.heap.size w w':=by
 by_cases hn:n<1\/4096<n
 ·have e:fw n l=(⟨#[]⟩,1):=zw hn;rw [e]
  by_cases h0:n<1
  ·have q:decide (n<1)=true:=by simp;omega
   clear hn hL hT
   go_enter D7,DX
   go_wp2_with fail
   go_ret2
   exact ⟨rfl,gt _ _⟩
  ·have h1:4096<n:=by omega
   clear hn hL hT
   go_enter D7,DX
   go_wp2_with fail
   go_ret2
   exact ⟨rfl,gt _ _⟩
 ·by_cases hf:frm 0 0 l=none
  ·have e:fw n l=(⟨(oQ n.toNat l).toArray⟩,0):=by unfold fw;rw [zu hn,zu (by simp [hf])]
   rw [e];have:=rV n.toNat (by omega) (by omega) ao l cap w hL hT hlen hU hf;rw [show ((n.toNat:Nat):Int)=n by omega] at this;exact this
  ·have e:fw n l=(⟨#[]⟩,70):=by unfold fw;rw [zu hn,zw hf]
   rw [e];have h0:¬n<1:=by omega
   have h1:¬4096<n:=by omega
   have HM:=jA ao l cap w hL (by omega);rw [zA hf] at HM;clear hn hL hT
   go_enter D7,DX
   go_wp2_with (go_at_call 57;refine HM.mono ?_;rintro e w1 ⟨rfl,hb1⟩)
   go_ret2
   exact ⟨rfl,hb1⟩
end Go.Proofs.YtpdlohfdjiaegaaGreatDoor.Lw
