import Derived.Test.YtpdlohfdjiaegaaGreatDoorM19
import Derived.Test.YtpdlohfdjiaegaaGreatDoorM20
set_option linter.unusedVariables false
set_option linter.unusedSimpArgs false
set_option maxHeartbeats 4000000
set_option maxRecDepth 100000
namespace Go.Proofs.YtpdlohfdjiaegaaGreatDoor.Lw
open Go.Proofs.YtpdlohfdjiaegaaGreatDoor.Lx
open Go.RowKit
def bg0:Dc:=⟨6,bE,0,0,false⟩
theorem zk (d:Dc):decide ((chk [bg0,d]).2≠1)=rt d:=by
 have h0:rt bg0=true:=by decide +kernel
 have hd:0<=1+dep d.k:=by unfold dep;split;omega;split <;> omega
 have e2:frm 0 0 [bg0,d]=if rt d=true/\0<=1+dep d.k then frm (1+dep d.k) 2 [] else some 1:=by
  have:frm 0 0 [bg0,d]=if rt bg0=true/\0<=0+dep bg0.k then frm (0+dep bg0.k) 1 [d] else some 0:=rfl
  rw [this,if_pos ⟨h0,by decide⟩];rfl
 have key:(chk [bg0,d]).2=1↔rt d=false:=by
  rw [show chk [bg0,d]=ckr (frm 0 0 [bg0,d]) from wI (by simp),e2];cases hr:rt d with
  |false=>rw [if_neg (by simp)];simp [ckr]
  |true=>
   rw [if_pos ⟨rfl,hd⟩];have:frm (1+dep d.k) 2 []=if 0<1+dep d.k then some 2 else none:=rfl
   rw [this]
   by_cases h:0<1+dep d.k
   ·rw [if_pos h];simp [ckr]
   ·rw [if_neg h];simp [ckr]
 cases hr:rt d with
 |false=>exact decide_eq_false (fun h=>h (key.2 hr))
 |true=>exact decide_eq_true (fun h=>by rw [key.1 h] at hr;cases hr)
theorem yC (w:World) (b:Nat) (d:Dc) (ht:d.t.size<=9223372036854775807) (h:w.heap[b]?=some (.cells #[.int .u8 6,.string ⟨#[]⟩,.int .i64 0,.int .i64 0,.bool false,.int .u8 d.k,.string d.t,.int .i64 d.b,.int .i64 d.i,.bool d.e] 57 (0,0))):Lay w (some ⟨b,0,none⟩) [bg0,d]:=by
 intro j x hx
 match j,hx with
 |0,hx=>cases hx;exact ⟨Nat.zero_le _,b,0,rfl,aa h rfl,aa h rfl,aa h rfl,aa h rfl,aa h rfl⟩
 |1,hx=>cases hx;exact ⟨ht,b,0,rfl,aa h rfl,aa h rfl,aa h rfl,aa h rfl,aa h rfl⟩
 |j+2,hx=>simp at hx
theorem oA (d:Dc) (ht:d.t.size<=9223372036854775807) (w:World):Da 101 #[d.v] w fun e w'=>e=.returned (.bool (rt d))/\Below w.heap.size w w':=by
 have HC:Hid (∀W b,W.heap[b]?=some (.cells #[.int .u8 6,.string ⟨#[]⟩,.int .i64 0,.int .i64 0,.bool false,.int .u8 d.k,.string d.t,.int .i64 d.b,.int .i64 d.i,.bool d.e] 57 (0,0))->Da 152 #[.slice (some ⟨b,0,none⟩) 2 2] W fun e w'=>e=.returned (.tuple #[.int .i64 (chk [bg0,d]).1,.int .i64 (chk [bg0,d]).2])/\Below W.heap.size W w'):=fun W b h=>tJ _ [bg0,d] 2 W (yC W b d ht h) (by simp)
 have e:=zk d;rw [<-e];have hb:=Bj [bg0,d]
 generalize (chk [bg0,d]).1=k1 at *
 generalize (chk [bg0,d]).2=k2 at *
 clear e ht;obtain ⟨dk,dt,db,di,de⟩:=d
 dsimp only [Dc.v] at *
 have hs1:(w.alloc (.cells #[.int .u8 dk,.string dt,.int .i64 db,.int .i64 di,.bool de] 57)).heap.size=w.heap.size+1:=World.size_alloc _ _;have hbd:∀o1 o2 w1,Below ((w.alloc o1).alloc o2).heap.size ((w.alloc o1).alloc o2) w1->Below w.heap.size w w1:=fun o1 o2 w1 h=>(((Below.refl _ w).alloc (Nat.le_refl _) o1).alloc (by rw [World.size_alloc];omega) o2).trans (h.mono (by rw [World.size_alloc,World.size_alloc];omega))
 have HB:Hid (∀o1 o2 w1,Below ((w.alloc o1).alloc o2).heap.size ((w.alloc o1).alloc o2) w1->Below w.heap.size w w1):=hbd;clear hbd
 go_enter Tryz.func101,Tryz.ntmps101
 go_wp2_with (go_at_call 152;refine (HC.out _ _ (by rw [<-hs1];exact am _ _)).mono ?_;rintro e w1 ⟨rfl,hb1⟩)
 go_ret
 exact ⟨by simp [bne,Bool.beq_eq_decide_eq],HB.out _ _ _ hb1⟩
theorem kN (ao:Option Addr) (l:List Dc) (cap:Nat) (w:World) (hL:Lay w ao l) (hn:l.length<=9223372036854775807) :
  Da 57 #[.slice ao l.length cap] w fun e w'=>e=.returned (.bool (decide (frm 0 0 l=none)))/\Below w.heap.size w w':=by
 obtain ⟨R,hR⟩:∃R,frm 0 0 l=R:=⟨_,rfl⟩;have HR0:Hid (frm 0 0 l=R):=hR;rw [hR];clear hR;have HL:Hid (Lay w ao l):=hL;clear hL
 go_enter Tryz.func57,Tryz.ntmps57
 go_wp2_with fail
 go_loopw [3,8] (fun o j wr=>∃(k:Nat) (z:Int),k<=l.length/\o=.int .i64 z/\j=.int .i64 k/\0<=z/\z<=k/\Hid (frm z k (l.drop k)=R/\Below w.heap.size w wr)) (fun _ j _=>l.length-(intOf j).toNat)
 case atStart=>exact ⟨0,0,by omega,rfl,rfl,by omega,by omega,HR0.out,Below.refl _ _⟩
 case round=>
  obtain ⟨k,z,hk,rfl,rfl,hz0,hz1,HI⟩:=hrel
  by_cases hlt:k<l.length
  ·have q1:(k:Int)<l.length:=by omega
   obtain ⟨d,hd⟩:∃d,l[k]?=some d:=⟨_,List.getElem?_eq_getElem hlt⟩;obtain ⟨ht,b,off,rfl,c0,c1,c2,c3,c4⟩:=(HL.out.below HI.out.2) k d hd
   have HS:Hid ((if rt d=true/\0<=z+dep d.k then frm (z+dep d.k) (k+1) (l.drop (k+1)) else some k)=R):=by
    show _=_;rw [<-gF hd];exact HI.out.1
   have HB:Hid (Db w wr):=HI.out.2;have HR:Hid (∀W,Da 101 #[d.v] W fun x w'=>x=.returned (.bool (rt d))/\Db W w'):=fun W=>oA d ht W
   clear HI hd;obtain ⟨dk,dt,db,di,de⟩:=d;simp only [Dc.v] at HR;simp only at c0 c1 c2 c3 c4 HS ht
   generalize rt ⟨dk,dt,db,di,de⟩=r at *
   have HX:Hid (r=true->0<=z+dep dk->frm (z+dep dk) (k+1) (l.drop (k+1))=R):=fun h1 h2=>by rw [<-HS.out,if_pos ⟨h1,h2⟩]
   have HY:Hid (¬(r=true/\0<=z+dep dk)->decide (R=none)=false):=fun h=>by rw [<-HS.out,if_neg h];rfl
   clear HS
   have HA:Hid (∀W w1,W=wr.alloc (.cells #[.int .u8 dk,.string dt,.int .i64 db,.int .i64 di,.bool de] 57)->Db W w1->Db w w1):=fun W w1 hW h=>by
    subst hW;exact (HB.out.alloc HB.out.size _).trans (h.mono (by rw [World.size_alloc];have:=HB.out.size;omega))
   by_cases k6:dk=6
   ·subst k6;have e6:z+dep 6=z+1:=rfl;rw [e6] at HX HY;cases r
    ·have HQ:Hid (decide (R=none)=false):=HY.out (by simp);clear HX HY
     go_wp2_with (go_at_call 101;refine (HR.out _).mono ?_;rintro e w1 ⟨rfl,hb1⟩)
     all_goals (go_ret;rw [HQ.out];exact ⟨rfl,HA.out _ _ rfl hb1⟩)
    ·have HQ:Hid (frm (z+1) (k+1) (l.drop (k+1))=R):=HX.out rfl (by omega);clear HX HY
     go_wp2_with (go_at_call 101;refine (HR.out _).mono ?_;rintro e w1 ⟨rfl,hb1⟩)
     exact ⟨⟨k+1,z+1,hlt,by go_num,by go_num,by omega,by omega,HQ.out,HA.out _ _ rfl hb1⟩,by simp [intOf];omega⟩
   by_cases k7:dk=7
   ·subst k7;have e6:z+dep 7=z-1:=rfl;rw [e6] at HX HY
    by_cases hz:0<z
    ·cases r
     ·have HQ:Hid (decide (R=none)=false):=HY.out (by simp);clear HX HY
      go_wp2_with (go_at_call 101;refine (HR.out _).mono ?_;rintro e w1 ⟨rfl,hb1⟩)
      all_goals (go_ret;rw [HQ.out];exact ⟨rfl,HA.out _ _ rfl hb1⟩)
     ·have HQ:Hid (frm (z-1) (k+1) (l.drop (k+1))=R):=HX.out rfl (by omega);clear HX HY
      go_wp2_with (go_at_call 101;refine (HR.out _).mono ?_;rintro e w1 ⟨rfl,hb1⟩)
      exact ⟨⟨k+1,z-1,hlt,by go_num,by go_num,by omega,by omega,HQ.out,HA.out _ _ rfl hb1⟩,by simp [intOf];omega⟩
    ·obtain rfl:z=0:=by omega
     have HQ:Hid (decide (R=none)=false):=HY.out (by omega);clear HX HY
     go_wp2_with (go_at_call 101;refine (HR.out _).mono ?_;rintro e w1 ⟨rfl,hb1⟩)
     all_goals (go_ret;rw [HQ.out];exact ⟨rfl,HA.out _ _ rfl (Below.refl _ _)⟩)
   ·have e6:z+dep dk=z:=by simp [dep,k6,k7]
    rw [e6] at HX HY;cases r
    ·have HQ:Hid (decide (R=none)=false):=HY.out (by simp);clear HX HY
     go_wp2_with (go_at_call 101;refine (HR.out _).mono ?_;rintro e w1 ⟨rfl,hb1⟩)
     all_goals (go_ret;rw [HQ.out];exact ⟨rfl,HA.out _ _ rfl hb1⟩)
    ·have HQ:Hid (frm z (k+1) (l.drop (k+1))=R):=HX.out rfl (by omega);clear HX HY
     go_wp2_with (go_at_call 101;refine (HR.out _).mono ?_;rintro e w1 ⟨rfl,hb1⟩)
     exact ⟨⟨k+1,z,hlt,by go_num,by go_num,by omega,by omega,HQ.out,HA.out _ _ rfl hb1⟩,by simp [intOf];omega⟩
  ·obtain rfl:k=l.length:=by omega
   have q1:¬((l.length:Int)<l.length):=by omega
   have he:=HI.out.1;rw [qW (Nat.le_refl _)] at he;have HB:Hid (Db w wr):=HI.out.2
   have HQ:Hid (decide (R=none)=(z == 0)):=by
    show _=_
    rw [<-he]
    by_cases hz:0<z
    ·rw [if_pos hz];have:¬z=0:=by omega
     simp [this]
    ·obtain rfl:z=0:=by omega
     rfl
   clear HI he
   go_wp2_with fail
   go_ret
   rw [HQ.out];exact ⟨rfl,HB.out⟩
theorem kF (n:Nat):∀(l:List Dc) (ms:List Nat) (p:Pr) (k:Nat) (d:Dc) (m:Nat),l[k]?=some d->ms[k]?=some m->puts n (l.take (k+1)) (ms.take (k+1)) p=put n d m (puts n (l.take k) (ms.take k) p)
 |[],ms,p,k,d,m,h,_=>by simp at h
 |x :: l,[],p,k,d,m,_,h=>by simp at h
 |x :: l,y :: ms,p,0,d,m,h1,h2=>by
  simp at h1 h2;subst h1 h2;simp [puts]
 |x :: l,y :: ms,p,k+1,d,m,h1,h2=>by
  have:=kF n l ms (put n x y p) k d m (by simpa using h1) (by simpa using h2)
  simpa [puts] using this
def pst (n:Nat) (l:List Dc) (k:Nat):Pr:=puts n (l.take k) ((nds l).1.take k) pr0
theorem m9 {n:Nat}{l:List Dc}{k:Nat}{d:Dc}(h:l[k]?=some d):∃m,(nds l).1[k]?=some m/\m<=4097/\pst n l (k+1)=put n d m (pst n l k):=by
 have hk:=(List.getElem?_eq_some_iff.1 h).1;obtain ⟨m,hm⟩:∃m,(nds l).1[k]?=some m:=⟨_,List.getElem?_eq_getElem (by rw [gE];exact hk)⟩;exact ⟨m,hm,(pf l).1 m (List.mem_of_getElem? hm),kF n l _ pr0 k d m h hm⟩
theorem yc (n:Nat) (l:List Dc):(pst n l l.length).sk.out=eV n l:=by
 unfold pst eV;rw [List.take_length,List.take_of_length_le (by rw [gE];exact Nat.le_refl _)]
theorem tX (l:List Dc) (k:Nat):uds (l.take k)<=uds l:=by
 unfold uds
 have:(l.map ud).sum=((l.take k).map ud).sum+((l.drop k).map ud).sum:=by
  rw [<-List.sum_append,<-List.map_append,List.take_append_drop]
 omega
theorem uS {n:Nat}{l:List Dc}(hr:∀d∈l,rt d=true) (k:Nat):Bp (pst n l k) (uds l):=by
 have:=lC (n:=n) (l.take k) ((nds l).1.take k) pr0 0 (fun d hd=>hr d (List.mem_of_mem_take hd)) bp0;exact this.mono (by have:=tX l k;omega)
theorem jC {n:Nat}{l:List Dc}(hf:frm 0 0 l=none):∀k:Nat,k<=l.length->∃o:Int,0<=o/\o<=k/\((pst n l k).ar.length:Int)=o/\frm o k (l.drop k)=none
 |0,_=>⟨0,Int.le_refl _,Int.le_refl _,by simp [pst,puts,pr0],by simpa using hf⟩
 |k+1,hk=>by
  obtain ⟨o,h0,h1,h2,h3⟩:=jC hf k (by omega);obtain ⟨d,hd⟩:∃d,l[k]?=some d:=⟨_,List.getElem?_eq_getElem (by omega)⟩;obtain ⟨m,_,_,e⟩:=m9 (n:=n) hd;rw [gF hd] at h3
  split at h3
  ·rename_i hc
   refine ⟨o+dep d.k,hc.2,?_,?_,h3⟩
   ·have:dep d.k<=1:=by unfold dep;split;omega;split <;> omega
    omega
   ·rw [e];exact uP hc.1 h2 hc.2
  ·cases h3
theorem sx {n:Nat}{l:List Dc}(hf:frm 0 0 l=none) {k:Nat}{d:Dc}(hd:l[k]?=some d):d.k=7->(pst n l k).ar≠[]:=by
 intro h7 hn;have hk:=(List.getElem?_eq_some_iff.1 hd).1;obtain ⟨o,h0,h1,h2,h3⟩:=jC (n:=n) hf k (by omega);rw [gF hd] at h3
 split at h3
 ·rename_i hc
  have:=hc.2;rw [h7,show dep 7=-1 from rfl] at this;rw [hn] at h2;simp at h2;omega
 ·cases h3
theorem uT {w2 w3:World}{gs n:Nat}(hT:Tab w2) (ha:Ae (fun _=>0) 1 w2 w3 gs st0):∃own,PS w2.heap.size w2 own (w3.alloc (.cells (prc n gs ⟨0,false,false⟩ (.slice none 0 0) false) 117)) w3.heap.size gs n pr0:=by
 obtain ⟨own3,e1,e2,e3⟩:=ha;have hb:Below w3.heap.size w3 (w3.alloc (.cells (prc n gs ⟨0,false,false⟩ (.slice none 0 0) false) 117)):=(Below.refl _ _).alloc (Nat.le_refl _) _;have hs3:=e2.size;have hf:Fr 2 own3 (fun k=>if k=w3.heap.size then 2 else own3 k) w3 (w3.alloc (.cells (prc n gs ⟨0,false,false⟩ (.slice none 0 0) false) 117)):=⟨hb.os,hb.tape,hb.output,hb.size,fun k hk _=>hb.block k hk,fun k hk=>if_neg (by omega)⟩;refine ⟨fun k=>if k=w3.heap.size then 2 else own3 k,e1.fr (by omega) ?_ hf,?_,?_,Nat.le_refl _,e3.kept hf (by omega),⟨.slice none 0 0,am _ _,World.ownsRow_nil _ _ _ _,fun k h=>by cases h⟩,if_pos rfl⟩
 ·intro k hk;rw [World.size_alloc] at hk;show (if k=w3.heap.size then 2 else own3 k)=0;rw [if_neg (by omega)];exact e1.nf k (by omega)
 ·intro k hk;show (if k=w3.heap.size then 2 else own3 k)=0;rw [if_neg (by omega)];exact e2.old k hk
 ·exact (e2.below (Nat.le_refl _) (fun _ _=>rfl) (by omega)).trans (hb.mono hs3)
theorem uV (n:Nat) (hn1:1<=n) (hn2:n<=4096) (ao:Option Addr) (l:List Dc) (cap:Nat) (w:World) (hL:Lay w ao l) (hT:Tab w) (hlen:l.length<=100000000) (hU:uds l<=268435456) (hf:frm 0 0 l=none) :
  Da 33 #[.int .i64 n,.slice ao l.length cap] w fun e w'=>e=.returned (.tuple #[.string ⟨(eV n l).toArray⟩,.int .i64 0])/\Below w.heap.size w w':=by
 have hrt:=jR l 0 0 hf;have q0:¬((n:Int)<1):=by omega
 have q1:¬((4096:Int)<n):=by omega
 have HM:Hid (Da 57 #[.slice ao l.length cap] w fun e w'=>e=.returned (.bool true)/\Below w.heap.size w w'):=by
  have:=kN ao l cap w hL (by omega);rw [hf] at this;exact this
 have HN:Hid (∀W,Below w.heap.size w W->Da 58 #[.slice ao l.length cap] W fun e w'=>e=.returned (.slice (some ⟨W.heap.size,0,none⟩) l.length l.length)/\w'.heap[W.heap.size]?=some (.cells (ni (nds l).1).toArray 3 (0,0))/\Below W.heap.size W w'):=fun W hW=>sH ao l cap W (hL.below hW) (hT.below hW) hlen hf
 have HS:Hid (∀W,Below w.heap.size w W->Da 59 #[] W fun e w'=>e=.returned (.pointer (some ⟨W.heap.size,0,none⟩))/\Ae (fun _=>0) 1 W w' W.heap.size st0):=fun W hW=>pe _ 1 W ⟨fun _ _=>rfl,hT.below hW,rfl⟩ (by omega)
 have HL:Hid (Lay w ao l/\Tab w):=⟨hL,hT⟩;clear hL hT
 go_enter Tryz.func33,Tryz.ntmps33
 go_wp2_with fail
 refine HM.out.mono ?_;rintro e w1 ⟨rfl,hb1⟩
 go_wp2_with fail
 refine (HN.out w1 hb1).mono ?_;rintro e w2 ⟨rfl,hnd,hb2⟩;have HB2:Hid (Below w.heap.size w w2):=hb1.trans (hb2.mono hb1.size);obtain ⟨nb,hnb⟩:∃nb,w1.heap.size=nb:=⟨_,rfl⟩;rw [hnb] at hnd ⊢;have HND:Hid (w2.heap[nb]?=some (.cells (ni (nds l).1).toArray 3 (0,0))):=hnd;clear hnd hb2 hb1 hnb HM HN
 go_wp2_with fail
 refine (HS.out w2 HB2.out).mono ?_;rintro e w3 ⟨rfl,ha⟩;obtain ⟨own0,hp0⟩:=uT (n:=n) (HL.out.2.below HB2.out) ha;have HP0:Hid (∃own,PS w2.heap.size w2 own (w3.alloc (.cells (prc n w2.heap.size ⟨0,false,false⟩ (.slice none 0 0) false) 117)) w3.heap.size w2.heap.size n pr0):=⟨own0,hp0⟩;obtain ⟨gs,hgs⟩:∃gs,w2.heap.size=gs:=⟨_,rfl⟩;obtain ⟨g,hg⟩:∃g,w3.heap.size=g:=⟨_,rfl⟩;rw [hgs,hg] at HP0;clear ha hp0 HS
 go_wp2_with fail
 have hbs:gs<=w2.heap.size:=by omega
 go_loopw [26] (fun i wr=>∃(k:Nat),k<=l.length/\i=.int .i64 k/\Hid (∃own,PS gs w2 own wr g gs n (pst n l k))) (fun i _=>l.length-(intOf i).toNat)
 case atStart=>exact ⟨0,Nat.zero_le _,rfl,HP0.out⟩
 case round=>
  obtain ⟨k,hk,rfl,HI⟩:=hrel
  by_cases hlt:k<l.length
  ·have q2:(k:Int)<l.length:=by omega
   have q3:(0:Int)<=k:=by omega
   obtain ⟨d,hd⟩:∃d,l[k]?=some d:=⟨_,List.getElem?_eq_getElem hlt⟩;obtain ⟨own,hps⟩:=HI.out;have hLr:Lay wr ao l:=(HL.out.1.below HB2.out).below (by rw [hgs];exact hps.bel);obtain ⟨ht,b,off,rfl,c0,c1,c2,c3,c4⟩:=hLr k d hd;obtain ⟨m,hm,hm4,hpe⟩:=m9 (n:=n) hd;have hrd:=hrt d (List.mem_of_getElem? hd);obtain ⟨o,ho0,ho1,ho2,_⟩:=jC (n:=n) hf k hk;have hnb:wr.heap[nb]?=some (.cells (ni (nds l).1).toArray 3 (0,0)):=(hps.bel.block nb (by have:=ap HND.out;omega)).trans HND.out;obtain ⟨b1,b2,b3,b4,b5⟩:=hps.box (.cells #[.int .u8 d.k,.string d.t,.int .i64 d.b,.int .i64 d.i,.bool d.e] 57);obtain ⟨W1,hW1⟩:∃W1,wr.alloc (.cells #[.int .u8 d.k,.string d.t,.int .i64 d.b,.int .i64 d.i,.bool d.e] 57)=W1:=⟨_,rfl⟩;rw [hW1] at b1 b2 b4 b5
   have hcell:∀V:World,W1.heap.size<=V.heap.size->V.heap[wr.heap.size]?=W1.heap[wr.heap.size]?->V.heap[nb]?=W1.heap[nb]?->(V.cell? ⟨wr.heap.size,0,none⟩=some (.int .u8 d.k)/\V.cell? ⟨wr.heap.size,1,none⟩=some (.string d.t)/\V.cell? ⟨wr.heap.size,2,none⟩=some (.int .i64 d.b)/\V.cell? ⟨wr.heap.size,3,none⟩=some (.int .i64 d.i)/\V.cell? ⟨wr.heap.size,4,none⟩=some (.bool d.e)/\V.cell? ⟨nb,k,none⟩=some (.int .i64 m)):=by
    intro V _ e1 e2;have a1:=e1.trans b2;have a2:V.heap[nb]?=some (.cells (ni (nds l).1).toArray 3 (0,0)):=e2.trans (by rw [<-hW1];exact ay hnb _);exact ⟨aa a1 rfl,aa a1 rfl,aa a1 rfl,aa a1 rfl,aa a1 rfl,aa a2 (by simp [ni,hm])⟩
   have HPUT:Hid (∀V,V=W1.drew->Da 60 #[.pointer (some ⟨g,0,none⟩),.agg #[.int .u8 d.k,.string d.t,.int .i64 d.b,.int .i64 d.i,.bool d.e],.int .i64 m] V fun e w'=>e=.returned (.tuple #[])/\Hid (∃own,PS gs w2 own w' g gs n (pst n l (k+1)))/\(w'.cell? ⟨wr.heap.size,0,none⟩=some (.int .u8 d.k)/\w'.cell? ⟨wr.heap.size,1,none⟩=some (.string d.t)/\w'.cell? ⟨wr.heap.size,2,none⟩=some (.int .i64 d.b)/\w'.cell? ⟨wr.heap.size,3,none⟩=some (.int .i64 d.i)/\w'.cell? ⟨wr.heap.size,4,none⟩=some (.bool d.e)/\w'.cell? ⟨nb,k,none⟩=some (.int .i64 m))):=by
    intro V hV;subst hV;have hd1:=b1.below (Below.refl _ W1).drew;have:=xZ hd1 (uS hrt k) (by omega) m (by omega) hn2 (by omega) d hrd (sx hf hd);refine this.mono ?_;rintro e w' ⟨rfl,own',p1,p2,p3⟩;rw [<-hpe] at p1;have x1:=p2 wr.heap.size (ap b2) b3;have hnl:nb<W1.heap.size:=by have:=ap hnb;have:=b5;omega
    have x2:w'.heap[nb]?=W1.heap[nb]?:=(p1.bel.block nb (by have:=ap HND.out;omega)).trans (b1.bel.block nb (by have:=ap HND.out;omega)).symm;exact ⟨rfl,⟨own',p1⟩,hcell w' p3 x1.1 x2⟩
   have HC1:Hid (W1.cell? ⟨wr.heap.size,0,none⟩=some (.int .u8 d.k)/\W1.cell? ⟨wr.heap.size,1,none⟩=some (.string d.t)/\W1.cell? ⟨wr.heap.size,2,none⟩=some (.int .i64 d.b)/\W1.cell? ⟨wr.heap.size,3,none⟩=some (.int .i64 d.i)/\W1.cell? ⟨wr.heap.size,4,none⟩=some (.bool d.e)/\W1.cell? ⟨nb,k,none⟩=some (.int .i64 m)):=hcell W1 (Nat.le_refl _) rfl rfl;have HW1:Hid (wr.alloc (.cells #[.int .u8 d.k,.string d.t,.int .i64 d.b,.int .i64 d.i,.bool d.e] 57)=W1):=hW1;clear HI hps hLr hpe hrd ho0 ho1 ho2 hnb b1 b2 b3 b4 b5 hW1 hcell hd hm
   go_wp2_with fail
   rw [HW1.out]
   go_region_held3 (fun w'=>w'.cell? ⟨wr.heap.size,0,none⟩=some (.int .u8 d.k)/\w'.cell? ⟨wr.heap.size,1,none⟩=some (.string d.t)/\w'.cell? ⟨wr.heap.size,2,none⟩=some (.int .i64 d.b)/\w'.cell? ⟨wr.heap.size,3,none⟩=some (.int .i64 d.i)/\w'.cell? ⟨wr.heap.size,4,none⟩=some (.bool d.e)/\w'.cell? ⟨nb,k,none⟩=some (.int .i64 m)) (first|assumption|(exact HC1.out)|go_keep) (first|(go_at_call 60;refine (HPUT.out _ rfl).mono ?_;rintro e w4 ⟨rfl,HP4,HS4⟩))
   all_goals (
    go_wp2_with fail
    exact ⟨⟨k+1,hlt,by go_num,HP4.out⟩,by simp [intOf];omega⟩)
  ·obtain rfl:k=l.length:=by omega
   have q2:¬((l.length:Int)<l.length):=by omega
   obtain ⟨own,hps⟩:=HI.out;have c1:=hps.c1
   have HT:Hid (Da 61 #[.pointer (some ⟨gs,0,none⟩)] wr fun e w'=>e=.returned (.string ⟨(eV n l).toArray⟩)/\Below w.heap.size w w'):=by
    have hbd:=uS (n:=n) hrt l.length;refine (xw hps.sk hps.en (by omega) (by have:=hbd.out;omega)).mono ?_;rintro e w' ⟨rfl,ha⟩;obtain ⟨own',p1,_⟩:=hps.sink ha;rw [yc];refine ⟨rfl,HB2.out.trans ?_⟩;have:=p1.bel;exact this.mono (by have:=HB2.out.size;omega)
   clear HI hps
   go_wp2_with (go_at_call 61;refine HT.out.mono ?_;rintro e w5 ⟨rfl,hb5⟩)
   go_ret2
   exact ⟨rfl,hb5⟩
theorem sy (n:Int) (ao:Option Addr) (l:List Dc) (cap:Nat) (w:World) (hL:Lay w ao l) (hT:Tab w) (hlen:l.length<=100000000) (hU:uds l<=268435456) :
  Da 33 #[.int .i64 n,.slice ao l.length cap] w fun e w'=>e=.returned (.tuple #[.string (fS n l).1,.int .i64 (fS n l).2])/\Below w.heap.size w w':=by
 by_cases hn:n<1\/4096<n
 ·have e:fS n l=(⟨#[]⟩,1):=if_pos hn;rw [e]
  by_cases h0:n<1
  ·have q:decide (n<1)=true:=by simp;omega
   clear hn hL hT
   go_enter Tryz.func33,Tryz.ntmps33
   go_wp2_with fail
   go_ret2
   exact ⟨rfl,Below.refl _ _⟩
  ·have h1:4096<n:=by omega
   clear hn hL hT
   go_enter Tryz.func33,Tryz.ntmps33
   go_wp2_with fail
   go_ret2
   exact ⟨rfl,Below.refl _ _⟩
 ·by_cases hf:frm 0 0 l=none
  ·have e:fS n l=(⟨(eV n.toNat l).toArray⟩,0):=by unfold fS;rw [if_neg hn,if_neg (by simp [hf])]
   rw [e];have:=uV n.toNat (by omega) (by omega) ao l cap w hL hT hlen hU hf;rw [show ((n.toNat:Nat):Int)=n by omega] at this;exact this
  ·have e:fS n l=(⟨#[]⟩,70):=by unfold fS;rw [if_neg hn,if_pos hf]
   rw [e];have h0:¬n<1:=by omega
   have h1:¬4096<n:=by omega
   have HM:=kN ao l cap w hL (by omega);rw [decide_eq_false hf] at HM;clear hn hL hT
   go_enter Tryz.func33,Tryz.ntmps33
   go_wp2_with (go_at_call 57;refine HM.mono ?_;rintro e w1 ⟨rfl,hb1⟩)
   go_ret2
   exact ⟨rfl,hb1⟩
theorem uz (ao bo:Option Addr) (a b:List Dc) (ca cb:Nat) (w:World) (hA:Lay w ao a) (hB:Lay w bo b) (ha:a.length<=9223372036854775807) (hb:b.length<=9223372036854775807) :
  Da 18 #[.slice ao a.length ca,.slice bo b.length cb] w fun e w'=>e=.returned (.bool (decide (a=b)))/\Below w.heap.size w w':=by
 obtain ⟨r,hr⟩:∃r,decide (a=b)=r:=⟨_,rfl⟩;have HR:Hid (decide (a=b)=r):=hr;rw [hr];clear hr
 by_cases hl:a.length=b.length
 ·rw [<-hl];have HLn:Hid (a.length=b.length):=hl;clear hl hb;have HA:Hid (Lay w ao a):=hA;have HB:Hid (Lay w bo b):=hB;clear hA hB
  go_enter Tryz.func18,Tryz.ntmps18
  go_wp2_with fail
  go_loopw [5] (fun i wr=>∃k:Nat,k<=a.length/\i=.int .i64 k/\Hid ((∀j,j<k->a[j]?=b[j]?)/\Below w.heap.size w wr)) (fun i _=>a.length-(intOf i).toNat)
  case atStart=>exact ⟨0,by omega,rfl,fun j hj=>by omega,Below.refl _ _⟩
  case round=>
   obtain ⟨k,hk,rfl,HI⟩:=hrel
   by_cases hlt:k<a.length
   ·have q1:(k:Int)<a.length:=by omega
    have q3:(0:Int)<=k:=by omega
    have hlt2:k<b.length:=by have:=HLn.out;omega
    obtain ⟨d,hd⟩:∃d,a[k]?=some d:=⟨_,List.getElem?_eq_getElem hlt⟩;obtain ⟨d',hd'⟩:∃d,b[k]?=some d:=⟨_,List.getElem?_eq_getElem hlt2⟩;obtain ⟨_,ba,oa,rfl,c0,c1,c2,c3,c4⟩:=(HA.out.below HI.out.2) k d hd;obtain ⟨_,bb,ob,rfl,e0,e1,e2,e3,e4⟩:=(HB.out.below HI.out.2) k d' hd'
    have HN:Hid (d≠d'->r=false):=fun h=>by
     rw [<-HR.out,decide_eq_false_iff_not];rintro rfl;rw [hd] at hd';exact h (by cases hd';rfl)
    have HE:Hid (d=d'->(∀j,j<k+1->a[j]?=b[j]?)):=fun h j hj=>by
     by_cases e:j=k
     ·subst e;rw [hd,hd',h]
     ·exact HI.out.1 j (by omega)
    have HW:Hid (Db w wr):=HI.out.2;clear HI hd hd'
    by_cases hdd:d=d'
    ·have HE':Hid (∀j,j<k+1->a[j]?=b[j]?):=HE.out hdd;subst hdd;clear HE HN;obtain ⟨dk,dt,db,di,de⟩:=d;simp only at c0 c1 c2 c3 c4 e0 e1 e2 e3 e4
     go_wp2_with fail
     go_quiet (fail)
     go_wp2_with fail
     exact ⟨⟨k+1,hlt,by go_num,HE'.out,below_drewN HW.out _⟩,by simp [intOf];omega⟩
    ·have HF:Hid (r=false):=HN.out hdd;have HD:Hid (d≠d'):=hdd;clear HE HN hdd;obtain ⟨dk,dt,db,di,de⟩:=d;obtain ⟨dk',dt',db',di',de'⟩:=d';simp only at c0 c1 c2 c3 c4 e0 e1 e2 e3 e4
     by_cases x0:dk=dk'
     ·subst x0
      by_cases x1:dt=dt'
      ·subst x1
       by_cases x2:db=db'
       ·subst x2
        by_cases x3:di=di'
        ·subst x3
         by_cases x4:de=de'
         ·subst x4;exact absurd rfl HD.out
         ·clear HD;have y4:(de == de')=false:=by simpa using x4
          go_wp2_with fail
          go_quiet (fail)
          go_wp2_with fail
          go_ret
          rw [HF.out];exact ⟨rfl,below_drewN HW.out _⟩
        ·clear HD;have y3:(di == di')=false:=by simpa using x3
         go_wp2_with fail
         go_quiet (fail)
         go_wp2_with fail
         go_ret
         rw [HF.out];exact ⟨rfl,below_drewN HW.out _⟩
       ·clear HD;have y2:(db == db')=false:=by simpa using x2
        go_wp2_with fail
        go_quiet (fail)
        go_wp2_with fail
        go_ret
        rw [HF.out];exact ⟨rfl,below_drewN HW.out _⟩
      ·clear HD;have y1:=jh x1;clear x1
       go_wp2_with fail
       go_quiet (fail)
       go_wp2_with fail
       go_ret
       rw [HF.out];exact ⟨rfl,below_drewN HW.out _⟩
     ·clear HD;have y0:(dk == dk')=false:=by simpa using x0
      go_wp2_with fail
      go_quiet (fail)
      go_wp2_with fail
      go_ret
      rw [HF.out];exact ⟨rfl,below_drewN HW.out _⟩
   ·obtain rfl:k=a.length:=by omega
    have q1:¬((a.length:Int)<a.length):=by omega
    have HT:Hid (r=true):=by
     show _=_
     rw [<-HR.out,decide_eq_true_eq]
     apply List.ext_getElem?
     intro j
     by_cases hj:j<a.length
     ·exact HI.out.1 j hj
     ·rw [List.getElem?_eq_none (by omega),List.getElem?_eq_none (by have:=HLn.out;omega)]
    have HW:Hid (Db w wr):=HI.out.2;clear HI
    go_wp2_with fail
    go_ret
    rw [HT.out];exact ⟨rfl,HW.out⟩
 ·have q0:((a.length:Int) != b.length)=true:=by
   have:¬(a.length:Int)=b.length:=by omega
   simp [bne,this]
  have HF:Hid (r=false):=by
   show _=_
   rw [<-HR.out,decide_eq_false_iff_not];rintro rfl;exact hl rfl
  clear hA hB
  go_enter Tryz.func18,Tryz.ntmps18
  go_wp2_with fail
  go_ret
  rw [HF.out];exact ⟨rfl,Below.refl _ _⟩
end Go.Proofs.YtpdlohfdjiaegaaGreatDoor.Lw
