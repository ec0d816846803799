import Derived.Deep.RegionHeld3
import Derived.Lib.Walk
import Derived.Shelf.RegionOpenPlain
import Derived.Test.YthfjlkfeeglfmaaGreatDoorM09
set_option linter.all false
set_option maxHeartbeats 2000000
set_option maxRecDepth 100000
namespace Go.Proofs.YthfjlkfeeglfmaaGreatDoor.Lw
open Go.Proofs.Tryz
open Lx
open Go.RowKit
open Go.Lib (strCells strCells_length)
def cX.take (s:cX):cX:=⟨s.fresh,s.col,s.wait,[]⟩
def tj (gs:List (Nat × Nat)):Nat->Nat
 |0=>0
 |k+1=>(gs.getD k (0,0)).1
end Go.Proofs.YthfjlkfeeglfmaaGreatDoor.Lw
namespace Go.Proofs.YthfjlkfeeglfmaaGreatDoor
open Go.Proofs.Tryz
open Lw
open Lx
open Go.RowKit
open Go.Lib (strCells strCells_length)
def oc.drop {gs:List (Nat × Nat)}{n:Nat}{f:Nat}(h:oc f gs n):∀k,k<=gs.length->oc (if k=0 then f else tj gs k) (gs.drop k) n:=by
 induction gs generalizing f with
 |nil=>intro k u;obtain rfl:k=0:=(by simpa using u);exact h
 |cons x r ih=>
  obtain⟨a,m⟩:=x;intro k u;cases k with
  |zero=>exact h
  |succ k=>
   have:=ih h.2 k (by simpa using u);simp only[TM];cases k with
   |zero=>exact this
   |succ k=>exact this
end Go.Proofs.YthfjlkfeeglfmaaGreatDoor
namespace Go.Proofs.YthfjlkfeeglfmaaGreatDoor.Lw
open Go.Proofs.Tryz
open Lx
open Go.RowKit
open Go.Lib (strCells strCells_length)
variable {w':World}{n k a U j:Nat}{l:List Dc}{o:Int}
def xL {gs:List (Nat × Nat)}{f:Nat}{t:List UInt8}(h:gs[k]?=some (a,n)):cF f (gs.drop k) t=(t.drop f).take (a-f)++(List.replicate n 32++cF a (gs.drop (k+1)) t):=by
 obtain⟨hl,u⟩:=RY.1 h;rw[Sz hl,u];rfl
def Dd {gs:List (Nat × Nat)}(h:gs[k]?=some (a,n)):tj gs (k+1)=a:=by
 show(gs.getD k (0,0)).1=a;rw[List.getD,h];rfl
def KU {gs:List (Nat × Nat)}{m:Nat}(H:oc 0 gs m) (h:gs[k]?=some (a,n)):tj gs k<=a:=by
 obtain⟨hl,G⟩:=RY.1 h;have:=H.drop k (by omega);rw[Sz hl,G]at this;have u:=this.1;cases k with
 |zero=>exact RU _
 |succ k=>simpa using u
def Tk.piece {w0:World}{g b:Nat}{bs:List UInt8}{W:World}(h:Tk w0 g b bs W) {text:List UInt8}{u cap:Nat}(M:w0.ownsRow 0 5 1 (.slice (some (Tw u 0)) text.length cap) text.length (bc text)) (f m c q:Nat) (x y:Value) (J:W.heap[q]?=some (.cells #[x,y] 129 (0,0))) (O:f+m<=text.length) (I:bs.length+m<=70368744177664) :
  Sa 50 #[.pointer (some (Tw b 0)),.slice (some (Tw u f)) m c] W λe w'=>Uk e (.tuple #[Tu m,.nilIface])/\Hid (Tk w0 g b (bs++(text.drop f).take m) w'/\w'.heap[q]?=some (.cells #[x,y] 129 (0,0)))/\w'.cell? (Tw q 0)=some x/\w'.cell? (Tw q 1)=some y:=by
 refine(h.write ((text.drop f).take m) (Tw u f) m c (by rw[Sk,Sj];omega) (uI M rfl h.lo f m) I).mono ?_;rintro e w'⟨rfl,G,H⟩;have:=H q _ _ _ J (by decide) (by decide);exact⟨rfl,⟨G,this⟩,aa this rfl,aa this rfl⟩
def Tk.builder {w0:World}{g b:Nat}{bs:List UInt8}{W:World}(h:Tk w0 g b bs W) (Y:w0.heap.size+1<=b):Lib.IsBuilder 127 5 (w0.heap.size+1) b (Lib.byteCells bs) W:=by
 obtain⟨v,u,M⟩:=h.bd;refine .inr ⟨Y,v,u.blk,?_,aF u.row u.blk (by decide)⟩;have I:=aF u.row h.hb (by decide);have Z:=u.row;refine⟨by rw[Lib.byteCells_length];simp,?_⟩;rw[Lib.byteCells_length]
 rcases Z.2 with O|⟨J,cap,H,rfl,_,Q⟩
 ·exact .inl O
 ·have S:=M J rfl;refine .inr ⟨J,cap,H,rfl,?_,Q⟩
  rcases Nat.eq_or_lt_of_le S with G|G
  ·exfalso;apply I;rw[G];rfl
  ·exact G
def O1 {own:Nat->Nat}{i:Nat}{w W:World}{g:Nat}{s:cX}{tv gv:Value}(I:W.heap[g]?=some (.cells (sk (!s.fresh) s.col s.wait tv gv) 120 (0,0))) (u:own g=i) (J:Nf own w) (H:Below w.heap.size w W) (M:g<w.heap.size):Af own i w ((W.setCell ⟨g,3,none⟩ (.slice none 0 0)).setCell ⟨g,4,none⟩ (.slice none 0 0)) g s.take:=by
 have G:Kp (λk=>k=g) w ((W.setCell ⟨g,3,none⟩ (.slice none 0 0)).setCell ⟨g,4,none⟩ (.slice none 0 0)):=((Kp.of_below H).step (Kp.set W g 3 (.slice none 0 0)) (λ_ _ h=>h)).step (Kp.set _ g 4 (.slice none 0 0)) (λ_ _ h=>h);refine⟨own,J.below G.size,G.fr (λk _ e=>by subst e;exact u) (λ_ _=>rfl),u,.slice none 0 0,.slice none 0 0,[],[],ag (ag I 3 _) 4 _,⟨SU _ _ _ _,λk h=>by cases h⟩,⟨SU _ _ _ _,λk h=>by cases h⟩,RU _,rfl,ge _,λx h=>by cases h⟩
def E6 {w:World}{B e sz:Nat}{v:Value}{xs:List Value}(h:w.ownsRow B e sz v n xs):w.ownsRow 0 e sz v n xs:=by
 refine⟨h.1,?_⟩
 rcases h.2 with G|⟨g,cap,u,rfl,_,H⟩
 ·exact .inl G
 ·exact .inr ⟨g,cap,u,rfl,RU _,H⟩
def Tk.start {w J w2:World}{g:Nat}(u:Below ((w.alloc (.cells #[.pointer (some (Tw g 0))] 62)).alloc (.cells #[.pointer none,.slice none 0 0] 127)).heap.size ((w.alloc (.cells #[.pointer (some (Tw g 0))] 62)).alloc (.cells #[.pointer none,.slice none 0 0] 127)) J)
  (Q:Lib.BuilderAt 127 5 (w.heap.size+1) (w.heap.size+1) (.pointer (some ⟨w.heap.size+1,0,none⟩)) [] w2) (G:Below (w.heap.size+1) J w2):Tk w g (w.heap.size+1) [] w2:=by
 have Z:(w.alloc (.cells #[.pointer (some (Tw g 0))] 62)).heap.size=w.heap.size+1:=RT _ _;have H:Below w.heap.size w ((w.alloc (.cells #[.pointer (some (Tw g 0))] 62)).alloc (.cells #[.pointer none,.slice none 0 0] 127)):=((gt _ w).alloc (ge _) _).alloc (by omega) _;have M:((w.alloc (.cells #[.pointer (some (Tw g 0))] 62)).alloc (.cells #[.pointer none,.slice none 0 0] 127)).heap[w.heap.size]?=some (.cells #[.pointer (some (Tw g 0))] 62 (0,0)):=gI _ _ _ _ (ak _ _);obtain⟨_,v,O,I,Y⟩:=Q;refine⟨(H.trans (u.mono H.size)).trans (G.mono (by omega)),(G.block _ (by omega)).trans (af M u),⟨v,⟨O,E6 I⟩,λk S=>?_⟩,by omega⟩;have:=(I.lt k S).1;omega
theorem ce (own:Nat->Nat) (i g:Nat) (s:cX) (w:World) (h:SK own i w g s) (hn:Nf own w) (hb:s.out.length<=8589934592) :
  Sa 21 #[.pointer (some ⟨g,0,none⟩)] w fun e w'=>e=.returned (.string ⟨s.out.toArray⟩)/\Af own i w w' g s.take:=by
 have J:=h.len;have al:=h.lab;obtain ⟨tv,gv,text,gs,Y,h2,h3,Q,h5,h6,h7⟩:=h.ex;have be:=lr Q;rw [<-h5] at be;have ah:=h2.1;have aj:=h3.1;obtain ⟨p1,c1,e1,hc1,hm1⟩:=aG ah;obtain ⟨p2,c2,e2,hc2,hm2⟩:=aG aj;obtain ⟨fr,col,wait,out⟩:=s;simp only at *
 have ax:Hid (∀W,Below w.heap.size w W->Sa 49 #[.pointer (some ⟨g,0,none⟩)] W fun e w'=>e=.returned (.int .i64 (out.length:Nat))/\Below W.heap.size W w'):=by
  intro W O;have:=EJ g (!fr) col wait tv gv text.length (bc text) gs W ((O.block g J).trans Y) (aU ah O) (aU aj O) (by omega) (by omega) (by omega);rw [show out.length=text.length+cC gs by omega];exact this
 have G3:Hid (∀W,Below w.heap.size w W->W.cell? ⟨g,3,none⟩=some tv/\W.cell? ⟨g,4,none⟩=some gv):=fun W O=>⟨aa ((O.block g J).trans Y) rfl,aa ((O.block g J).trans Y) rfl⟩
 have bp:=mkfn;subst e1 e2;have bg:Hid (w.ownsRow 0 129 2 (.slice p2 gs.length c2) gs.length (ap eg gs)):=aj;have ac:Hid (w.ownsRow 0 5 1 (.slice p1 text.length c1) text.length (bc text)):=ah;have HU:Hid (oc 0 gs text.length/\out=cF 0 gs text/\∀x∈gs,x.1<text.length):=⟨Q,h5,h7⟩
 have Z:Hid (∀(W:World),Below w.heap.size w W->W.heap[w.heap.size]?=some (.cells #[.pointer (some ⟨g,0,none⟩)] 62 (0,0))->CallsD Tryz.prog 47 #[.pointer (some ⟨w.heap.size,0,none⟩)] .returning W fun e u' w'=>u'=.returning/\(e=.returned (.tuple #[])/\Af own i w w' g (cX.take ⟨fr,col,wait,out⟩))):=by
  intro W O hh;have bd:=(O.block g J).trans Y;refine (Ie .returning (!fr) col wait w.heap.size g _ _ W bd hh ⟨_,_,_,rfl⟩ ⟨_,_,_,rfl⟩).mono ?_;rintro e u' w' ⟨rfl,rfl,rfl⟩;exact ⟨rfl,rfl,O1 (s:=⟨fr,col,wait,out⟩) bd al hn O J⟩
 have bn:gs.length<=8589934592:=by omega
 have bm:Hid (out.length=text.length+cC gs/\gs.length<=cC gs):=⟨by omega,h6⟩;clear h Y h2 h3 Q h5 h6 h7 ah aj be hn al
 go_enter_defers func21,ntmps21
 go_wp2_with fail
 have s1:(w.alloc (.cells #[.pointer (some ⟨g,0,none⟩)] 62)).heap.size=w.heap.size+1:=RT _ _;have s2:((w.alloc (.cells #[.pointer (some ⟨g,0,none⟩)] 62)).alloc (.cells #[.pointer none,.slice none 0 0] 127)).heap.size=w.heap.size+1+1:=by rw [RT,s1]
 have ba:Below w.heap.size w ((w.alloc (.cells #[.pointer (some ⟨g,0,none⟩)] 62)).alloc (.cells #[.pointer none,.slice none 0 0] 127)):=((gt _ w).alloc (ge _) _).alloc (by omega) _;have b2:((w.alloc (.cells #[.pointer (some ⟨g,0,none⟩)] 62)).alloc (.cells #[.pointer none,.slice none 0 0] 127)).heap[w.heap.size+1]?=some (.cells #[.pointer none,.slice none 0 0] 127 (0,0)):=by rw [<-s1];exact ak _ _
 refine (ax.out _ ba).mono ?_;rintro e w1 ⟨rfl,ag⟩;have aw:Hid (∀w2,Lib.BuilderAt 127 5 (w.heap.size+1) (w.heap.size+1) (.pointer (some ⟨w.heap.size+1,0,none⟩)) [] w2->Below (w.heap.size+1) w1 w2->Tk w g (w.heap.size+1) [] w2):=fun w2 a b=>Tk.start ag a b
 have HG:Hid (Sa 48 #[.pointer (some ⟨w.heap.size+1,0,none⟩),.int .i64 out.length] w1 fun e w'=>e=.returned (.tuple #[])/\(Lib.BuilderAt 127 5 (w.heap.size+1) (w.heap.size+1) (.pointer (some ⟨w.heap.size+1,0,none⟩)) [] w'/\Below (w.heap.size+1) w1 w')):=
  PQ _ _ _ w1 (ge _) (af b2 ag) (by have:=ag.size;omega) (by omega)
 clear s1 s2 ba b2 ag ax
 go_wp2_with fail
 refine HG.out.mono ?_;rintro e w2 ⟨rfl,hB,az⟩;have HT:Hid (Tk w g (w.heap.size+1) [] w2):=aw.out w2 hB az;clear aw HG hB az;have g4:=(G3.out w2 HT.out.lo).2;have g5:w2.cell? ⟨w.heap.size,0,none⟩=some (.pointer (some ⟨g,0,none⟩)):=aa HT.out.hb rfl
 go_wp2_with fail
 go_loopw [4,18] (fun f j wr=>∃k:Nat,k<=gs.length/\f=.int .i64 (tj gs k)/\j=.int .i64 k/\Hid (∃bs,Tk w g (w.heap.size+1) bs wr/\bs++cF (tj gs k) (gs.drop k) text=out)) (fun _ j _=>gs.length-(intOf j).toNat)
 case atStart=>exact ⟨0,by omega,rfl,rfl,[],HT.out,HU.out.2.1.symm⟩
 case round=>
  obtain ⟨k,hk,rfl,rfl,HI⟩:=hrel;clear HT g4 g5
  by_cases J:k<gs.length
  ·obtain ⟨⟨a,z⟩,hx⟩:∃x,gs[k]?=some x:=⟨gs[k],Pi J⟩;obtain ⟨gb,gcap,he,hgc,x1,x2⟩:=qZ bg.out k (a,z) hx;injection he with e1 e2 e3
   subst e1;have bi:=HU.out.2.2 (a,z) (SF hx);simp only at x1 x2 bi;have bj:=KU HU.out.1 hx;have bb:=Dd hx
   obtain ⟨S,rfl⟩:∃S,p1=some ⟨S,0,none⟩:=by
    rcases ac.out.2 with ⟨h,h0⟩|⟨S,cap,bh,h,_⟩
    ·omega
    ·injection h with h _ _;exact ⟨S,h⟩
   obtain ⟨bs,I,H⟩:=HI.out;rw [xL hx] at H;have y1:=(I.lo.cell (p:=⟨gb,k*2,none⟩) (RV _ _ x1)).trans x1;have y2:=(I.lo.cell (p:=⟨gb,k*2+1,none⟩) (RV _ _ x2)).trans x2;have q1:(k:Int)<gs.length:=by omega
   obtain ⟨f,hf⟩:∃f,tj gs k=f:=⟨_,rfl⟩;rw [hf] at bj H ⊢;obtain ⟨V,hV⟩:∃V,V=wr.alloc (.cells #[.int .i64 a,.int .i64 z] 129):=⟨_,rfl⟩;have au:V.heap[wr.heap.size]?=some (.cells #[.int .i64 a,.int .i64 z] 129 (0,0)):=by rw [hV];exact ak _ _
   have ae:Tk w g (w.heap.size+1) bs V:=I.below (by rw [hV];exact (gt _ _).alloc (ge _) _)
   have am:out.length=bs.length+(a-f)+z+(cF a (gs.drop (k+1)) text).length:=by
    rw [<-H];simp only [IO,Sk,Sj,SP];omega
   have HP:Hid (Sa 50 #[.pointer (some ⟨w.heap.size+1,0,none⟩),.slice (some ⟨S,f,none⟩) (a-f) (c1-f)] V.drew fun e w'=>e=.returned (.tuple #[.int .i64 (a-f:Nat),.nilIface])/\Hid (Tk w g (w.heap.size+1) (bs++(text.drop f).take (a-f)) w'/\w'.heap[wr.heap.size]?=some (.cells #[.int .i64 a,.int .i64 z] 129 (0,0)))/\(w'.cell? ⟨w.heap.size,0,none⟩=some (.pointer (some ⟨g,0,none⟩))/\w'.cell? ⟨g,3,none⟩=some (.slice (some ⟨S,0,none⟩) text.length c1)/\w'.cell? ⟨wr.heap.size,0,none⟩=some (.int .i64 a))/\w'.cell? ⟨wr.heap.size,1,none⟩=some (.int .i64 z)):=by
    refine (Tk.piece (W:=V.drew) (ae.below (VF (gt _ _))) ac.out f (a-f) (c1-f) wr.heap.size _ _ au (by omega) (by omega)).mono ?_;rintro e w' ⟨rfl,HK,k0,k1⟩;exact ⟨rfl,HK,⟨aa HK.out.1.hb rfl,(G3.out w' HK.out.1.lo).1,k0⟩,k1⟩
   have v1:V.cell? ⟨w.heap.size,0,none⟩=some (.pointer (some ⟨g,0,none⟩)):=aa ae.hb rfl;have v2:=(G3.out V ae.lo).1;have v3:V.cell? ⟨wr.heap.size,0,none⟩=some (.int .i64 a):=aa au rfl;have G:Hid (bs++(List.take (a-f) (List.drop f text)++(List.replicate z 32++cF a (List.drop (k+1) gs) text))=out/\out.length=bs.length+(a-f)+z+(cF a (gs.drop (k+1)) text).length/\tj gs (k+1)=a):=⟨H,am,bb⟩;have ay:Hid (V=wr.alloc (.cells #[.int .i64 a,.int .i64 z] 129)):=hV;clear hV au ae I H am HI x1 x2 hx hf bb e3
   go_wp2_with fail
   rw [<-ay.out];have i1:(f:Int)<=a:=by omega
   have i2:(a:Int)<=c1:=by omega
   have i3:f<c1:=by omega
   have i4:a<=c1:=by omega
   have i5:¬(c1-f=0):=by omega
   have i6:(0:Int)<=f:=by omega
   have i7:¬(c1=f):=by omega
   go_region_held3 (fun w'=>w'.cell? ⟨w.heap.size,0,none⟩=some (.pointer (some ⟨g,0,none⟩))/\w'.cell? ⟨g,3,none⟩=some (.slice (some ⟨S,0,none⟩) text.length c1)/\w'.cell? ⟨wr.heap.size,0,none⟩=some (.int .i64 a)) (first|assumption|(exact ⟨v1,v2,v3⟩)|go_keep) (first|(go_at_call 50;(try rw [Eq i7]);refine HP.out.mono ?_;rintro e w3 ⟨rfl,aq,z0,z1⟩))
   clear HP v1 v2 v3 z0 ay;have hz:z<=8589934592:=by have:=G.out.2.1;omega
   go_wp2_with fail
   refine (JY z w3 hz).mono ?_;rintro e w4 ⟨rfl,av⟩;have ar:Hid (Tk w g (w.heap.size+1) (bs++(text.drop f).take (a-f)) w4/\w4.heap[wr.heap.size]?=some (.cells #[.int .i64 a,.int .i64 z] 129 (0,0))):=⟨aq.out.1.below av,af aq.out.2 av⟩
   have HW:Hid (Sa 51 #[.pointer (some ⟨w.heap.size+1,0,none⟩),.string (nZ z)] w4 fun e w'=>e=.returned (.tuple #[.int .i64 z,.nilIface])/\Hid (Tk w g (w.heap.size+1) ((bs++(text.drop f).take (a-f))++List.replicate z 32) w')/\w'.cell? ⟨wr.heap.size,0,none⟩=some (.int .i64 a)):=by
    refine (ar.out.1.wstr (nZ z) (by rw [kZ,IO,Sk];have:=G.out.2.1;omega)).mono ?_;rintro e w' ⟨rfl,Y,h2⟩;exact ⟨by rw [kZ],Y,aa (h2 _ _ _ _ ar.out.2 (by decide) (by decide)) rfl⟩
   clear av aq z1 ar
   go_wp2_with fail
   refine HW.out.mono ?_;rintro e w5 ⟨rfl,M,u0⟩;clear HW
   go_wp2_with fail
   refine ⟨⟨k+1,J,by rw [G.out.2.2],by go_num,_,M.out,?_⟩,by simp [intOf];omega⟩;rw [G.out.2.2];have:=G.out.1;simp only [RW] at this ⊢;exact this
  ·obtain rfl:k=gs.length:=by omega
   obtain ⟨bs,I,H⟩:=HI.out
   have bk:tj gs gs.length<=text.length:=by
    have:=(HU.out.1.drop gs.length (ge _)).le
    split at this
    ·rename_i h0;rw [h0];exact RU _
    ·exact this
   rw [T7] at H;have q1:¬((gs.length:Int)<gs.length):=by omega
   obtain ⟨f,hf⟩:∃f,tj gs gs.length=f:=⟨_,rfl⟩;rw [hf] at bk H ⊢;have G:Hid (bs++text.drop f=out):=H;have v1:wr.cell? ⟨w.heap.size,0,none⟩=some (.pointer (some ⟨g,0,none⟩)):=aa I.hb rfl;have v2:=(G3.out wr I.lo).1;have ad:Hid (Tk w g (w.heap.size+1) bs wr):=I;clear I HI H hf
   have ab:Hid (∀W,Tk w g (w.heap.size+1) out W->Sa 53 #[.pointer (some ⟨w.heap.size+1,0,none⟩)] W fun e w'=>e=.returned (.string ⟨out.toArray⟩)/\Hid (Below w.heap.size w w'/\w'.heap[w.heap.size]?=some (.cells #[.pointer (some ⟨g,0,none⟩)] 62 (0,0)))):=by
    intro W O;have hsz:=ai O.hb;refine (LE (w.heap.size+1) (w.heap.size+1) out W (O.builder (ge _)) (by omega)).mono ?_;rintro e w' ⟨rfl,hb⟩;exact ⟨rfl,O.lo.trans (hb.mono (by omega)),(hb.block _ (by omega)).trans O.hb⟩
   rcases ac.out.2 with ⟨h,h0⟩|⟨S,cap,bh,h,_⟩
   ·injection h with Y h2 h3
    subst Y;subst h3;obtain rfl:f=0:=by omega
    have KW:Hid (Sa 50 #[.pointer (some ⟨w.heap.size+1,0,none⟩),.slice none 0 0] wr fun e w'=>e=.returned (.tuple #[.int .i64 0,.nilIface])/\Hid (Tk w g (w.heap.size+1) out w')):=by
     refine ad.out.write_none.mono ?_;rintro e w' ⟨rfl,Q,_⟩;have:bs++[]=out:=by rw [<-G.out,R6 h0];rfl
     rw [this] at Q;exact ⟨rfl,Q⟩
    rw [h0] at v2
    go_wp2_with fail
    refine KW.out.mono ?_;rintro e w5 ⟨rfl,M⟩;clear v1 v2 KW
    go_wp2_with fail
    refine (ab.out w5 M.out).mono ?_;rintro e w6 ⟨rfl,H6⟩
    go_wp2_with fail
    refine UY (f:=47) (args:=#[.pointer (some ⟨w.heap.size,0,none⟩)]) (by simp) (by simp [go_sem]) ?_;refine (Z.out w6 H6.out.1 H6.out.2).mono ?_;rintro e u' bf ⟨rfl,rfl,hA⟩;exact ⟨_,VM rfl _ _ _,rfl,hA⟩
   ·injection h with Y h2 h3
    subst Y;clear h2 h3;have i1:(f:Int)<=text.length:=by omega
    have i2:(text.length:Int)<=c1:=by omega
    have i3:f<=c1:=by omega
    have bo:bs.length+(text.length-f)<=8589934592:=by
     have:(bs++text.drop f).length=out.length:=by rw [G.out]
     rw [IO,Sj] at this;omega
    by_cases hc:c1=f
    ·have KW:Hid (Sa 50 #[.pointer (some ⟨w.heap.size+1,0,none⟩),.slice (some ⟨S,0,none⟩) (text.length-f) 0] wr fun e w'=>e=.returned (.tuple #[.int .i64 (text.length-f:Nat),.nilIface])/\Hid (Tk w g (w.heap.size+1) out w')):=by
      obtain rfl:f=text.length:=by omega
      refine (ad.out.write [] ⟨S,0,none⟩ (text.length-text.length) 0 (by simp) (fun j u h=>by simp [bc] at h) (by omega)).mono ?_;rintro e w' ⟨rfl,Q,_⟩;have h5:=G.out;rw [T7] at h5;rw [h5] at Q;exact ⟨rfl,Q⟩
     go_wp2_with fail
     refine KW.out.mono ?_;rintro e w5 ⟨rfl,M⟩;clear v1 v2 KW
     go_wp2_with fail
     refine (ab.out w5 M.out).mono ?_;rintro e w6 ⟨rfl,H6⟩
     go_wp2_with fail
     refine UY (f:=47) (args:=#[.pointer (some ⟨w.heap.size,0,none⟩)]) (by simp) (by simp [go_sem]) ?_;refine (Z.out w6 H6.out.1 H6.out.2).mono ?_;rintro e u' bf ⟨rfl,rfl,hA⟩;exact ⟨_,VM rfl _ _ _,rfl,hA⟩
    ·have KW:Hid (Sa 50 #[.pointer (some ⟨w.heap.size+1,0,none⟩),.slice (some ⟨S,f,none⟩) (text.length-f) (c1-f)] wr fun e w'=>e=.returned (.tuple #[.int .i64 (text.length-f:Nat),.nilIface])/\Hid (Tk w g (w.heap.size+1) out w')):=by
      have an:=uI ac.out rfl ad.out.lo f (text.length-f);rw [S5 (by rw [Sj];omega)] at an;refine (ad.out.write (text.drop f) ⟨S,f,none⟩ (text.length-f) (c1-f) (by rw [Sj]) an (by omega)).mono ?_;rintro e w' ⟨rfl,Q,_⟩;rw [G.out] at Q;exact ⟨rfl,Q⟩
     go_wp2_with fail
     refine KW.out.mono ?_;rintro e w5 ⟨rfl,M⟩;clear v1 v2 KW
     go_wp2_with fail
     refine (ab.out w5 M.out).mono ?_;rintro e w6 ⟨rfl,H6⟩
     go_wp2_with fail
     refine UY (f:=47) (args:=#[.pointer (some ⟨w.heap.size,0,none⟩)]) (by simp) (by simp [go_sem]) ?_;refine (Z.out w6 H6.out.1 H6.out.2).mono ?_;rintro e u' bf ⟨rfl,rfl,hA⟩;exact ⟨_,VM rfl _ _ _,rfl,hA⟩
def cX.blanks (s:cX) (n:Nat):cX:={ s with wait:=s.wait+n }
structure En (own:Nat->Nat) (w:World):Prop where
 nf:Nf own w
 tab:gj w
 z:own 2=0
def gj.pos {w:World}(h:gj w):2<w.heap.size:=RV w _ (h 0 (by omega)).1
def En.fr {own own':Nat->Nat}{w:World}{i:Nat}(h:En own w) (G:i≠0) (H:Nf own' w') (u:Fr i own own' w w'):En own' w':=
 ⟨H,u.tab h.tab (by rw[h.z];exact λe=>G e.symm),(u.old 2 h.tab.pos).trans h.z⟩
def En.below {own:Nat->Nat}{w:World}(h:En own w) (u:Below w.heap.size w w'):En own w':=⟨h.nf.below u.size,h.tab.below u,h.z⟩
def Ae (own:Nat->Nat) (i:Nat) (w w':World) (g:Nat) (s:cX):Prop:=∃own',En own' w'/\Fr i own own' w w'/\SK own' i w' g s
def Af.ae {own:Nat->Nat}{i:Nat}{w:World}{g:Nat}{s:cX}(h:Af own i w w' g s) (I:En own w) (J:i≠0):Ae own i w w' g s:=by
 obtain⟨own',G,u,H⟩:=h;exact⟨own',I.fr J G u,u,H⟩
def MX:cX:=⟨true,0,0,[]⟩
def ND (own:Nat->Nat) (i:Nat) (w:World) (H:En own w) (J:i≠0):Sa 19 #[] w λe w'=>Uk e (.pointer (some ⟨w.heap.size,0,none⟩))/\Ae own i w w' w.heap.size MX:=by
 refine(AC w).mono ?_;rintro e w'⟨rfl,rfl⟩;have u:Below w.heap.size w (w.alloc (.cells (sk false 0 0 (.slice none 0 0) (.slice none 0 0)) 120)):=(gt _ _).alloc (ge _) _;have M:(w.alloc (.cells (sk false 0 0 (.slice none 0 0) (.slice none 0 0)) 120)).heap.size=w.heap.size+1:=RT _ _;have I:Fr i own (λk=>if k=w.heap.size then i else own k) w (w.alloc (.cells (sk false 0 0 (.slice none 0 0) (.slice none 0 0)) 120)):=⟨u.os,u.tape,u.output,u.size,λk G _=>u.block k G,λk G=>Eq (by omega)⟩;refine⟨rfl,_,H.fr J ?_ I,I,Or rfl,.slice none 0 0,.slice none 0 0,[],[],ak _ _,⟨SU _ _ _ _,λk h=>by cases h⟩,⟨SU _ _ _ _,λk h=>by cases h⟩,RU _,rfl,ge _,λx h=>by cases h⟩;intro k G;rw[M]at G;show(if k=w.heap.size then i else own k)=0;rw[Eq (by omega)];exact H.nf k (by omega)
section
variable {own:Nat->Nat} {i:Nat} {g:Nat} {s:cX} {w:World}
def zB (h:SK own i w g s) (u:En own w) (J:i≠0) (t:ByteArray) (I:s.out.length+s.col+s.wait+t.size<=8589934592) :
  Sa 41 #[.pointer (some (Tw g 0)),.string t] w λe w'=>Uk e (Tu 0)/\Ae own i w w' g (s.text t):=
 (Eg own i g s t w h u.nf u.tab I).mono λe w' ⟨G,H⟩=>⟨G,H.ae u J⟩
def AX (h:SK own i w g s) (u:En own w) (J:i≠0) (c:Nat) (hc:c<=1048576) (I:s.out.length<=8589934592) :
  Sa 95 #[.pointer (some (Tw g 0)),Tu c] w λe w'=>Uk e (Tu 0)/\Ae own i w w' g (s.feed c):=
 (GP own i g s c w h u.nf hc I).mono λe w' ⟨G,H⟩=>⟨G,H.ae u J⟩
def wS (h:SK own i w g s) (u:En own w) (J:i≠0) (I:s.out.length<=8589934592) :
  Sa 45 #[.pointer (some (Tw g 0))] w λe w'=>Uk e (Tu 0)/\Ae own i w w' g s.empty:=
 (Dv own i g s w h u.nf I).mono λe w' ⟨G,H⟩=>⟨G,H.ae u J⟩
def zE (h:SK own i w g s) (u:En own w) (J:i≠0) (I:s.out.length<=8589934592) :
  Sa 21 #[.pointer (some (Tw g 0))] w λe w'=>Uk e (.string ⟨s.out.toArray⟩)/\Ae own i w w' g s.take:=
 (ce own i g s w h u.nf I).mono λe w' ⟨G,H⟩=>⟨G,H.ae u J⟩
def rD (h:SK own i w g s) (O:En own w) (Y:i≠0) (n:Nat) (hn:n<=1048576) (hb:s.wait<=8589934592) :
  Sa 94 #[.pointer (some (Tw g 0)),Tu n] w λe w'=>Uk e (Tu 0)/\Ae own i w w' g (s.blanks n):=by
 obtain⟨tv,gv,text,gs,u,J,M,S⟩:=h.ex;refine(yV g (!s.fresh) s.col s.wait n tv gv w u (by omega) (by omega) (by omega) (by omega)).mono ?_;rintro e w'⟨rfl,rfl⟩;have G:=Kp.set w g 2 (Tu ((s.wait:Int)+n));have Q:Fr i own own w (w.setCell ⟨g,2,none⟩ (Tu ((s.wait:Int)+n))):=G.fr (λk _ e=>by subst e;exact h.lab) (λ_ _=>rfl);have Z:=aF J.1 u (by decide);have r2:=aF M.1 u (by decide);refine⟨rfl,own,O.fr Y (O.nf.below G.size) Q,Q,h.lab,tv,gv,text,gs,?_,⟨G.row J.1 (λk H I=>Z (by rw[H,I])),J.2⟩,⟨G.row M.1 (λk H I=>r2 (by rw[H,I])),M.2⟩,S⟩;exact ag u 2 _
def rA (h:SK own i w g s) (G:s.col<=8589934592) (H:s.wait<=8589934592) :
  Sa 97 #[.pointer (some (Tw g 0))] w λe w'=>Uk e (Tu ((s.col:Int)+s.wait))/\Se w w':=by
 obtain⟨tv,gv,text,gs,u,_⟩:=h.ex;exact yP g (!s.fresh) s.col s.wait tv gv w u (by omega) (by omega) (by omega) (by omega)
def pu (h:SK own i w g s) :
  Sa 93 #[.pointer (some (Tw g 0))] w λe w'=>Uk e (.bool s.fresh)/\w'=w:=by
 obtain⟨tv,gv,text,gs,u,_⟩:=h.ex;have:=De g (!s.fresh) s.col s.wait tv gv w u
 simpa using this
end
def lQ (t:ByteArray):Bool:=decide ((10:UInt8)∈t.data.toList)
def pw (d:Dc):Nat:=if d.k=1 then(if lQ d.t then 4097 else(tw d.t).toNat)else if d.k=2 then 1 else if d.k=3 then d.b.toNat else if d.k=4\/d.k=5 then 4097 else 0
structure Sp where
 all:Nat
 hang:Nat
 deriving DecidableEq
def Sp.wid (s:Sp) (c:Nat):Sp:=⟨min (s.all+c) 4097,min (s.hang+c) 4097⟩
def bL (d:Dc) (s:Sp × List Sp):Nat × Sp × List Sp:=
 if d.k=7 then(0,⟨0,0⟩,s.1 :: s.2)
 else if d.k=6 then(s.1.all,(s.2.headD ⟨0,0⟩).wid s.1.all,s.2.tail)
 else if d.k=3 then((s.1.wid (pw d)).hang,⟨(s.1.wid (pw d)).all,0⟩,s.2)
 else if d.k=4\/d.k=5 then(0,⟨(s.1.wid (pw d)).all,0⟩,s.2)
 else(0,s.1.wid (pw d),s.2)
def aX:List Dc->List Nat × Sp × List Sp
 |[]=>([],⟨0,0⟩,[])
 |d :: r=>((bL d (aX r).2).1 :: (aX r).1,(bL d (aX r).2).2)
def nG:∀l,(aX l).1.length=l.length
 |[]=>rfl
 |d :: r=>by simp[aX,nG r]
def oX:∀(l:List Dc) (i:Nat),(aX (l.drop i)).1=(aX l).1.drop i
 |l,0=>by simp
 |[],i+1=>by simp[aX]
 |d :: r,i+1=>by simp[aX,oX r i]
def oi (s:Sp) (c:Nat):(s.wid c).all<=4097/\(s.wid c).hang<=4097:=by simp only[Sp.wid];omega
def Sb (s:Sp):Prop:=s.all<=4097/\s.hang<=4097
def Jq (d:Dc) (s:Sp × List Sp) (h:Sb s.1) (u:∀x∈s.2,Sb x):(bL d s).1<=4097/\Sb (bL d s).2.1/\∀x∈(bL d s).2.2,Sb x:=by
 unfold bL
 repeat' split
 ·refine⟨RU _,⟨RU _,RU _⟩,?_⟩;intro x G
  rcases Sm.1 G with rfl|G
  ·exact h
  ·exact u x G
 ·exact⟨h.1,oi _ _,λx G=>u x (Vz G)⟩
 ·exact⟨(oi _ _).2,⟨(oi _ _).1,RU _⟩,u⟩
 ·exact⟨RU _,⟨(oi _ _).1,RU _⟩,u⟩
 ·exact⟨RU _,oi _ _,u⟩
def oY:∀l,(∀x∈(aX l).1,x<=4097)/\Sb (aX l).2.1/\∀x∈(aX l).2.2,Sb x
 |[]=>⟨by simp[aX],⟨RU _,RU _⟩,by simp[aX]⟩
 |d :: r=>by
  obtain⟨G,H,I⟩:=oY r;obtain⟨k1,k2,k3⟩:=Jq d (aX r).2 H I;refine⟨?_,k2,k3⟩;intro x u
  rcases Sm.1 u with rfl|u
  ·exact k1
  ·exact G x u
def vZ:∀(l:List Dc) (o:Int) (j:Nat),0<=o->bQ o j l=none->((aX l).2.2.length:Int)=o
 |[],o,j,ho,h=>by
  simp only[bQ]at h
  split at h
  ·cases h
  ·show(0:Int)=o;omega
 |d :: r,o,j,ho,h=>by
  simp only[bQ]at h
  split at h
  ·rename_i hc
   have u:=vZ r _ _ hc.2 h;show((bL d (aX r).2).2.2.length:Int)=o;unfold bL;unfold cq at u
   split
   ·rename_i H
    rw[Eq (by omega),Or H]at u;show(((aX r).2.2.length+1:Nat):Int)=o;omega
   ·rename_i H
    split
    ·rename_i G
     rw[Or G]at u;show((aX r).2.2.tail.length:Int)=o;rw[Vw];omega
    ·rename_i G
     rw[Eq G,Eq H]at u
     repeat' split
     all_goals(show((aX r).2.2.length:Int)=o;omega)
  ·cases h
structure Bk where
 ind:Nat
 ev:Bool
 ft:Bool
structure Pr where
 sk:cX
 bl:Bk
 ar:List Bk
 en:Bool
def Pr.at (p:Pr):Nat:=p.sk.col+p.sk.wait
def Pr.fits (n need:Nat) (p:Pr):Bool:=decide (need+p.at<=n)
def Pr.hold (p:Pr) (m:Nat):Pr:=if p.sk.fresh then p else { p with sk:=p.sk.blanks m }
def Pr.endl (p:Pr):Pr:=if p.sk.fresh then p else { p with sk:=p.sk.feed p.bl.ind,en:=true }
def Pr.brk (n need:Nat) (p:Pr):Bool:=if p.bl.ev then !p.bl.ft else !p.fits n need
def put (n:Nat) (d:Dc) (need:Nat) (p:Pr):Pr:=
 if d.k=1 then { p with sk:=p.sk.text d.t,en:=false }
 else if d.k=2 then p.hold 1
 else if d.k=3 then(if p.brk n need then p.endl else p.hold d.b.toNat)
 else if d.k=4 then p.endl
 else if d.k=5 then(if p.en then { p with sk:=p.sk.empty,en:=false }else p)
 else if d.k=6 then { p with ar:=p.bl :: p.ar,bl:=⟨min (p.bl.ind+d.i.toNat) 1000,d.e,p.fits n need⟩ }
 else if d.k=7 then { p with bl:=p.ar.headD ⟨0,false,false⟩,ar:=p.ar.tail }
 else p
def mU (n:Nat):List Dc->List Nat->Pr->Pr
 |d :: r,m :: ms,p=>mU n r ms (put n d m p)
 |_,_,p=>p
def pV:Pr:=⟨MX,⟨0,false,false⟩,[],false⟩
def lq (n:Nat) (l:List Dc):List UInt8:=(mU n l (aX l).1 pV).sk.out
def mQ (n:Int) (l:List Dc):ByteArray × Int:=if n<1\/4096<n then(⟨#[]⟩,1)else if bQ 0 0 l≠none then(⟨#[]⟩,70)else(⟨(lq n.toNat l).toArray⟩,0)
def ud (d:Dc):Nat:=2*d.t.size+(if d.k=6\/d.k=7 then 0 else 1001)
def fF (l:List Dc):Nat:=(l.map ud).sum
structure Bp (p:Pr) (U:Nat):Prop where
 out:p.sk.out.length+p.sk.wait+(if p.sk.fresh then p.sk.col else 0)<=U
 col:p.sk.col+p.sk.wait<=U
 ind:p.bl.ind<=1000
 ar:∀b∈p.ar,b.ind<=1000
 wt:p.sk.fresh=true->p.sk.wait=0
def RO:Bp pV 0:=⟨by simp[pV,MX],by simp[pV,MX],by simp[pV],by simp[pV],λ_=>rfl⟩
def Bp.mono {p:Pr}{V:Nat}(h:Bp p U) (u:U<=V):Bp p V:=⟨PI h.out u,PI h.col u,h.ind,h.ar,h.wt⟩
def Bp.hold {p:Pr}(h:Bp p U) (m:Nat):Bp (p.hold m) (U+m):=by
 unfold Pr.hold
 split
 ·exact h.mono (by omega)
 ·rename_i u
  have G:=h.out;have H:=h.col;refine⟨?_,?_,h.ind,h.ar,λe=>absurd e u⟩
  ·show p.sk.out.length+(p.sk.wait+m)+(if p.sk.fresh then p.sk.col else 0)<=_;omega
  ·show p.sk.col+(p.sk.wait+m)<=_;omega
def Bp.endl {p:Pr}(h:Bp p U):Bp p.endl (U+1001):=by
 unfold Pr.endl
 split
 ·exact h.mono (by omega)
 ·rename_i I
  have u:=h.out;have G:=h.col;have H:=h.ind;refine⟨?_,?_,h.ind,h.ar,λ_=>rfl⟩
  ·show(p.sk.out++[10]).length+0+p.bl.ind<=_;rw[IO];simp only[List.length_cons,List.length_nil];omega
  ·show p.bl.ind+0<=_;omega
def Fp {n need U:Nat}{d:Dc}{p:Pr}(hd:rt d=true) (h:Bp p U):Bp (put n d need p) (U+ud d):=by
 have u:=h.out;have I:=h.col;have J:=h.ind;cases gu hd with
 |text t hq=>
  have O:=(fN hq).1;refine⟨?_,?_,h.ind,h.ar,?_⟩
  ·show(p.sk.text t).out.length+(p.sk.text t).wait+(if(p.sk.text t).fresh then(p.sk.text t).col else 0)<=U+ud ⟨1,t,0,0,false⟩;unfold cX.text ud;rw[Eq (by omega)];have e:t.data.toList.length=t.size:=by rw[Tb];rfl
   simp only[IO,SP,e];cases H:p.sk.fresh
   ·rw[H]at u;simp at u ⊢;omega
   ·rw[H]at u;simp at u ⊢;omega
  ·show(p.sk.text t).col+(p.sk.text t).wait<=U+ud ⟨1,t,0,0,false⟩;unfold cX.text ud;rw[Eq (by omega)];have:=AE p.sk.col p.sk.wait t;show(kA p.sk.col p.sk.wait t).toNat+0<=_;simp;omega
  ·intro e
   exfalso
   have:(p.sk.text t).fresh=true:=e;unfold cX.text at this;rw[Eq (by omega)]at this;cases this
 |brk m hq=>
  obtain⟨Q,S⟩:=im hq;show Bp (if p.brk n need then p.endl else p.hold m.toNat) _
  split
  ·exact h.endl.mono (by simp[ud,bE])
  ·exact(h.hold _).mono (by simp[ud,bE];omega)
 |beg m e hq=>
  refine⟨PI u (by omega),PI I (by omega),?_,?_,h.wt⟩
  ·show min (p.bl.ind+m.toNat) 1000<=1000;omega
  ·intro b G
   rcases Sm.1 G with rfl|G
   ·exact J
   ·exact h.ar b G
 |blank=>exact(h.hold 1).mono (by simp[ud,bE])
 |hard=>exact h.endl.mono (by simp[ud,bE])
 |empty=>
  show Bp (if p.en then { p with sk:=p.sk.empty,en:=false }else p) _
  split
  ·unfold cX.empty
   split
   ·rename_i H
    rw[Or H]at u;refine⟨?_,?_,J,h.ar,λ_=>rfl⟩
    ·show(p.sk.out++[10]).length+0+p.sk.col<=_;rw[IO];simp[ud,bE];omega
    ·show p.sk.col+0<=_;omega
   ·rename_i H
    exact⟨PI u (by omega),PI I (by omega),J,h.ar,h.wt⟩
  ·exact h.mono (by omega)
 | «end»=>
  refine⟨PI u (by omega),PI I (by omega),?_,λb G=>h.ar b (Vz G),h.wt⟩;show(p.ar.headD ⟨0,false,false⟩).ind<=1000;cases M:p.ar with
  |nil=>simp
  |cons b r=>exact h.ar b (by rw[M];exact RZ)
def Ai {n:Nat}:∀(l:List Dc) (ms:List Nat) (p:Pr) (U:Nat),(∀d∈l,rt d=true)->Bp p U->Bp (mU n l ms p) (U+fF l)
 |[],ms,p,U,_,h=>by simpa[mU,fF]using h
 |d :: r,[],p,U,_,h=>h.mono (by omega)
 |d :: r,m :: ms,p,U,hr,h=>by
  have:=Ai (n:=n) r ms _ _ (λx u=>hr x (R1 _ u)) (Fp (n:=n) (need:=m) (hr d RZ) h);have e:U+fF (d :: r)=U+ud d+fF r:=by simp[fF];omega
  rw[e];exact this
def vA {n need:Nat}{d:Dc}{p:Pr}(hd:rt d=true) {o:Int}(h:(p.ar.length:Int)=o) (u:0<=o+cq d.k):((put n d need p).ar.length:Int)=o+cq d.k:=by
 cases gu hd with
 |text t hq=>simpa[put,cq]using h
 |brk m hq=>
  have:((put n ⟨3,bE,m,0,false⟩ need p).ar)=p.ar:=by
   show(if p.brk n need then p.endl else p.hold m.toNat).ar=p.ar;unfold Pr.endl Pr.hold
   repeat' split
   all_goals rfl
  rw[this];simpa[cq]using h
 |beg m e hq=>
  show(((p.bl :: p.ar).length:Nat):Int)=o+1;simp;omega
 |blank=>
  have:(p.hold 1).ar=p.ar:=by unfold Pr.hold;split<;>rfl
  show((p.hold 1).ar.length:Int)=o+0;rw[this];omega
 |hard=>
  have:p.endl.ar=p.ar:=by unfold Pr.endl;split<;>rfl
  show(p.endl.ar.length:Int)=o+0;rw[this];omega
 |empty=>
  have:(if p.en then { p with sk:=p.sk.empty,en:=false }else p).ar=p.ar:=by split<;>rfl
  show(((if p.en then { p with sk:=p.sk.empty,en:=false }else p).ar.length:Nat):Int)=o+0;rw[this];omega
 | «end»=>
  show((p.ar.tail.length:Nat):Int)=o+-1;have:0<=o+-1:=u;rw[Vw];omega
def kK {d:Dc}(H:l[j]?=some d):bQ o j (l.drop j)=if rt d=true/\0<=o+cq d.k then bQ (o+cq d.k) (j+1) (l.drop (j+1))else some j:=by
 obtain⟨u,G⟩:=RY.1 H;rw[Sz u,G];rfl
def AW (u:l.length<=j):bQ o j (l.drop j)=if 0<o then some j else none:=by
 rw[S4 u];rfl
def LD:Option Nat->Int × Int
 |some j=>(70,(j:Int))
 |none=>(0,0)
def If (h:¬2097152<l.length):ka l=LD (bQ 0 0 l):=by
 unfold ka;rw[Eq h];cases bQ 0 0 l<;>rfl
def rB (ao:Option Addr) (l:List Dc) (cap:Nat) (w:World) (hL:Lay w ao l) (hn:l.length<=9223372036854775807) :
  Sa 54 #[.slice ao l.length cap] w λe w'=>Uk e (.tuple #[Tu (ka l).1,Tu (ka l).2])/\Below w.heap.size w w':=by
 by_cases hm:2097152<l.length
 ·have q0:(2097152:Int)<l.length:=by omega
  have HC:Hid (ka l=(2,0)):=by show _=_;unfold ka;rw[Or hm]
  go_enter func54,ntmps54;(go_wp2_with fail)
  go_ret2;rw[HC.out];exact⟨rfl,gt _ _⟩
 have q0:¬(2097152:Int)<l.length:=by omega
 have HC:=aW (If hm);have HL:=aW hL;clear hL;go_enter func54,ntmps54;(go_wp2_with fail)
 go_loopw [4,12] (λo j wr=>∃(k:Nat) (z:Int),k<=l.length/\o=Tu z/\j=Tu k/\0<=z/\z<=k/\Hid (bQ z k (l.drop k)=bQ 0 0 l/\Below w.heap.size w wr)) (λ_ j _=>l.length-(intOf j).toNat)
 case atStart=>exact⟨0,0,by omega,rfl,rfl,by omega,by omega,rfl,gt _ _⟩
 case round=>
  obtain⟨k,z,hk,rfl,rfl,aa,ab,HI⟩:=hrel
  by_cases M:k<l.length
  ·have q1:(k:Int)<l.length:=by omega
   obtain⟨d,hd⟩:∃d,l[k]?=some d:=⟨_,Pi M⟩;obtain⟨ht,b,off,rfl,c0,c1,c2,c3,c4⟩:=(HL.out.below HI.out.2) k d hd
   have HS:Hid ((if rt d=true/\0<=z+cq d.k then bQ (z+cq d.k) (k+1) (l.drop (k+1))else some k)=bQ 0 0 l):=by
    show _=_;rw[<-kK hd];exact HI.out.1
   have Y:=aW HI.out.2;have O:Hid (∀W,Sa 103 #[d.v] W λx w'=>Uk x (.bool (rt d))/\Se W w'):=λW=>Cn d ht W
   clear HI hd;obtain⟨Q,dt,db,di,de⟩:=d;simp only[Dc.v]at O;simp only at c0 c1 c2 c3 c4 HS ht;generalize rt ⟨Q,dt,db,di,de⟩=r at *;have I:Hid (r=true->0<=z+cq Q->bQ (z+cq Q) (k+1) (l.drop (k+1))=bQ 0 0 l):=λh1 h2=>by rw[<-HS.out,Or ⟨h1,h2⟩]
   have H:Hid (¬(r=true/\0<=z+cq Q)->ka l=(70,(k:Int))):=λh=>by rw[HC.out,<-HS.out,Eq h];rfl
   clear HS
   have S:Hid (∀W J,W=wr.alloc (.cells #[.int .u8 Q,.string dt,Tu db,Tu di,.bool de] 37)->Se W J->Se w J):=λW J hW h=>by
    subst hW;exact(Y.out.alloc Y.out.size _).trans (h.mono (by rw[RT];have:=Y.out.size;omega))
   by_cases k6:Q=6
   ·subst k6;have Z:z+cq 6=z+1:=rfl;rw[Z]at I H;cases r
    ·have G:=aW (H.out (by simp));clear I H
     go_wp2_with(go_at_call 103;refine(O.out _).mono ?_;rintro e J⟨rfl,u⟩)
     all_goals(go_ret2;rw[G.out];exact⟨rfl,S.out _ _ rfl u⟩)
    ·have G:=aW (I.out rfl (by omega));clear I H
     go_wp2_with(go_at_call 103;refine(O.out _).mono ?_;rintro e J⟨rfl,u⟩)
     exact⟨⟨k+1,z+1,M,by go_num,by go_num,by omega,by omega,G.out,S.out _ _ rfl u⟩,by simp[intOf];omega⟩
   by_cases k7:Q=7
   ·subst k7;have Z:z+cq 7=z-1:=rfl;rw[Z]at I H
    by_cases hz:0<z
    ·cases r
     ·have G:=aW (H.out (by simp));clear I H
      go_wp2_with(go_at_call 103;refine(O.out _).mono ?_;rintro e J⟨rfl,u⟩)
      all_goals(go_ret2;rw[G.out];exact⟨rfl,S.out _ _ rfl u⟩)
     ·have G:=aW (I.out rfl (by omega));clear I H
      go_wp2_with(go_at_call 103;refine(O.out _).mono ?_;rintro e J⟨rfl,u⟩)
      exact⟨⟨k+1,z-1,M,by go_num,by go_num,by omega,by omega,G.out,S.out _ _ rfl u⟩,by simp[intOf];omega⟩
    ·obtain rfl:z=0:=by omega
     have G:=aW (H.out (by omega));clear I H
     go_wp2_with(go_at_call 103;refine(O.out _).mono ?_;rintro e J⟨rfl,u⟩)
     all_goals(go_ret2;rw[G.out];exact⟨rfl,S.out _ _ rfl (gt _ _)⟩)
   ·have Z:z+cq Q=z:=by simp[cq,k6,k7]
    rw[Z]at I H;cases r
    ·have G:=aW (H.out (by simp));clear I H
     go_wp2_with(go_at_call 103;refine(O.out _).mono ?_;rintro e J⟨rfl,u⟩)
     all_goals(go_ret2;rw[G.out];exact⟨rfl,S.out _ _ rfl u⟩)
    ·have G:=aW (I.out rfl (by omega));clear I H
     go_wp2_with(go_at_call 103;refine(O.out _).mono ?_;rintro e J⟨rfl,u⟩)
     exact⟨⟨k+1,z,M,by go_num,by go_num,by omega,by omega,G.out,S.out _ _ rfl u⟩,by simp[intOf];omega⟩
  ·obtain rfl:k=l.length:=by omega
   have q1:¬((l.length:Int)<l.length):=by omega
   have he:=HI.out.1;rw[AW (ge _)]at he;have Y:=aW HI.out.2
   by_cases hz:0<z
   ·have G:Hid (ka l=(70,(l.length:Int))):=by show _=_;rw[HC.out,<-he,Or hz];rfl
    clear HI he;(go_wp2_with fail);go_ret2;rw[G.out];exact⟨rfl,Y.out⟩
   ·have G:Hid (ka l=(0,0)):=by show _=_;rw[HC.out,<-he,Eq hz];rfl
    clear HI he;(go_wp2_with fail);go_ret2;rw[G.out];exact⟨rfl,Y.out⟩
def Sd (own own':Nat->Nat) (W W':World):Prop:=∀k,k<W.heap.size->own k=0->W'.heap[k]?=W.heap[k]?/\own' k=0
def Sd.refl (own:Nat->Nat) (W:World):Sd own own W W:=λk _ h=>⟨rfl,h⟩
def Sd.trans {H I o3:Nat->Nat}{A C D:World}(h:Sd H I A C) (J:A.heap.size<=C.heap.size) (k:Sd I o3 C D):Sd H o3 A D:=λj G u=>
 ⟨(k j (by omega) (h j G u).2).1.trans (h j G u).1,(k j (by omega) (h j G u).2).2⟩
def qM (n:Nat):∀(l:List Dc) (ms:List Nat) (p:Pr) (k:Nat) (d:Dc) (m:Nat),l[k]?=some d->ms[k]?=some m->mU n (l.take (k+1)) (ms.take (k+1)) p=put n d m (mU n (l.take k) (ms.take k) p)
 |[],ms,p,k,d,m,h,_=>by simp at h
 |x :: l,[],p,k,d,m,_,h=>by simp at h
 |x :: l,y :: ms,p,0,d,m,h1,h2=>by
  simp at h1 h2;subst h1 h2;simp[mU]
 |x :: l,y :: ms,p,k+1,d,m,h1,h2=>by
  have:=qM n l ms (put n x y p) k d m (by simpa using h1) (by simpa using h2)
  simpa[mU]using this
def fP (n:Nat) (l:List Dc) (k:Nat):Pr:=mU n (l.take k) ((aX l).1.take k) pV
def ip {n:Nat}{l:List Dc}{k:Nat}{d:Dc}(h:l[k]?=some d):∃m,(aX l).1[k]?=some m/\m<=4097/\fP n l (k+1)=put n d m (fP n l k):=by
 have G:=(RY.1 h).1;obtain⟨m,u⟩:∃m,(aX l).1[k]?=some m:=⟨_,Pi (by rw[nG];exact G)⟩;exact⟨m,u,(oY l).1 m (SF u),qM n l _ pV k d m h u⟩
def sD (n:Nat) (l:List Dc):(fP n l l.length).sk.out=lq n l:=by
 unfold fP lq;rw[Te,S5 (by rw[nG];exact ge _)]
def ot (l:List Dc) (k:Nat):fF (l.take k)<=fF l:=by
 unfold fF
 have:(l.map ud).sum=((l.take k).map ud).sum+((l.drop k).map ud).sum:=by
  rw[<-WG,<-SN,Tm]
 omega
def Fw {n:Nat}{l:List Dc}(u:∀d∈l,rt d=true) (k:Nat):Bp (fP n l k) (fF l):=by
 have:=Ai (n:=n) (l.take k) ((aX l).1.take k) pV 0 (λd hd=>u d (VA hd)) RO;exact this.mono (by have:=ot l k;omega)
def iq {n:Nat}{l:List Dc}(G:bQ 0 0 l=none):∀k:Nat,k<=l.length->∃o:Int,0<=o/\o<=k/\((fP n l k).ar.length:Int)=o/\bQ o k (l.drop k)=none
 |0,_=>⟨0,TH _,TH _,by simp[fP,mU,pV],by simpa using G⟩
 |k+1,hk=>by
  obtain⟨o,I,J,H,u⟩:=iq G k (by omega);obtain⟨d,hd⟩:∃d,l[k]?=some d:=⟨_,Pi (by omega)⟩;obtain⟨m,_,_,e⟩:=ip (n:=n) hd;rw[kK hd]at u
  split at u
  ·rename_i hc
   refine⟨o+cq d.k,hc.2,?_,?_,u⟩
   ·have:cq d.k<=1:=by unfold cq;split;omega;split<;>omega
    omega
   ·rw[e];exact vA hc.1 H hc.2
  ·cases u
def jd (I:bQ 0 0 l=none) {k:Nat}{d:Dc}(hd:l[k]?=some d):d.k=7->(fP n l k).ar≠[]:=by
 intro H J;have Q:=(RY.1 hd).1;obtain⟨o,M,O,G,u⟩:=iq (n:=n) I k (by omega);rw[kK hd]at u
 split at u
 ·rename_i hc
  have:=hc.2;rw[H,show cq 7=-1 from rfl]at this;rw[J]at G;simp at G;omega
 ·cases u
def dK (k:Int):Dc:=⟨k,bE,0,0,false⟩
def Ql (l:List UInt8):decide (0<=Lib.indexByte l 10)=decide ((10:UInt8)∈l)/\-1<=Lib.indexByte l 10:=by
 induction l with
 |nil=>exact⟨rfl,by decide⟩
 |cons b l ih=>
  unfold Lib.indexByte
  by_cases I:b=10
  ·subst I;simp
  ·have J:(b==(10:UInt8))=false:=by simpa using I
   have u:¬(10:UInt8)=b:=λh=>I h.symm
   rw[J];obtain⟨M,O⟩:=ih;generalize Lib.indexByte l 10=z at *
   by_cases G:(10:UInt8)∈l
   ·have:0<=z:=by simpa[G]using M
    have H:¬z=-1:=by omega
    simp[G,u,H];omega
   ·have:¬0<=z:=by simpa[G]using M
    have H:z=-1:=by omega
    simp[G,u,H]
def jU (s:ByteArray) (w:World) :
  Sa 251 #[.string s,.int .u8 10] w λe w'=>Uk e (Tu (Lib.indexByte s.data.toList 10))/\w'=w:=by
 go_enter func251,ntmps251;go_wp2
 rw[run_callFunc_extern func273 (by kernel_rfl) (by kernel_rfl) (by kernel_rfl) (e:=Extern.BytealgIndexByte.indexByte) (by kernel_rfl),Lib.run_indexByteString];simp only[Result.andThen];rw[Oper.upon_value];go_wp2;go_ret;exact⟨rfl,rfl⟩
def jn (s:ByteArray) (w:World) :
  Sa 223 #[.string s,.string ⟨#[10]⟩] w λe w'=>Uk e (Tu (Lib.indexByte s.data.toList 10))/\w'=w:=by
 go_enter func223,ntmps223
 go_wp2_with(go_at_call 251;refine(jU _ _).mono ?_;rintro e w'⟨rfl,rfl⟩)
 ·have h:([(10:UInt8)]==s.toList)=true:=by assumption
  have e:s.data.toList=[10]:=by rw[<-Lib.toList_data];exact(T8.1 h).symm
  have u:Lib.indexByte s.data.toList 10=0:=by rw[e];rfl
  go_ret;exact⟨by rw[u];rfl,rfl⟩
 ·go_ret;exact⟨rfl,rfl⟩
def xS (s:ByteArray) (w:World) :
  Sa 170 #[.string s,.string ⟨#[10]⟩] w λe w'=>Uk e (Tu (Lib.indexByte s.data.toList 10))/\w'=w:=by
 go_enter func170,ntmps170
 go_wp2_with(go_at_call 223;refine(jn _ _).mono ?_;rintro e w'⟨rfl,rfl⟩)
 go_ret;exact⟨rfl,rfl⟩
def AR (s:ByteArray) (w:World) :
  Sa 104 #[.string s,.string ⟨#[10]⟩] w λe w'=>Uk e (.bool (lQ s))/\w'=w:=by
 have h:=(Ql s.data.toList).1;unfold lQ;rw[<-h];clear h;go_enter func104,ntmps104
 go_wp2_with(go_at_call 170;refine(xS _ _).mono ?_;rintro e w'⟨rfl,rfl⟩)
 go_ret;exact⟨rfl,rfl⟩
def tU (t:ByteArray):Nat:=if lQ t then 4097 else(tw t).toNat
def xj (s:ByteArray) (w:World) (G:gj w) (M:s.size<=8589934592) :
  Sa 89 #[.string s] w λe w'=>Uk e (Tu (tU s))/\Se w w':=by
 have I:=kf s;have u:=iS s w G M;have H:=AR s w;unfold tU;generalize lQ s=b at *
 cases b
 ·obtain⟨z,J⟩:∃z:Nat,tw s=z:=⟨(tw s).toNat,by omega⟩;rw[J]at u ⊢;clear I J G;go_enter func89,ntmps89
  go_wp2_with(first|(go_at_call 104;refine H.mono ?_;rintro e O⟨rfl,rfl⟩)|(go_at_call 105;refine u.mono ?_;rintro e w2⟨rfl,hb2⟩))
  go_ret;exact⟨by simp,hb2⟩
 ·clear I G u;go_enter func89,ntmps89
  go_wp2_with(first|(go_at_call 104;refine H.mono ?_;rintro e O⟨rfl,rfl⟩))
  go_ret;exact⟨rfl,gt _ _⟩
def IR (s:Sp):List Value:=[Tu s.all,Tu s.hang]
def JI (s:Sp):(IR s).length=2:=rfl
def BN (g:Nat) (s:Sp) (c:Nat) (w:World) (u:w.heap[g]?=some (.cells #[Tu s.all,Tu s.hang] 179 (0,0))) (J:Sb s) (hc:c<=1000000000) :
  Sa 88 #[.pointer (some (Tw g 0)),Tu c] w λe w'=>Uk e (.tuple #[])/\w'.heap[g]?=some (.cells #[Tu (s.wid c).all,Tu (s.wid c).hang] 179 (0,0))/\Kp (λk=>k=g) w w':=by
 obtain⟨a,h⟩:=s;obtain⟨ha,hh⟩:=J;simp only at ha hh u;have S:w.cell? (Tw g 0)=some (Tu a):=aa u rfl;have Y:w.cell? (Tw g 1)=some (Tu h):=aa u rfl;have O:w.frozen? (Tw g 0)=false:=aj u;have Q:w.frozen? (Tw g 1)=false:=aj u
 have G:Hid (((w.setCell ⟨g,0,none⟩ (Tu (min (a+c) 4097:Nat))).setCell ⟨g,1,none⟩ (Tu (min (h+c) 4097:Nat))).heap[g]?=some (.cells #[Tu (min (a+c) 4097:Nat),Tu (min (h+c) 4097:Nat)] 179 (0,0))/\Kp (λk=>k=g) w ((w.setCell ⟨g,0,none⟩ (Tu (min (a+c) 4097:Nat))).setCell ⟨g,1,none⟩ (Tu (min (h+c) 4097:Nat)))):=
  ⟨ag (ag u 0 _) 1 _,(Kp.set _ _ _ _).trans (Kp.set _ _ _ _)⟩
 simp only[Sp.wid];have H:((min (a+c) 4097:Nat):Int)=min ((a:Int)+c) 4097:=by omega
 have I:((min (h+c) 4097:Nat):Int)=min ((h:Int)+c) 4097:=by omega
 rw[H,I]at G ⊢;have M:(w.setCell ⟨g,0,none⟩ (Tu (min ((a:Int)+c) 4097))).cell? (Tw g 1)=some (Tu h):=aa (ag u 0 _) rfl;clear u;go_enter func88,ntmps88;(go_wp2_with fail);go_end0;exact⟨rfl,G.out⟩
