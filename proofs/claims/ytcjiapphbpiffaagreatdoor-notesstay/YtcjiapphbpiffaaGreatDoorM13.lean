import Derived.Deep.RegionHeld3
import Derived.Lib.Walk
import Derived.Shelf.RegionOpenPlain
import Derived.RangeFuncOwn
import Derived.Test.YtcjiapphbpiffaaGreatDoorM12
set_option linter.unusedVariables false
set_option linter.unusedSimpArgs false
set_option maxHeartbeats 1000000
set_option maxRecDepth 100000
namespace Go.Proofs.YtcjiapphbpiffaaGreatDoor.Lw
open Go.Proofs.YtcjiapphbpiffaaGreatDoor.Lx
open Go.RowKit
open Go.Lib (strCells strCells_length)
def fJ.take (s:fJ):fJ:=⟨s.fresh,s.col,s.wait,[]⟩
def tY (gs:List (Nat × Nat)):Nat->Nat
 |0=>0
 |k+1=>(gs.getD k (0,0)).1
end Go.Proofs.YtcjiapphbpiffaaGreatDoor.Lw
namespace Go.Proofs.YtcjiapphbpiffaaGreatDoor
open Go.Proofs.YtcjiapphbpiffaaGreatDoor.Lw
open Go.Proofs.YtcjiapphbpiffaaGreatDoor.Lx
open Go.RowKit
open Go.Lib (strCells strCells_length)
theorem oz.drop {gs:List (Nat × Nat)}{n:Nat}{f:Nat}(h:oz f gs n):∀k,k<=gs.length->oz (if k=0 then f else tY gs k) (gs.drop k) n:=by
 induction gs generalizing f with
 |nil=>
  intro k C;obtain rfl:k=0:=by simpa using C
  exact h
 |cons x r ih=>
  obtain ⟨a,m⟩:=x;intro k C;cases k with
  |zero=>exact h
  |succ k=>
   have:=ih h.2 k (by simpa using C);simp only [Uw];cases k with
   |zero=>exact this
   |succ k=>exact this
end Go.Proofs.YtcjiapphbpiffaaGreatDoor
namespace Go.Proofs.YtcjiapphbpiffaaGreatDoor.Lw
open Go.Proofs.YtcjiapphbpiffaaGreatDoor.Lx
open Go.RowKit
open Go.Lib (strCells strCells_length)
variable {w':World}{n k a:Nat}
theorem xR {gs:List (Nat × Nat)}{f:Nat}{t:List UInt8}(h:gs[k]?=some (a,n)):dj f (gs.drop k) t=(t.drop f).take (a-f)++(List.replicate n 32++dj a (gs.drop (k+1)) t):=by
 obtain ⟨F,C⟩:=Te.1 h;rw [TD F,C];rfl
theorem C0 {gs:List (Nat × Nat)}(h:gs[k]?=some (a,n)):tY gs (k+1)=a:=by
 show (gs.getD k (0,0)).1=a
 rw [List.getD,h];rfl
theorem K3 {gs:List (Nat × Nat)}{m:Nat}(H:oz 0 gs m) (h:gs[k]?=some (a,n)):tY gs k<=a:=by
 obtain ⟨G,F⟩:=Te.1 h;have:=H.drop k (by omega);rw [TD G,F] at this;have C:=this.1;cases k with
 |zero=>exact SW _
 |succ k=>simpa using C
theorem Tk.piece {w0:World}{g b:Nat}{bs:List UInt8}{W:World}(h:Tk w0 g b bs W) {text:List UInt8}{C cap:Nat}(J:w0.ownsRow 0 5 1 (.slice (some ⟨C,0,none⟩) text.length cap) text.length (bc text)) (f m c q:Nat) (x y:Value) (I:W.heap[q]?=some (.cells #[x,y] 130 (0,0))) (M:f+m<=text.length) (H:bs.length+m<=70368744177664) :
  Ta 53 #[.pointer (some ⟨b,0,none⟩),.slice (some ⟨C,f,none⟩) m c] W fun e w'=>e=.returned (.tuple #[.int .i64 m,.nilIface])/\Hid (Tk w0 g b (bs++(text.drop f).take m) w'/\w'.heap[q]?=some (.cells #[x,y] 130 (0,0)))/\w'.cell? ⟨q,0,none⟩=some x/\w'.cell? ⟨q,1,none⟩=some y:=by
 refine (h.write ((text.drop f).take m) ⟨C,f,none⟩ m c (by rw [Ty,Tw];omega) (vb J rfl h.lo f m) H).mono ?_;rintro e w' ⟨rfl,F,G⟩;have:=G q _ _ _ I (by decide) (by decide);exact ⟨rfl,⟨F,this⟩,af this rfl,af this rfl⟩
theorem Tk.builder {w0:World}{g b:Nat}{bs:List UInt8}{W:World}(h:Tk w0 g b bs W) (S:w0.heap.size+1<=b):Lib.IsBuilder 41 5 (w0.heap.size+1) b (Lib.byteCells bs) W:=by
 obtain ⟨v,C,J⟩:=h.bd;refine .inr ⟨S,v,C.blk,?_,aN C.row C.blk (by decide)⟩;have H:=aN C.row h.hb (by decide);have U:=C.row;refine ⟨by rw [Wc];simp,?_⟩;rw [Wc]
 rcases U.2 with M|⟨I,cap,G,rfl,_,O⟩
 ·exact .inl M
 ·have Q:=J I rfl;refine .inr ⟨I,cap,G,rfl,?_,O⟩
  rcases Nat.eq_or_lt_of_le Q with F|F
  ·exfalso;apply H;rw [F];rfl
  ·exact F
theorem PJ {own:Nat->Nat}{i:Nat}{w W:World}{g:Nat}{s:fJ}{tv gv:Value}(H:W.heap[g]?=some (.cells (sk (!s.fresh) s.col s.wait tv gv) 123 (0,0))) (C:own g=i) (I:Nf own w) (G:Below w.heap.size w W) (J:g<w.heap.size):Af own i w ((W.setCell ⟨g,3,none⟩ (.slice none 0 0)).setCell ⟨g,4,none⟩ (.slice none 0 0)) g s.take:=by
 have F:Kp (fun k=>k=g) w ((W.setCell ⟨g,3,none⟩ (.slice none 0 0)).setCell ⟨g,4,none⟩ (.slice none 0 0)):=((Kp.of_below G).step (Kp.set W g 3 (.slice none 0 0)) (fun _ _ h=>h)).step (Kp.set _ g 4 (.slice none 0 0)) (fun _ _ h=>h);refine ⟨own,I.below F.size,F.fr (fun k _ e=>by subst e;exact C) (fun _ _=>rfl),C,.slice none 0 0,.slice none 0 0,[],[],aj (aj H 3 _) 4 _,⟨TU _ _ _ _,fun k h=>by cases h⟩,⟨TU _ _ _ _,fun k h=>by cases h⟩,SW _,rfl,gt _,fun x h=>by cases h⟩
theorem EQ {w:World}{B e sz:Nat}{v:Value}{xs:List Value}(h:w.ownsRow B e sz v n xs):w.ownsRow 0 e sz v n xs:=by
 refine ⟨h.1,?_⟩
 rcases h.2 with F|⟨g,cap,C,rfl,_,G⟩
 ·exact .inl F
 ·exact .inr ⟨g,cap,C,rfl,SW _,G⟩
theorem Tk.start {w J H:World}{g:Nat}(C:Below ((w.alloc (.cells #[.pointer (some ⟨g,0,none⟩)] 80)).alloc (.cells #[.pointer none,.slice none 0 0] 41)).heap.size ((w.alloc (.cells #[.pointer (some ⟨g,0,none⟩)] 80)).alloc (.cells #[.pointer none,.slice none 0 0] 41)) J)
  (Q:Lib.BuilderAt 41 5 (w.heap.size+1) (w.heap.size+1) (.pointer (some ⟨w.heap.size+1,0,none⟩)) [] H) (F:Below (w.heap.size+1) J H):Tk w g (w.heap.size+1) [] H:=by
 have Y:(w.alloc (.cells #[.pointer (some ⟨g,0,none⟩)] 80)).heap.size=w.heap.size+1:=SX _ _;have G:Below w.heap.size w ((w.alloc (.cells #[.pointer (some ⟨g,0,none⟩)] 80)).alloc (.cells #[.pointer none,.slice none 0 0] 41)):=((hH _ w).alloc (gt _) _).alloc (by omega) _;have M:((w.alloc (.cells #[.pointer (some ⟨g,0,none⟩)] 80)).alloc (.cells #[.pointer none,.slice none 0 0] 41)).heap[w.heap.size]?=some (.cells #[.pointer (some ⟨g,0,none⟩)] 80 (0,0)):=ij _ _ _ _ (aq _ _);obtain ⟨_,v,O,I,U⟩:=Q;refine ⟨(G.trans (C.mono G.size)).trans (F.mono (by omega)),(F.block _ (by omega)).trans (ag M C),⟨v,⟨O,EQ I⟩,fun k S=>?_⟩,by omega⟩;have:=(I.lt k S).1;omega
theorem cC (own:Nat->Nat) (i g:Nat) (s:fJ) (w:World) (h:SK own i w g s) (hn:Nf own w) (hb:s.out.length<=8589934592) :
  Ta 27 #[.pointer (some ⟨g,0,none⟩)] w fun e w'=>e=.returned (.string ⟨s.out.toArray⟩)/\Af own i w w' g s.take:=by
 have H:=h.len;have ah:=h.lab;obtain ⟨tv,gv,text,gs,Q,h2,h3,M,h5,h6,h7⟩:=h.ex;have ba:=lE M;rw [<-h5] at ba;have ad:=h2.1;have ae:=h3.1;obtain ⟨p1,c1,e1,hc1,hm1⟩:=aK ad;obtain ⟨p2,c2,e2,hc2,hm2⟩:=aK ae;obtain ⟨fr,col,wait,out⟩:=s;simp only at *
 have ar:Hid (∀W,Below w.heap.size w W->Ta 52 #[.pointer (some ⟨g,0,none⟩)] W fun e w'=>e=.returned (.int .i64 (out.length:Nat))/\Below W.heap.size W w'):=by
  intro W J;have:=ED g (!fr) col wait tv gv text.length (bc text) gs W ((J.block g H).trans Q) (bv ad J) (bv ae J) (by omega) (by omega) (by omega);rw [show out.length=text.length+dd gs by omega];exact this
 have G3:Hid (∀W,Below w.heap.size w W->W.cell? ⟨g,3,none⟩=some tv/\W.cell? ⟨g,4,none⟩=some gv):=fun W J=>⟨af ((J.block g H).trans Q) rfl,af ((J.block g H).trans Q) rfl⟩
 have bl:=mkfn;subst e1 e2;have bd:Hid (w.ownsRow 0 130 2 (.slice p2 gs.length c2) gs.length (bB eg gs)):=ae;have Z:Hid (w.ownsRow 0 5 1 (.slice p1 text.length c1) text.length (bc text)):=ad;have HU:Hid (oz 0 gs text.length/\out=dj 0 gs text/\∀x∈gs,x.1<text.length):=⟨M,h5,h7⟩
 have S:Hid (∀(W:World),Below w.heap.size w W->W.heap[w.heap.size]?=some (.cells #[.pointer (some ⟨g,0,none⟩)] 80 (0,0))->CallsD Tryz.prog 50 #[.pointer (some ⟨w.heap.size,0,none⟩)] .returning W fun e u' w'=>u'=.returning/\(e=.returned (.tuple #[])/\Af own i w w' g (fJ.take ⟨fr,col,wait,out⟩))):=by
  intro W J hh;have az:=(J.block g H).trans Q;refine (Hk .returning (!fr) col wait w.heap.size g _ _ W az hh ⟨_,_,_,rfl⟩ ⟨_,_,_,rfl⟩).mono ?_;rintro e u' w' ⟨rfl,rfl,rfl⟩;exact ⟨rfl,rfl,PJ (s:=⟨fr,col,wait,out⟩) az ah hn J H⟩
 have bj:gs.length<=8589934592:=by omega
 have bi:Hid (out.length=text.length+dd gs/\gs.length<=dd gs):=⟨by omega,h6⟩;clear h Q h2 h3 M h5 h6 h7 ad ae ba hn ah
 go_enter_defers Tryz.func27,Tryz.ntmps27
 go_wp2_with fail
 have s1:(w.alloc (.cells #[.pointer (some ⟨g,0,none⟩)] 80)).heap.size=w.heap.size+1:=SX _ _;have s2:((w.alloc (.cells #[.pointer (some ⟨g,0,none⟩)] 80)).alloc (.cells #[.pointer none,.slice none 0 0] 41)).heap.size=w.heap.size+1+1:=by rw [SX,s1]
 have ax:Below w.heap.size w ((w.alloc (.cells #[.pointer (some ⟨g,0,none⟩)] 80)).alloc (.cells #[.pointer none,.slice none 0 0] 41)):=((hH _ w).alloc (gt _) _).alloc (by omega) _;have b2:((w.alloc (.cells #[.pointer (some ⟨g,0,none⟩)] 80)).alloc (.cells #[.pointer none,.slice none 0 0] 41)).heap[w.heap.size+1]?=some (.cells #[.pointer none,.slice none 0 0] 41 (0,0)):=by rw [<-s1];exact aq _ _
 refine (ar.out _ ax).mono ?_;rintro e w1 ⟨rfl,ac⟩;have ap:Hid (∀Y,Lib.BuilderAt 41 5 (w.heap.size+1) (w.heap.size+1) (.pointer (some ⟨w.heap.size+1,0,none⟩)) [] Y->Below (w.heap.size+1) w1 Y->Tk w g (w.heap.size+1) [] Y):=fun Y a b=>Tk.start ac a b
 have HG:Hid (Ta 51 #[.pointer (some ⟨w.heap.size+1,0,none⟩),.int .i64 out.length] w1 fun e w'=>e=.returned (.tuple #[])/\(Lib.BuilderAt 41 5 (w.heap.size+1) (w.heap.size+1) (.pointer (some ⟨w.heap.size+1,0,none⟩)) [] w'/\Below (w.heap.size+1) w1 w')):=
  Qw _ _ _ w1 (gt _) (ag b2 ac) (by have:=ac.size;omega) (by omega)
 clear s1 s2 ax b2 ac ar
 go_wp2_with fail
 refine HG.out.mono ?_;rintro e Y ⟨rfl,hB,aw⟩;have HT:Hid (Tk w g (w.heap.size+1) [] Y):=ap.out Y hB aw;clear ap HG hB aw;have g4:=(G3.out Y HT.out.lo).2;have g5:Y.cell? ⟨w.heap.size,0,none⟩=some (.pointer (some ⟨g,0,none⟩)):=af HT.out.hb rfl
 go_wp2_with fail
 go_loopw [4,18] (fun f j wr=>∃k:Nat,k<=gs.length/\f=.int .i64 (tY gs k)/\j=.int .i64 k/\Hid (∃bs,Tk w g (w.heap.size+1) bs wr/\bs++dj (tY gs k) (gs.drop k) text=out)) (fun _ j _=>gs.length-(intOf j).toNat)
 case atStart=>exact ⟨0,by omega,rfl,rfl,[],HT.out,HU.out.2.1.symm⟩
 case round=>
  obtain ⟨k,hk,rfl,rfl,HI⟩:=hrel;clear HT g4 g5
  by_cases H:k<gs.length
  ·obtain ⟨⟨a,z⟩,hx⟩:∃x,gs[k]?=some x:=⟨gs[k],Pi H⟩;obtain ⟨gb,gcap,he,hgc,x1,x2⟩:=rM bd.out k (a,z) hx;injection he with e1 e2 e3
   subst e1;have bf:=HU.out.2.2 (a,z) (T3 hx);simp only at x1 x2 bf;have bg:=K3 HU.out.1 hx;have ay:=C0 hx
   obtain ⟨O,rfl⟩:∃O,p1=some ⟨O,0,none⟩:=by
    rcases Z.out.2 with ⟨h,h0⟩|⟨O,cap,be,h,_⟩
    ·omega
    ·injection h with h _ _;exact ⟨O,h⟩
   obtain ⟨bs,G,F⟩:=HI.out;rw [xR hx] at F;have y1:=(G.lo.cell (p:=⟨gb,k*2,none⟩) (S9 _ _ x1)).trans x1;have y2:=(G.lo.cell (p:=⟨gb,k*2+1,none⟩) (S9 _ _ x2)).trans x2;have q1:(k:Int)<gs.length:=by omega
   obtain ⟨f,hf⟩:∃f,tY gs k=f:=⟨_,rfl⟩;rw [hf] at bg F ⊢;obtain ⟨V,hV⟩:∃V,V=wr.alloc (.cells #[.int .i64 a,.int .i64 z] 130):=⟨_,rfl⟩;have am:V.heap[wr.heap.size]?=some (.cells #[.int .i64 a,.int .i64 z] 130 (0,0)):=by rw [hV];exact aq _ _
   have ab:Tk w g (w.heap.size+1) bs V:=G.below (by rw [hV];exact (hH _ _).alloc (gt _) _)
   have ai:out.length=bs.length+(a-f)+z+(dj a (gs.drop (k+1)) text).length:=by
    rw [<-F];simp only [Or,Ty,Tw,UW];omega
   have HP:Hid (Ta 53 #[.pointer (some ⟨w.heap.size+1,0,none⟩),.slice (some ⟨O,f,none⟩) (a-f) (c1-f)] V.drew fun e w'=>e=.returned (.tuple #[.int .i64 (a-f:Nat),.nilIface])/\Hid (Tk w g (w.heap.size+1) (bs++(text.drop f).take (a-f)) w'/\w'.heap[wr.heap.size]?=some (.cells #[.int .i64 a,.int .i64 z] 130 (0,0)))/\(w'.cell? ⟨w.heap.size,0,none⟩=some (.pointer (some ⟨g,0,none⟩))/\w'.cell? ⟨g,3,none⟩=some (.slice (some ⟨O,0,none⟩) text.length c1)/\w'.cell? ⟨wr.heap.size,0,none⟩=some (.int .i64 a))/\w'.cell? ⟨wr.heap.size,1,none⟩=some (.int .i64 z)):=by
    refine (Tk.piece (W:=V.drew) (ab.below (Wj (hH _ _))) Z.out f (a-f) (c1-f) wr.heap.size _ _ am (by omega) (by omega)).mono ?_;rintro e w' ⟨rfl,HK,k0,k1⟩;exact ⟨rfl,HK,⟨af HK.out.1.hb rfl,(G3.out w' HK.out.1.lo).1,k0⟩,k1⟩
   have v1:V.cell? ⟨w.heap.size,0,none⟩=some (.pointer (some ⟨g,0,none⟩)):=af ab.hb rfl;have v2:=(G3.out V ab.lo).1;have v3:V.cell? ⟨wr.heap.size,0,none⟩=some (.int .i64 a):=af am rfl;have C:Hid (bs++(List.take (a-f) (List.drop f text)++(List.replicate z 32++dj a (List.drop (k+1) gs) text))=out/\out.length=bs.length+(a-f)+z+(dj a (gs.drop (k+1)) text).length/\tY gs (k+1)=a):=⟨F,ai,ay⟩;have av:Hid (V=wr.alloc (.cells #[.int .i64 a,.int .i64 z] 130)):=hV;clear hV am ab G F ai HI x1 x2 hx hf ay e3
   go_wp2_with fail
   rw [<-av.out];have i1:(f:Int)<=a:=by omega
   have i2:(a:Int)<=c1:=by omega
   have i3:f<c1:=by omega
   have i4:a<=c1:=by omega
   have i5:¬(c1-f=0):=by omega
   have i6:(0:Int)<=f:=by omega
   have i7:¬(c1=f):=by omega
   go_region_held3 (fun w'=>w'.cell? ⟨w.heap.size,0,none⟩=some (.pointer (some ⟨g,0,none⟩))/\w'.cell? ⟨g,3,none⟩=some (.slice (some ⟨O,0,none⟩) text.length c1)/\w'.cell? ⟨wr.heap.size,0,none⟩=some (.int .i64 a)) (first|assumption|(exact ⟨v1,v2,v3⟩)|go_keep) (first|(go_at_call 53;(try rw [Eq i7]);refine HP.out.mono ?_;rintro e w3 ⟨rfl,ak,z0,z1⟩))
   clear HP v1 v2 v3 z0 av;have hz:z<=8589934592:=by have:=C.out.2.1;omega
   go_wp2_with fail
   refine (JO z w3 hz).mono ?_;rintro e w4 ⟨rfl,an⟩;have al:Hid (Tk w g (w.heap.size+1) (bs++(text.drop f).take (a-f)) w4/\w4.heap[wr.heap.size]?=some (.cells #[.int .i64 a,.int .i64 z] 130 (0,0))):=⟨ak.out.1.below an,ag ak.out.2 an⟩
   have HW:Hid (Ta 11 #[.pointer (some ⟨w.heap.size+1,0,none⟩),.string (ox z)] w4 fun e w'=>e=.returned (.tuple #[.int .i64 z,.nilIface])/\Hid (Tk w g (w.heap.size+1) ((bs++(text.drop f).take (a-f))++List.replicate z 32) w')/\w'.cell? ⟨wr.heap.size,0,none⟩=some (.int .i64 a)):=by
    refine (al.out.1.wstr (ox z) (by rw [lr,Or,Ty];have:=C.out.2.1;omega)).mono ?_;rintro e w' ⟨rfl,Q,h2⟩;exact ⟨by rw [lr],Q,af (h2 _ _ _ _ al.out.2 (by decide) (by decide)) rfl⟩
   clear an ak z1 al
   go_wp2_with fail
   refine HW.out.mono ?_;rintro e w5 ⟨rfl,I,u0⟩;clear HW
   go_wp2_with fail
   refine ⟨⟨k+1,H,by rw [C.out.2.2],by go_num,_,I.out,?_⟩,by simp [intOf];omega⟩;rw [C.out.2.2];have:=C.out.1;simp only [S5] at this ⊢;exact this
  ·obtain rfl:k=gs.length:=by omega
   obtain ⟨bs,G,F⟩:=HI.out
   have bh:tY gs gs.length<=text.length:=by
    have:=(HU.out.1.drop gs.length (gt _)).le
    split at this
    ·rename_i h0;rw [h0];exact SW _
    ·exact this
   rw [US] at F;have q1:¬((gs.length:Int)<gs.length):=by omega
   obtain ⟨f,hf⟩:∃f,tY gs gs.length=f:=⟨_,rfl⟩;rw [hf] at bh F ⊢;have C:Hid (bs++text.drop f=out):=F;have v1:wr.cell? ⟨w.heap.size,0,none⟩=some (.pointer (some ⟨g,0,none⟩)):=af G.hb rfl;have v2:=(G3.out wr G.lo).1;have aa:Hid (Tk w g (w.heap.size+1) bs wr):=G;clear G HI F hf
   have U:Hid (∀W,Tk w g (w.heap.size+1) out W->Ta 13 #[.pointer (some ⟨w.heap.size+1,0,none⟩)] W fun e w'=>e=.returned (.string ⟨out.toArray⟩)/\Hid (Below w.heap.size w w'/\w'.heap[w.heap.size]?=some (.cells #[.pointer (some ⟨g,0,none⟩)] 80 (0,0)))):=by
    intro W J;have hsz:=au J.hb;refine (LM (w.heap.size+1) (w.heap.size+1) out W (J.builder (gt _)) (by omega)).mono ?_;rintro e w' ⟨rfl,hb⟩;exact ⟨rfl,J.lo.trans (hb.mono (by omega)),(hb.block _ (by omega)).trans J.hb⟩
   rcases Z.out.2 with ⟨h,h0⟩|⟨O,cap,be,h,_⟩
   ·injection h with Q h2 h3
    subst Q;subst h3;obtain rfl:f=0:=by omega
    have KW:Hid (Ta 53 #[.pointer (some ⟨w.heap.size+1,0,none⟩),.slice none 0 0] wr fun e w'=>e=.returned (.tuple #[.int .i64 0,.nilIface])/\Hid (Tk w g (w.heap.size+1) out w')):=by
     refine aa.out.write_none.mono ?_;rintro e w' ⟨rfl,M,_⟩;have:bs++[]=out:=by rw [<-C.out,Tl h0];rfl
     rw [this] at M;exact ⟨rfl,M⟩
    rw [h0] at v2
    go_wp2_with fail
    refine KW.out.mono ?_;rintro e w5 ⟨rfl,I⟩;clear v1 v2 KW
    go_wp2_with fail
    refine (U.out w5 I.out).mono ?_;rintro e w6 ⟨rfl,H6⟩
    go_wp2_with fail
    refine Vx (f:=50) (args:=#[.pointer (some ⟨w.heap.size,0,none⟩)]) (by simp) (by simp [go_sem]) ?_;refine (S.out w6 H6.out.1 H6.out.2).mono ?_;rintro e u' bb ⟨rfl,rfl,hA⟩;exact ⟨_,Wr rfl _ _ _,rfl,hA⟩
   ·injection h with Q h2 h3
    subst Q;clear h2 h3;have i1:(f:Int)<=text.length:=by omega
    have i2:(text.length:Int)<=c1:=by omega
    have i3:f<=c1:=by omega
    have bk:bs.length+(text.length-f)<=8589934592:=by
     have:(bs++text.drop f).length=out.length:=by rw [C.out]
     rw [Or,Tw] at this;omega
    by_cases hc:c1=f
    ·have KW:Hid (Ta 53 #[.pointer (some ⟨w.heap.size+1,0,none⟩),.slice (some ⟨O,0,none⟩) (text.length-f) 0] wr fun e w'=>e=.returned (.tuple #[.int .i64 (text.length-f:Nat),.nilIface])/\Hid (Tk w g (w.heap.size+1) out w')):=by
      obtain rfl:f=text.length:=by omega
      refine (aa.out.write [] ⟨O,0,none⟩ (text.length-text.length) 0 (by simp) (fun j u h=>by simp [bc] at h) (by omega)).mono ?_;rintro e w' ⟨rfl,M,_⟩;have h5:=C.out;rw [US] at h5;rw [h5] at M;exact ⟨rfl,M⟩
     go_wp2_with fail
     refine KW.out.mono ?_;rintro e w5 ⟨rfl,I⟩;clear v1 v2 KW
     go_wp2_with fail
     refine (U.out w5 I.out).mono ?_;rintro e w6 ⟨rfl,H6⟩
     go_wp2_with fail
     refine Vx (f:=50) (args:=#[.pointer (some ⟨w.heap.size,0,none⟩)]) (by simp) (by simp [go_sem]) ?_;refine (S.out w6 H6.out.1 H6.out.2).mono ?_;rintro e u' bb ⟨rfl,rfl,hA⟩;exact ⟨_,Wr rfl _ _ _,rfl,hA⟩
    ·have KW:Hid (Ta 53 #[.pointer (some ⟨w.heap.size+1,0,none⟩),.slice (some ⟨O,f,none⟩) (text.length-f) (c1-f)] wr fun e w'=>e=.returned (.tuple #[.int .i64 (text.length-f:Nat),.nilIface])/\Hid (Tk w g (w.heap.size+1) out w')):=by
      have aj:=vb Z.out rfl aa.out.lo f (text.length-f);rw [TZ (by rw [Tw];omega)] at aj;refine (aa.out.write (text.drop f) ⟨O,f,none⟩ (text.length-f) (c1-f) (by rw [Tw]) aj (by omega)).mono ?_;rintro e w' ⟨rfl,M,_⟩;rw [C.out] at M;exact ⟨rfl,M⟩
     go_wp2_with fail
     refine KW.out.mono ?_;rintro e w5 ⟨rfl,I⟩;clear v1 v2 KW
     go_wp2_with fail
     refine (U.out w5 I.out).mono ?_;rintro e w6 ⟨rfl,H6⟩
     go_wp2_with fail
     refine Vx (f:=50) (args:=#[.pointer (some ⟨w.heap.size,0,none⟩)]) (by simp) (by simp [go_sem]) ?_;refine (S.out w6 H6.out.1 H6.out.2).mono ?_;rintro e u' bb ⟨rfl,rfl,hA⟩;exact ⟨_,Wr rfl _ _ _,rfl,hA⟩
def fJ.blanks (s:fJ) (n:Nat):fJ:={ s with wait:=s.wait+n }
structure En (own:Nat->Nat) (w:World):Prop where
 nf:Nf own w
 tab:kl w
 z:own 5=0
theorem kl.pos {w:World}(h:kl w):5<w.heap.size:=S9 w _ (h 0 (by omega)).1
theorem En.fr {own C:Nat->Nat}{w:World}{i:Nat}(h:En own w) (G:i≠0) (H:Nf C w') (F:Fr i own C w w'):En C w':=
 ⟨H,F.tab h.tab (by rw [h.z];exact fun e=>G e.symm),(F.old 5 h.tab.pos).trans h.z⟩
theorem En.below {own:Nat->Nat}{w:World}(h:En own w) (C:Below w.heap.size w w'):En own w':=⟨h.nf.below C.size,h.tab.below C,h.z⟩
def Ae (own:Nat->Nat) (i:Nat) (w w':World) (g:Nat) (s:fJ):Prop:=∃own',En own' w'/\Fr i own own' w w'/\SK own' i w' g s
theorem Af.ae {own:Nat->Nat}{i:Nat}{w:World}{g:Nat}{s:fJ}(h:Af own i w w' g s) (I:En own w) (J:i≠0):Ae own i w w' g s:=by
 obtain ⟨C,G,F,H⟩:=h;exact ⟨C,I.fr J G F,F,H⟩
def xI:fJ:=⟨true,0,0,[]⟩
theorem N6 (own:Nat->Nat) (i:Nat) (w:World) (G:En own w) (I:i≠0):Ta 25 #[] w fun e w'=>e=.returned (.pointer (some ⟨w.heap.size,0,none⟩))/\Ae own i w w' w.heap.size xI:=by
 refine (Kq w).mono ?_;rintro e w' ⟨rfl,rfl⟩;have C:Below w.heap.size w (w.alloc (.cells (sk false 0 0 (.slice none 0 0) (.slice none 0 0)) 123)):=(hH _ _).alloc (gt _) _;have J:(w.alloc (.cells (sk false 0 0 (.slice none 0 0) (.slice none 0 0)) 123)).heap.size=w.heap.size+1:=SX _ _;have H:Fr i own (fun k=>if k=w.heap.size then i else own k) w (w.alloc (.cells (sk false 0 0 (.slice none 0 0) (.slice none 0 0)) 123)):=⟨C.os,C.tape,C.output,C.size,fun k F _=>C.block k F,fun k F=>Eq (by omega)⟩;refine ⟨rfl,_,G.fr I ?_ H,H,IO rfl,.slice none 0 0,.slice none 0 0,[],[],aq _ _,⟨TU _ _ _ _,fun k h=>by cases h⟩,⟨TU _ _ _ _,fun k h=>by cases h⟩,SW _,rfl,gt _,fun x h=>by cases h⟩;intro k F;rw [J] at F;show (if k=w.heap.size then i else own k)=0;rw [Eq (by omega)];exact G.nf k (by omega)
section
variable {own:Nat->Nat} {i:Nat} {g:Nat} {s:fJ} {w:World}
theorem Jf (h:SK own i w g s) (C:En own w) (I:i≠0) (t:ByteArray) (H:s.out.length+s.col+s.wait+t.size<=8589934592) :
  Ta 44 #[.pointer (some ⟨g,0,none⟩),.string t] w fun e w'=>e=.returned (.int .i64 0)/\Ae own i w w' g (s.text t):=
 (Ec own i g s t w h C.nf C.tab H).mono fun e w' ⟨F,G⟩=>⟨F,G.ae C I⟩
theorem La (h:SK own i w g s) (C:En own w) (I:i≠0) (c:Nat) (hc:c<=1048576) (H:s.out.length<=8589934592) :
  Ta 94 #[.pointer (some ⟨g,0,none⟩),.int .i64 c] w fun e w'=>e=.returned (.int .i64 0)/\Ae own i w w' g (s.feed c):=
 (Gy own i g s c w h C.nf hc H).mono fun e w' ⟨F,G⟩=>⟨F,G.ae C I⟩
theorem GJ (h:SK own i w g s) (C:En own w) (I:i≠0) (H:s.out.length<=8589934592) :
  Ta 48 #[.pointer (some ⟨g,0,none⟩)] w fun e w'=>e=.returned (.int .i64 0)/\Ae own i w w' g s.empty:=
 (Dp own i g s w h C.nf H).mono fun e w' ⟨F,G⟩=>⟨F,G.ae C I⟩
theorem Jl (h:SK own i w g s) (C:En own w) (I:i≠0) (H:s.out.length<=8589934592) :
  Ta 27 #[.pointer (some ⟨g,0,none⟩)] w fun e w'=>e=.returned (.string ⟨s.out.toArray⟩)/\Ae own i w w' g s.take:=
 (cC own i g s w h C.nf H).mono fun e w' ⟨F,G⟩=>⟨F,G.ae C I⟩
theorem DH (h:SK own i w g s) (M:En own w) (S:i≠0) (n:Nat) (hn:n<=1048576) (Z:s.wait<=8589934592) :
  Ta 93 #[.pointer (some ⟨g,0,none⟩),.int .i64 n] w fun e w'=>e=.returned (.int .i64 0)/\Ae own i w w' g (s.blanks n):=by
 obtain ⟨tv,gv,text,gs,C,I,J,Q⟩:=h.ex;refine (zm g (!s.fresh) s.col s.wait n tv gv w C (by omega) (by omega) (by omega) (by omega)).mono ?_;rintro e w' ⟨rfl,rfl⟩;have F:=Kp.set w g 2 (.int .i64 ((s.wait:Int)+n));have O:Fr i own own w (w.setCell ⟨g,2,none⟩ (.int .i64 ((s.wait:Int)+n))):=F.fr (fun k _ e=>by subst e;exact h.lab) (fun _ _=>rfl);have U:=aN I.1 C (by decide);have Y:=aN J.1 C (by decide);refine ⟨rfl,own,M.fr S (M.nf.below F.size) O,O,h.lab,tv,gv,text,gs,?_,⟨F.row I.1 (fun k G H=>U (by rw [G,H])),I.2⟩,⟨F.row J.1 (fun k G H=>Y (by rw [G,H])),J.2⟩,Q⟩;exact aj C 2 _
theorem Dw (h:SK own i w g s) (F:s.col<=8589934592) (G:s.wait<=8589934592) :
  Ta 96 #[.pointer (some ⟨g,0,none⟩)] w fun e w'=>e=.returned (.int .i64 ((s.col:Int)+s.wait))/\Below w.heap.size w w':=by
 obtain ⟨tv,gv,text,gs,C,_⟩:=h.ex;exact yZ g (!s.fresh) s.col s.wait tv gv w C (by omega) (by omega) (by omega) (by omega)
theorem wO (h:SK own i w g s) :
  Ta 92 #[.pointer (some ⟨g,0,none⟩)] w fun e w'=>e=.returned (.bool s.fresh)/\w'=w:=by
 obtain ⟨tv,gv,text,gs,C,_⟩:=h.ex;have:=C1 g (!s.fresh) s.col s.wait tv gv w C
 simpa using this
end
end Go.Proofs.YtcjiapphbpiffaaGreatDoor.Lw
namespace Go.Proofs.YtcjiapphbpiffaaGreatDoor.Lw
open Go.Proofs.YtcjiapphbpiffaaGreatDoor.Lx
def Gh (t:ByteArray):Bool:=decide ((10:UInt8)∈t.data.toList)
def pw (d:Dc):Nat:=if d.k=1 then (if Gh d.t then 4097 else (tw d.t).toNat) else if d.k=2 then 1 else if d.k=3 then d.b.toNat else if d.k=4\/d.k=5 then 4097 else 0
structure Sp where
 all:Nat
 hang:Nat
 deriving DecidableEq
def Sp.wid (s:Sp) (c:Nat):Sp:=⟨min (s.all+c) 4097,min (s.hang+c) 4097⟩
def fP (d:Dc) (s:Sp × List Sp):Nat × Sp × List Sp:=
 if d.k=7 then (0,⟨0,0⟩,s.1 :: s.2)
 else if d.k=6 then (s.1.all,(s.2.headD ⟨0,0⟩).wid s.1.all,s.2.tail)
 else if d.k=3 then ((s.1.wid (pw d)).hang,⟨(s.1.wid (pw d)).all,0⟩,s.2)
 else if d.k=4\/d.k=5 then (0,⟨(s.1.wid (pw d)).all,0⟩,s.2)
 else (0,s.1.wid (pw d),s.2)
def eQ:List Dc->List Nat × Sp × List Sp
 |[]=>([],⟨0,0⟩,[])
 |d :: r=>((fP d (eQ r).2).1 :: (eQ r).1,(fP d (eQ r).2).2)
theorem kP:∀l,(eQ l).1.length=l.length
 |[]=>rfl
 |d :: r=>by simp [eQ,kP r]
theorem oF (s:Sp) (c:Nat):(s.wid c).all<=4097/\(s.wid c).hang<=4097:=by simp only [Sp.wid];omega
def Sb (s:Sp):Prop:=s.all<=4097/\s.hang<=4097
theorem Jh (d:Dc) (s:Sp × List Sp) (h:Sb s.1) (C:∀x∈s.2,Sb x):(fP d s).1<=4097/\Sb (fP d s).2.1/\∀x∈(fP d s).2.2,Sb x:=by
 unfold fP
 repeat' split
 ·refine ⟨SW _,⟨SW _,SW _⟩,?_⟩;intro x F
  rcases Tt.1 F with rfl|F
  ·exact h
  ·exact C x F
 ·exact ⟨h.1,oF _ _,fun x F=>C x (List.mem_of_mem_tail F)⟩
 ·exact ⟨(oF _ _).2,⟨(oF _ _).1,SW _⟩,C⟩
 ·exact ⟨SW _,⟨(oF _ _).1,SW _⟩,C⟩
 ·exact ⟨SW _,oF _ _,C⟩
theorem yG:∀l,(∀x∈(eQ l).1,x<=4097)/\Sb (eQ l).2.1/\∀x∈(eQ l).2.2,Sb x
 |[]=>⟨by simp [eQ],⟨SW _,SW _⟩,by simp [eQ]⟩
 |d :: r=>by
  obtain ⟨F,G,H⟩:=yG r;obtain ⟨k1,k2,k3⟩:=Jh d (eQ r).2 G H;refine ⟨?_,k2,k3⟩;intro x C
  rcases Tt.1 C with rfl|C
  ·exact k1
  ·exact F x C
theorem wi:∀(l:List Dc) (o:Int) (j:Nat),0<=o->cG o j l=none->((eQ l).2.2.length:Int)=o
 |[],o,j,ho,h=>by
  simp only [cG] at h
  split at h
  ·cases h
  ·show (0:Int)=o;omega
 |d :: r,o,j,ho,h=>by
  simp only [cG] at h
  split at h
  ·rename_i H
   have C:=wi r _ _ H.2 h;show ((fP d (eQ r).2).2.2.length:Int)=o;unfold fP;unfold dD at C
   split
   ·rename_i G
    rw [Eq (by omega),IO G] at C;show (((eQ r).2.2.length+1:Nat):Int)=o;omega
   ·rename_i G
    split
    ·rename_i F
     rw [IO F] at C;show ((eQ r).2.2.tail.length:Int)=o;rw [List.length_tail];omega
    ·rename_i F
     rw [Eq F,Eq G] at C
     repeat' split
     all_goals (show ((eQ r).2.2.length:Int)=o;omega)
  ·cases h
structure Bk where
 ind:Nat
 ev:Bool
 ft:Bool
structure Pr where
 sk:fJ
 bl:Bk
 ar:List Bk
 en:Bool
def Pr.at (p:Pr):Nat:=p.sk.col+p.sk.wait
def Pr.fits (n need:Nat) (p:Pr):Bool:=decide (need+p.at<=n)
def Pr.hold (p:Pr) (m:Nat):Pr:=if p.sk.fresh then p else { p with sk:=p.sk.blanks m }
def Pr.endl (p:Pr):Pr:=if p.sk.fresh then p else { p with sk:=p.sk.feed p.bl.ind,en:=true }
def Pr.brk (n need:Nat) (p:Pr):Bool:=if p.bl.ev then !p.bl.ft else !p.fits n need
def put (n:Nat) (d:Dc) (need:Nat) (p:Pr):Pr:=
 if d.k=1 then { p with sk:=p.sk.text d.t,en:=false }
 else if d.k=2 then p.hold 1
 else if d.k=3 then (if p.brk n need then p.endl else p.hold d.b.toNat)
 else if d.k=4 then p.endl
 else if d.k=5 then (if p.en then { p with sk:=p.sk.empty,en:=false } else p)
 else if d.k=6 then { p with ar:=p.bl :: p.ar,bl:=⟨min (p.bl.ind+d.i.toNat) 1000,d.e,p.fits n need⟩ }
 else if d.k=7 then { p with bl:=p.ar.headD ⟨0,false,false⟩,ar:=p.ar.tail }
 else p
def puts (n:Nat):List Dc->List Nat->Pr->Pr
 |d :: r,m :: ms,p=>puts n r ms (put n d m p)
 |_,_,p=>p
def qK:Pr:=⟨xI,⟨0,false,false⟩,[],false⟩
def jZ (n:Nat) (l:List Dc):List UInt8:=(puts n l (eQ l).1 qK).sk.out
def sj (n:Int) (l:List Dc):ByteArray × Int:=if n<1\/4096<n then (⟨#[]⟩,1) else if cG 0 0 l≠none then (⟨#[]⟩,70) else (⟨(jZ n.toNat l).toArray⟩,0)
def ud (d:Dc):Nat:=2*d.t.size+(if d.k=6\/d.k=7 then 0 else 1001)
def qD (l:List Dc):Nat:=(l.map ud).sum
structure Bp (p:Pr) (U:Nat):Prop where
 out:p.sk.out.length+p.sk.wait+(if p.sk.fresh then p.sk.col else 0)<=U
 col:p.sk.col+p.sk.wait<=U
 ind:p.bl.ind<=1000
 ar:∀b∈p.ar,b.ind<=1000
 wt:p.sk.fresh=true->p.sk.wait=0
theorem SN:Bp qK 0:=⟨by simp [qK,xI],by simp [qK,xI],by simp [qK],by simp [qK],fun _=>rfl⟩
theorem Bp.mono {p:Pr}{U V:Nat}(h:Bp p U) (C:U<=V):Bp p V:=⟨SY h.out C,SY h.col C,h.ind,h.ar,h.wt⟩
theorem Bp.hold {p:Pr}{U:Nat}(h:Bp p U) (m:Nat):Bp (p.hold m) (U+m):=by
 unfold Pr.hold
 split
 ·exact h.mono (by omega)
 ·rename_i C
  have F:=h.out;have G:=h.col;refine ⟨?_,?_,h.ind,h.ar,fun e=>absurd e C⟩
  ·show p.sk.out.length+(p.sk.wait+m)+(if p.sk.fresh then p.sk.col else 0)<=_
   omega
  ·show p.sk.col+(p.sk.wait+m)<=_
   omega
theorem Bp.endl {p:Pr}{U:Nat}(h:Bp p U):Bp p.endl (U+1001):=by
 unfold Pr.endl
 split
 ·exact h.mono (by omega)
 ·rename_i H
  have C:=h.out;have F:=h.col;have G:=h.ind;refine ⟨?_,?_,h.ind,h.ar,fun _=>rfl⟩
  ·show (p.sk.out++[10]).length+0+p.bl.ind<=_
   rw [Or];simp only [List.length_cons,List.length_nil];omega
  ·show p.bl.ind+0<=_
   omega
theorem NH {n need U:Nat}{d:Dc}{p:Pr}(hd:rt d=true) (h:Bp p U):Bp (put n d need p) (U+ud d):=by
 have C:=h.out;have H:=h.col;have I:=h.ind;cases mO hd with
 |text t hq=>
  have M:=(nG hq).1;refine ⟨?_,?_,h.ind,h.ar,?_⟩
  ·show (p.sk.text t).out.length+(p.sk.text t).wait+(if (p.sk.text t).fresh then (p.sk.text t).col else 0)<=U+ud ⟨1,t,0,0,false⟩
   unfold fJ.text ud;rw [Eq (by omega)];have e:t.data.toList.length=t.size:=by rw [TQ];rfl
   simp only [Or,UW,e];cases G:p.sk.fresh
   ·rw [G] at C;simp at C ⊢;omega
   ·rw [G] at C;simp at C ⊢;omega
  ·show (p.sk.text t).col+(p.sk.text t).wait<=U+ud ⟨1,t,0,0,false⟩
   unfold fJ.text ud;rw [Eq (by omega)];have:=AI p.sk.col p.sk.wait t;show (nj p.sk.col p.sk.wait t).toNat+0<=_;simp;omega
  ·intro e
   exfalso
   have:(p.sk.text t).fresh=true:=e;unfold fJ.text at this;rw [Eq (by omega)] at this;cases this
 |brk m hq=>
  obtain ⟨O,Q⟩:=sP hq;show Bp (if p.brk n need then p.endl else p.hold m.toNat) _
  split
  ·exact h.endl.mono (by simp [ud,bE])
  ·exact (h.hold _).mono (by simp [ud,bE];omega)
 |beg m e hq=>
  refine ⟨SY C (by omega),SY H (by omega),?_,?_,h.wt⟩
  ·show min (p.bl.ind+m.toNat) 1000<=1000
   omega
  ·intro b F
   rcases Tt.1 F with rfl|F
   ·exact I
   ·exact h.ar b F
 |blank=>exact (h.hold 1).mono (by simp [ud,bE])
 |hard=>exact h.endl.mono (by simp [ud,bE])
 |empty=>
  show Bp (if p.en then { p with sk:=p.sk.empty,en:=false } else p) _
  split
  ·unfold fJ.empty
   split
   ·rename_i G
    rw [IO G] at C;refine ⟨?_,?_,I,h.ar,fun _=>rfl⟩
    ·show (p.sk.out++[10]).length+0+p.sk.col<=_
     rw [Or];simp [ud,bE];omega
    ·show p.sk.col+0<=_
     omega
   ·rename_i G
    exact ⟨SY C (by omega),SY H (by omega),I,h.ar,h.wt⟩
  ·exact h.mono (by omega)
 | «end»=>
  refine ⟨SY C (by omega),SY H (by omega),?_,fun b F=>h.ar b (List.mem_of_mem_tail F),h.wt⟩;show (p.ar.headD ⟨0,false,false⟩).ind<=1000;cases J:p.ar with
  |nil=>simp
  |cons b r=>exact h.ar b (by rw [J];exact S4)
theorem sV {n:Nat}:∀(l:List Dc) (ms:List Nat) (p:Pr) (U:Nat),(∀d∈l,rt d=true)->Bp p U->Bp (puts n l ms p) (U+qD l)
 |[],ms,p,U,_,h=>by simpa [puts,qD] using h
 |d :: r,[],p,U,_,h=>h.mono (by omega)
 |d :: r,m :: ms,p,U,hr,h=>by
  have:=sV (n:=n) r ms _ _ (fun x C=>hr x (SZ _ C)) (NH (n:=n) (need:=m) (hr d S4) h);have e:U+qD (d :: r)=U+ud d+qD r:=by simp [qD];omega
  rw [e];exact this
theorem Fe {n need:Nat}{d:Dc}{p:Pr}(hd:rt d=true) {o:Int}(h:(p.ar.length:Int)=o) (C:0<=o+dD d.k):((put n d need p).ar.length:Int)=o+dD d.k:=by
 cases mO hd with
 |text t hq=>simpa [put,dD] using h
 |brk m hq=>
  have:((put n ⟨3,bE,m,0,false⟩ need p).ar)=p.ar:=by
   show (if p.brk n need then p.endl else p.hold m.toNat).ar=p.ar
   unfold Pr.endl Pr.hold
   repeat' split
   all_goals rfl
  rw [this];simpa [dD] using h
 |beg m e hq=>
  show (((p.bl :: p.ar).length:Nat):Int)=o+1
  simp;omega
 |blank=>
  have:(p.hold 1).ar=p.ar:=by unfold Pr.hold;split <;> rfl
  show ((p.hold 1).ar.length:Int)=o+0
  rw [this];omega
 |hard=>
  have:p.endl.ar=p.ar:=by unfold Pr.endl;split <;> rfl
  show (p.endl.ar.length:Int)=o+0
  rw [this];omega
 |empty=>
  have:(if p.en then { p with sk:=p.sk.empty,en:=false } else p).ar=p.ar:=by split <;> rfl
  show (((if p.en then { p with sk:=p.sk.empty,en:=false } else p).ar.length:Nat):Int)=o+0
  rw [this];omega
 | «end»=>
  show ((p.ar.tail.length:Nat):Int)=o+-1
  have:0<=o+-1:=C;rw [List.length_tail];omega
end Go.Proofs.YtcjiapphbpiffaaGreatDoor.Lw
namespace Go.Proofs.YtcjiapphbpiffaaGreatDoor.Lw
open Go.Proofs.YtcjiapphbpiffaaGreatDoor.Lx
open Go.RowKit
variable {B gb ga:Nat}{w:World}{s:Sp}{st:List Sp}
theorem QX (l:List UInt8):decide (0<=Lib.indexByte l 10)=decide ((10:UInt8)∈l)/\-1<=Lib.indexByte l 10:=by
 induction l with
 |nil=>exact ⟨rfl,by decide⟩
 |cons b l ih=>
  unfold Lib.indexByte
  by_cases H:b=10
  ·subst H;simp
  ·have I:(b == (10:UInt8))=false:=by simpa using H
   have C:¬(10:UInt8)=b:=fun h=>H h.symm
   rw [I];obtain ⟨J,M⟩:=ih
   generalize Lib.indexByte l 10=z at *
   by_cases F:(10:UInt8)∈l
   ·have:0<=z:=by simpa [F] using J
    have G:¬z=-1:=by omega
    simp [F,C,G];omega
   ·have:¬0<=z:=by simpa [F] using J
    have G:z=-1:=by omega
    simp [F,C,G]
theorem kc (s:ByteArray) (w:World) :
  Ta 214 #[.string s,.int .u8 10] w fun e w'=>e=.returned (.int .i64 (Lib.indexByte s.data.toList 10))/\w'=w:=by
 go_enter Tryz.func214,Tryz.ntmps214
 go_wp2
 rw [run_callFunc_extern Tryz.func229 (by kernel_rfl) (by kernel_rfl) (by kernel_rfl) (e:=Extern.BytealgIndexByte.indexByte) (by kernel_rfl),Lib.run_indexByteString];simp only [Result.andThen];rw [W4]
 go_wp2
 go_ret
 exact ⟨rfl,rfl⟩
theorem jz (s:ByteArray) (w:World) :
  Ta 212 #[.string s,.string ⟨#[10]⟩] w fun e w'=>e=.returned (.int .i64 (Lib.indexByte s.data.toList 10))/\w'=w:=by
 go_enter Tryz.func212,Tryz.ntmps212
 go_wp2_with (go_at_call 214;refine (kc _ _).mono ?_;rintro e w' ⟨rfl,rfl⟩)
 ·have h:([(10:UInt8)] == s.toList)=true:=by assumption
  have e:s.data.toList=[10]:=by rw [<-Lib.toList_data];exact (TY.1 h).symm
  have C:Lib.indexByte s.data.toList 10=0:=by rw [e];rfl
  go_ret
  exact ⟨by rw [C];rfl,rfl⟩
 ·go_ret
  exact ⟨rfl,rfl⟩
theorem yc (s:ByteArray) (w:World) :
  Ta 177 #[.string s,.string ⟨#[10]⟩] w fun e w'=>e=.returned (.int .i64 (Lib.indexByte s.data.toList 10))/\w'=w:=by
 go_enter Tryz.func177,Tryz.ntmps177
 go_wp2_with (go_at_call 212;refine (jz _ _).mono ?_;rintro e w' ⟨rfl,rfl⟩)
 go_ret
 exact ⟨rfl,rfl⟩
theorem KV (s:ByteArray) (w:World) :
  Ta 140 #[.string s,.string ⟨#[10]⟩] w fun e w'=>e=.returned (.bool (Gh s))/\w'=w:=by
 have h:=(QX s.data.toList).1;unfold Gh;rw [<-h];clear h
 go_enter Tryz.func140,Tryz.ntmps140
 go_wp2_with (go_at_call 177;refine (yc _ _).mono ?_;rintro e w' ⟨rfl,rfl⟩)
 go_ret
 exact ⟨rfl,rfl⟩
def ux (t:ByteArray):Nat:=if Gh t then 4097 else (tw t).toNat
theorem xm (s:ByteArray) (w:World) (F:kl w) (J:s.size<=8589934592) :
  Ta 88 #[.string s] w fun e w'=>e=.returned (.int .i64 (ux s))/\Below w.heap.size w w':=by
 have H:=qX s;have C:=lD s w F J;have G:=KV s w;unfold ux
 generalize Gh s=b at *
 cases b
 ·obtain ⟨z,I⟩:∃z:Nat,tw s=z:=⟨(tw s).toNat,by omega⟩;rw [I] at C ⊢;clear H I F
  go_enter Tryz.func88,Tryz.ntmps88
  go_wp2_with (first|(go_at_call 140;refine G.mono ?_;rintro e M ⟨rfl,rfl⟩)|(go_at_call 141;refine C.mono ?_;rintro e w2 ⟨rfl,hb2⟩))
  go_ret
  exact ⟨by simp,hb2⟩
 ·clear H F C
  go_enter Tryz.func88,Tryz.ntmps88
  go_wp2_with (first|(go_at_call 140;refine G.mono ?_;rintro e M ⟨rfl,rfl⟩))
  go_ret
  exact ⟨rfl,hH _ _⟩
def II (s:Sp):List Value:=[.int .i64 s.all,.int .i64 s.hang]
theorem Jz (s:Sp):(II s).length=2:=rfl
theorem BJ (g:Nat) (s:Sp) (c:Nat) (w:World) (C:w.heap[g]?=some (.cells #[.int .i64 s.all,.int .i64 s.hang] 166 (0,0))) (I:Sb s) (hc:c<=1000000000) :
  Ta 87 #[.pointer (some ⟨g,0,none⟩),.int .i64 c] w fun e w'=>e=.returned (.tuple #[])/\w'.heap[g]?=some (.cells #[.int .i64 (s.wid c).all,.int .i64 (s.wid c).hang] 166 (0,0))/\Kp (fun k=>k=g) w w':=by
 obtain ⟨a,h⟩:=s;obtain ⟨ha,hh⟩:=I;simp only at ha hh C;have Q:w.cell? ⟨g,0,none⟩=some (.int .i64 a):=af C rfl;have S:w.cell? ⟨g,1,none⟩=some (.int .i64 h):=af C rfl;have M:w.frozen? ⟨g,0,none⟩=false:=am C;have O:w.frozen? ⟨g,1,none⟩=false:=am C
 have F:Hid (((w.setCell ⟨g,0,none⟩ (.int .i64 (min (a+c) 4097:Nat))).setCell ⟨g,1,none⟩ (.int .i64 (min (h+c) 4097:Nat))).heap[g]?=some (.cells #[.int .i64 (min (a+c) 4097:Nat),.int .i64 (min (h+c) 4097:Nat)] 166 (0,0))/\Kp (fun k=>k=g) w ((w.setCell ⟨g,0,none⟩ (.int .i64 (min (a+c) 4097:Nat))).setCell ⟨g,1,none⟩ (.int .i64 (min (h+c) 4097:Nat)))):=
  ⟨aj (aj C 0 _) 1 _,(Kp.set _ _ _ _).trans (Kp.set _ _ _ _)⟩
 simp only [Sp.wid];have G:((min (a+c) 4097:Nat):Int)=min ((a:Int)+c) 4097:=by omega
 have H:((min (h+c) 4097:Nat):Int)=min ((h:Int)+c) 4097:=by omega
 rw [G,H] at F ⊢;have J:(w.setCell ⟨g,0,none⟩ (.int .i64 (min ((a:Int)+c) 4097))).cell? ⟨g,1,none⟩=some (.int .i64 h):=af (aj C 0 _) rfl;clear C
 go_enter Tryz.func87,Tryz.ntmps87
 go_wp2_with fail
 go_end0
 exact ⟨rfl,F.out⟩
theorem Tryz.info166:(Tryz.prog.info? 166).map (fun i=>(i.zero,i.size,i.bytes))=some (some (.agg #[.int .i64 0,.int .i64 0]),2,16):=by kernel_rfl
structure TL (B:Nat) (w:World) (gb ga:Nat) (s:Sp) (st:List Sp):Prop where
 hb:w.heap[gb]?=some (.cells #[.int .i64 s.all,.int .i64 s.hang] 166 (0,0))
 ha:∃v,w.heap[ga]?=some (.cells #[v] 167 (0,0))/\w.ownsRow 0 166 2 v st.length (bB II st.reverse)/\∀k,v.ownBlock=some k->B<=k/\k≠gb
theorem TL.ne (h:TL B w gb ga s st):ga≠gb:=by
 obtain ⟨v,C,_⟩:=h.ha;rintro rfl;have:=h.hb;rw [C] at this;injection this with e
 injection e with _ e
 exact absurd e (by decide)
theorem TL.sub {B:Nat}{w w':World}{gb ga:Nat}{s s':Sp}{st:List Sp}(h:TL B w gb ga s st) (G:Kp (fun k=>k=gb) w w') (O:w'.heap[gb]?=some (.cells #[.int .i64 s'.all,.int .i64 s'.hang] 166 (0,0))):TL B w' gb ga s' st:=by
 have C:=h.ne;obtain ⟨v,J,M,F⟩:=h.ha;exact ⟨O,⟨v,G.blk J C,G.row M (fun k H I=>(F k H).2 I),F⟩⟩
theorem TL.below {w':World}(h:TL B w gb ga s st) (C:Below w.heap.size w w'):TL B w' gb ga s st:=by
 obtain ⟨v,F,G,H⟩:=h.ha;exact ⟨ag h.hb C,⟨v,ag F C,bv G C,H⟩⟩
def Sx (B gb ga:Nat) (k:Nat):Prop:=k=gb\/k=ga\/B<=k
end Go.Proofs.YtcjiapphbpiffaaGreatDoor.Lw
namespace Go.Proofs.YtcjiapphbpiffaaGreatDoor
open Go.Proofs.YtcjiapphbpiffaaGreatDoor.Lw
open Go.Proofs.YtcjiapphbpiffaaGreatDoor.Lx
open Go.RowKit
theorem Kp.wide {S T:Nat->Prop}{w w':World}(h:Kp S w w') (C:∀k,S k->T k):Kp T w w':=⟨h.os,h.tape,h.output,h.size,fun k G F=>h.block k G (fun H=>F (C k H))⟩
end Go.Proofs.YtcjiapphbpiffaaGreatDoor
namespace Go.Proofs.YtcjiapphbpiffaaGreatDoor.Lw
open Go.Proofs.YtcjiapphbpiffaaGreatDoor.Lx
open Go.RowKit
variable {w w':World}{B gb ga:Nat}{s:Sp}{st:List Sp}
def Bo (B gb ga:Nat) (w w':World):Prop:=Kp (Sx B gb ga) w w'/\KeepsOthers w w'
theorem Bo.trans {B gb ga:Nat}{a b c:World}(h:Bo B gb ga a b) (k:Bo B gb ga b c):Bo B gb ga a c:=⟨h.1.trans k.1,h.2.trans k.2⟩
theorem Bo.size {B gb ga:Nat}{a b:World}(h:Bo B gb ga a b):a.heap.size<=b.heap.size:=h.1.size
theorem iS (h:Below w.heap.size w w'):KeepsOthers w w':=⟨h.size,fun k o C _=>(h.block k (au C)).trans C⟩
theorem Bo.of_below {B gb ga:Nat}{w w':World}(h:Below w.heap.size w w'):Bo B gb ga w w':=⟨Kp.of_below h,iS h⟩
theorem iR {S:Nat->Prop}(h:Kp S w w') (G:∀k,S k->∀o,w.heap[k]?=some o->o.isCells=true):KeepsOthers w w':=
 ⟨h.size,fun k o C F=>h.blk C (fun H=>by rw [G k H o C] at F;cases F)⟩
theorem dg {g:Nat}{cs:Array Value}{T:TypeId}{f:Nat × Nat}(h:w.heap[g]?=some (.cells cs T f)):∀o,w.heap[g]?=some o->o.isCells=true:=by
 intro o C;rw [h] at C;cases C;rfl
theorem iD (h:TL B w gb ga s st) (G:Sb s) (c:Nat) (hc:c<=1000000000) (H:B<=w.heap.size) :
  Ta 87 #[.pointer (some ⟨gb,0,none⟩),.int .i64 c] w fun e w'=>e=.returned (.tuple #[])/\TL B w' gb ga (s.wid c) st/\Bo B gb ga w w':=by
 refine (BJ gb s c w h.hb G hc).mono ?_;rintro e w' ⟨rfl,F,C⟩;exact ⟨rfl,h.sub C F,C.wide (fun k e=>.inl e),iR C (fun k e=>by subst e;exact dg h.hb)⟩
theorem TL.hang0 (h:TL B w gb ga s st) (F:B<=w.heap.size):TL B (w.setCell ⟨gb,1,none⟩ (.int .i64 0)) gb ga ⟨s.all,0⟩ st/\Bo B gb ga w (w.setCell ⟨gb,1,none⟩ (.int .i64 0)):=by
 have C:=Kp.set w gb 1 (.int .i64 0);exact ⟨h.sub C (aj h.hb 1 _),C.wide (fun k e=>.inl e),iR C (fun k e=>by subst e;exact dg h.hb)⟩
def TA (B:Nat) (w:World) (gb ga:Nat) (r:Nat × Sp × List Sp) (e:Ending) (w':World):Prop:=e=.returned (.int .i64 r.1)/\TL B w' gb ga r.2.1 r.2.2/\Bo B gb ga w w'
theorem BO (h:TL B w gb ga s st) (Z:Sb s) (I:B<=w.heap.size) (Q:∀W,Kp (Sx B gb ga) w W->kl W) (t:ByteArray) (ht:t.size<=65535) :
  Ta 86 #[.agg #[.int .u8 1,.string t,.int .i64 0,.int .i64 0,.bool false],.pointer (some ⟨ga,0,none⟩),.pointer (some ⟨gb,0,none⟩)] w fun e w'=>TA B w gb ga (0,s.wid (ux t),st) e w':=by
 have M:ux t<=1000000000:=by have:=qX t;unfold ux;split <;> omega
 have U:Hid (∀W,Bo B gb ga w W->Ta 88 #[.string t] W fun e w'=>e=.returned (.int .i64 (ux t))/\Tb W w'):=fun W J=>xm t W (Q W J.1) (by omega)
 have HW:Hid (∀W,Bo B gb ga w W->TL B W gb ga s st->Ta 87 #[.pointer (some ⟨gb,0,none⟩),.int .i64 (ux t)] W fun e w'=>e=.returned (.tuple #[])/\TL B w' gb ga (s.wid (ux t)) st/\Bo B gb ga W w'):=fun W J Y=>iD Y Z _ M (SY I J.size)
 have H:Hid (TL B w gb ga s st/\B<=w.heap.size):=⟨h,I⟩;have G:Hid (∀o,Bo B gb ga w (w.alloc o)/\TL B (w.alloc o) gb ga s st):=fun o=>⟨Bo.of_below ((hH _ _).alloc (gt _) _),h.below ((hH _ _).alloc (gt _) _)⟩
 clear h I Q
 generalize ux t=c at *
 go_enter Ws,V2
 go_wp2_with (first|(go_at_call 88;refine (U.out _ (G.out _).1).mono ?_;rintro e S ⟨rfl,C⟩;have F:Hid (Bo B gb ga w S/\TL B S gb ga s st):=⟨(G.out _).1.trans (Bo.of_below C),(G.out _).2.below C⟩;clear C)|(go_at_call 87;refine (HW.out _ F.out.1 F.out.2).mono ?_;rintro e w2 ⟨rfl,h2,hb2⟩;have O:Hid (TL B w2 gb ga (s.wid c) st/\Bo B gb ga w w2):=⟨h2,F.out.1.trans hb2⟩;clear h2 hb2))
 go_ret
 exact ⟨rfl,O.out.1,O.out.2⟩
theorem xX (h:TL B w gb ga s st) (Q:Sb s) (I:B<=w.heap.size) :
  Ta 86 #[.agg #[.int .u8 2,.string ⟨#[]⟩,.int .i64 0,.int .i64 0,.bool false],.pointer (some ⟨ga,0,none⟩),.pointer (some ⟨gb,0,none⟩)] w fun e w'=>TA B w gb ga (0,s.wid 1,st) e w':=by
 have HW:Hid (∀W,Bo B gb ga w W->TL B W gb ga s st->Ta 87 #[.pointer (some ⟨gb,0,none⟩),.int .i64 1] W fun e w'=>e=.returned (.tuple #[])/\TL B w' gb ga (s.wid 1) st/\Bo B gb ga W w'):=fun W O M=>iD M Q 1 (by omega) (SY I O.size)
 have F:Hid (∀o,Bo B gb ga w (w.alloc o)/\TL B (w.alloc o) gb ga s st):=fun o=>⟨Bo.of_below ((hH _ _).alloc (gt _) _),h.below ((hH _ _).alloc (gt _) _)⟩
 clear h I
 go_enter Ws,V2
 go_wp2_with (first|(go_at_call 87;refine (HW.out _ (F.out _).1 (F.out _).2).mono ?_;rintro e J ⟨rfl,H,C⟩;have G:Hid (TL B J gb ga (s.wid 1) st/\Bo B gb ga w J):=⟨H,(F.out _).1.trans C⟩;clear H C))
 go_ret
 exact ⟨rfl,G.out.1,G.out.2⟩
theorem qY (h:TL B w gb ga s st) (Y:Sb s) (I:B<=w.heap.size) (k:Int) (U:k=4\/k=5) :
  Ta 86 #[.agg #[.int .u8 k,.string ⟨#[]⟩,.int .i64 0,.int .i64 0,.bool false],.pointer (some ⟨ga,0,none⟩),.pointer (some ⟨gb,0,none⟩)] w fun e w'=>TA B w gb ga (0,⟨(s.wid 4097).all,0⟩,st) e w':=by
 have HW:Hid (∀W,Bo B gb ga w W->TL B W gb ga s st->Ta 87 #[.pointer (some ⟨gb,0,none⟩),.int .i64 4097] W fun e w'=>e=.returned (.tuple #[])/\TL B w' gb ga (s.wid 4097) st/\Bo B gb ga W w'):=fun W S Q=>iD Q Y 4097 (by omega) (SY I S.size)
 have H:Hid (∀o,Bo B gb ga w (w.alloc o)/\TL B (w.alloc o) gb ga s st):=fun o=>⟨Bo.of_below ((hH _ _).alloc (gt _) _),h.below ((hH _ _).alloc (gt _) _)⟩
 have O:Hid (B<=w.heap.size):=I;clear h I
 rcases U with rfl|rfl
 all_goals
  go_enter Ws,V2
  go_wp2_with (first|(go_at_call 87;refine (HW.out _ (H.out _).1 (H.out _).2).mono ?_;rintro e M ⟨rfl,F,C⟩;have Z:=am (k:=1) F.hb;have c1:=af (k:=1) F.hb rfl;have G:Hid (TL B M gb ga (s.wid 4097) st/\Bo B gb ga w M):=⟨F,(H.out _).1.trans C⟩;clear F C))
  go_ret
  have J:=G.out.1.hang0 (SY O.out G.out.2.size);exact ⟨rfl,J.1,G.out.2.trans J.2⟩
theorem Ef (h:TL B w gb ga s st) (U:Sb s) (I:B<=w.heap.size) (b:Nat) (Z:b<=1000) :
  Ta 86 #[.agg #[.int .u8 3,.string ⟨#[]⟩,.int .i64 b,.int .i64 0,.bool false],.pointer (some ⟨ga,0,none⟩),.pointer (some ⟨gb,0,none⟩)] w fun e w'=>TA B w gb ga ((s.wid b).hang,⟨(s.wid b).all,0⟩,st) e w':=by
 have HW:Hid (∀W,Bo B gb ga w W->TL B W gb ga s st->Ta 87 #[.pointer (some ⟨gb,0,none⟩),.int .i64 b] W fun e w'=>e=.returned (.tuple #[])/\TL B w' gb ga (s.wid b) st/\Bo B gb ga W w'):=fun W S Q=>iD Q U b (by omega) (SY I S.size)
 have H:Hid (∀o,Bo B gb ga w (w.alloc o)/\TL B (w.alloc o) gb ga s st):=fun o=>⟨Bo.of_below ((hH _ _).alloc (gt _) _),h.below ((hH _ _).alloc (gt _) _)⟩
 have O:Hid (B<=w.heap.size):=I;clear h I
 go_enter Ws,V2
 go_wp2_with (first|(go_at_call 87;refine (HW.out _ (H.out _).1 (H.out _).2).mono ?_;rintro e M ⟨rfl,F,C⟩;have Y:=am (k:=1) F.hb;have c1:=af (k:=1) F.hb rfl;have G:Hid (TL B M gb ga (s.wid b) st/\Bo B gb ga w M):=⟨F,(H.out _).1.trans C⟩;clear F C))
 go_ret
 have J:=G.out.1.hang0 (SY O.out G.out.2.size);exact ⟨rfl,J.1,G.out.2.trans J.2⟩
end Go.Proofs.YtcjiapphbpiffaaGreatDoor.Lw
