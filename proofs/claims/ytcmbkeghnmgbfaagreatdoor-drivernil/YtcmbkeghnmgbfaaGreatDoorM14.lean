import Derived.Lib.RepeatB
import Derived.Deep.RegionHeld3
import Derived.Lib.LastIndexByte
import Derived.Test.YtcmbkeghnmgbfaaGreatDoorM13
set_option linter.all false
set_option maxHeartbeats 2000000
namespace Go.Proofs.YtcmbkeghnmgbfaaGreatDoor.Lw
open Lx
open Go.RowKit
open Go.Lib (strCells strCells_length)
variable {w0 W W':World}{g b:Nat}{bs:List UInt8}
theorem zZ (n:Nat):Lib.repeatL [32] n=List.replicate n 32:=by
 induction n with
 |zero=>rfl
 |succ n ih=>show[32]++Lib.repeatL [32] n=_;rw[ih];rfl
def kA (n:Nat):ByteArray:=⟨(List.replicate n 32).toArray⟩
theorem iU (n:Nat):(kA n).size=n:=by show(List.replicate n (32:UInt8)).toArray.size=n;simp
theorem DM (n:Nat) (w:World) (F:n<=8589934592):Kb 213 #[.string ⟨#[32]⟩,.int .i64 n] w fun e w'=>e=.returned (.string (kA n))/\Below w.heap.size w w':=by
 refine(sV ⟨#[32]⟩ n w (by omega) (by show 1*n<=_;omega)).mono ?_;rintro e w'⟨rfl,u⟩;refine⟨?_,u⟩;show Ending.returned (.string ⟨(Lib.repeatL [32] n).toArray⟩)=_;rw[zZ];rfl
structure Tk (w0:World) (g b:Nat) (bs:List UInt8) (W:World):Prop where
 lo:Below w0.heap.size w0 W
 hb:W.heap[w0.heap.size]?=some (.cells #[.pointer (some ⟨g,0,none⟩)] 114 (0,0))
 bd:∃v,Bd b v bs W/\∀k,v.ownBlock=some k->w0.heap.size<=k
 bl:w0.heap.size<=b
def Kt (W W':World):Prop:=∀(k:Nat) (cs:Array Value) (T:TypeId) (f:Nat × Nat),W.heap[k]?=some (.cells cs T f)->T≠298->T≠5->W'.heap[k]?=some (.cells cs T f)
theorem Tk.below (h:Tk w0 g b bs W) (u:Below W.heap.size W W'):Tk w0 g b bs W':=by
 obtain⟨v,⟨F,G⟩,H⟩:=h.bd;exact⟨h.lo.trans (u.mono h.lo.size),af h.hb u,⟨v,⟨af F u,bi G u⟩,H⟩,h.bl⟩
theorem Tk.wrote {I:List UInt8}{v:Value}(h:Tk w0 g b bs W) (J:Bd b v bs W) (hv:∀k,v.ownBlock=some k->w0.heap.size<=k) (hw:Bw b v I W W'):Tk w0 g b I W'/\Kt W W':=by
 obtain⟨v',h1,G,F⟩:=hw
 have M:∀{x:Array Value} {k:Nat} {T:TypeId} {f:Nat × Nat},W.heap[k]?=some (.cells x T f)->T≠298->T≠5->¬(k=b\/some k=v.ownBlock):=by
  intro x k T f u O t2 H
  rcases H with H|H
  ·exact jw u J.blk O H
  ·exact aE J.row u t2 H.symm
 refine⟨⟨?_,F.blk h.hb (M h.hb (by decide) (by decide)),⟨v',h1,?_⟩,h.bl⟩,fun k cs T f u O t2=>F.blk u (M u O t2)⟩
 ·refine⟨F.os.trans h.lo.os,F.tape.trans h.lo.tape,F.output.trans h.lo.output,Kh h.lo.size F.size,fun k u=>(F.block k (Kl u h.lo.size) ?_).trans (h.lo.block k u)⟩;rintro(e|e)
  ·have:=h.bl;omega
  ·have:=hv k e.symm;omega
 ·intro k u
  rcases G with G|G
  ·exact hv k (by rw[<-G];exact u)
  ·rw[G]at u;injection u with u;subst u;exact h.lo.size
theorem Tk.write (h:Tk w0 g b bs W) (l:List UInt8) (ad:Addr) (m c:Nat) (hl:l.length=m) (F:∀j u,(bc l)[j]?=some u->W.cell? (ad.add j)=some u) (I:bs.length+m<=70368744177664) :
  Kb 211 #[.pointer (some ⟨b,0,none⟩),.slice (some ad) m c] W fun e w'=>e=.returned (.tuple #[.int .i64 m,.nilIface])/\Tk w0 g b (bs++l) w'/\Kt W w':=by
 obtain⟨v,G,H⟩:=h.bd;refine(Hs b v bs l ad m c W G hl F I).mono ?_;rintro e w'⟨rfl,hw⟩;exact⟨rfl,h.wrote G H hw⟩
theorem Tk.write_none (h:Tk w0 g b bs W) :
  Kb 211 #[.pointer (some ⟨b,0,none⟩),.slice none 0 0] W fun e w'=>e=.returned (.tuple #[.int .i64 0,.nilIface])/\Tk w0 g b (bs++[]) w'/\Kt W w':=by
 obtain⟨v,u,F⟩:=h.bd;refine(rT b v bs W u).mono ?_;rintro e w'⟨rfl,hw⟩;exact⟨rfl,h.wrote u F hw⟩
theorem Tk.wstr (h:Tk w0 g b bs W) (t:ByteArray) (G:bs.length+t.size<=70368744177664) :
  Kb 212 #[.pointer (some ⟨b,0,none⟩),.string t] W fun e w'=>e=.returned (.tuple #[.int .i64 t.size,.nilIface])/\Tk w0 g b (bs++t.data.toList) w'/\Kt W w':=by
 obtain⟨v,u,F⟩:=h.bd;refine(Jf b v bs t W u G).mono ?_;rintro e w'⟨rfl,hw⟩;exact⟨rfl,h.wrote u F hw⟩
theorem pU {tv:Value}{text:List UInt8}{F cap:Nat}(hr:w0.ownsRow 0 5 1 tv text.length (bc text)) (he:tv=.slice (some ⟨F,0,none⟩) text.length cap) (hb:Below w0.heap.size w0 W) (f m:Nat):∀j u,(bc ((text.drop f).take m))[j]?=some u->W.cell? ((⟨F,f,none⟩:Addr).add j)=some u:=by
 intro j u G
 have J:(bc text)[f+j]?=some u:=by
  have:(bc ((text.drop f).take m))[j]?=((bc text).drop f |>.take m)[j]?:=by rw[Fq,Fp]
  rw[this]at G
  have I:j<m:=by
   have:=(Kq.1 G).1;rw[Kz]at this;omega
  rw[KI,Kd I,KD]at G;exact G
 have H:=hr.cells (g:=F) (by rw[he];rfl) (f+j) u J;rw[Id]at H;have M:=(hb.cell (p:=⟨F,f+j,none⟩) (Kg _ _ H)).trans H
 have O:(⟨F,f,none⟩:Addr).add j=⟨F,f+j,none⟩:=by
  unfold Addr.add
  split<;>simp_all
 rw[O];exact M
def cK.take (s:cK):cK:=⟨s.fresh,s.col,s.wait,[]⟩
def oR (gs:List (Nat × Nat)):Nat->Nat
 |0=>0
 |k+1=>(gs.getD k (0,0)).1
end Go.Proofs.YtcmbkeghnmgbfaaGreatDoor.Lw
namespace Go.Proofs.YtcmbkeghnmgbfaaGreatDoor
open Lw
open Lx
open Go.RowKit
open Go.Lib (strCells strCells_length)
theorem kC.drop {gs:List (Nat × Nat)}{n:Nat}{f:Nat}(h:kC f gs n):∀k,k<=gs.length->kC (if k=0 then f else oR gs k) (gs.drop k) n:=by
 induction gs generalizing f with
 |nil=>intro k u;obtain rfl:k=0:=(by simpa using u);exact h
 |cons x r ih=>
  obtain⟨a,m⟩:=x;intro k u;cases k with
  |zero=>exact h
  |succ k=>
   have:=ih h.2 k (by simpa using u);simp only[List.drop_succ_cons];cases k with
   |zero=>exact this
   |succ k=>exact this
end Go.Proofs.YtcmbkeghnmgbfaaGreatDoor
namespace Go.Proofs.YtcmbkeghnmgbfaaGreatDoor.Lw
open Lx
open Go.RowKit
open Go.Lib (strCells strCells_length)
variable {U k a j:Nat}{w':World}{l:List Dc}{d:Dc}{o:Int}
theorem sF {gs:List (Nat × Nat)}{n f:Nat}{t:List UInt8}(h:gs[k]?=some (a,n)):bY f (gs.drop k) t=(t.drop f).take (a-f)++(List.replicate n 32++bY a (gs.drop (k+1)) t):=by
 obtain⟨hl,u⟩:=Kq.1 h;rw[KO hl,u];rfl
theorem yp {gs:List (Nat × Nat)}{n:Nat}(h:gs[k]?=some (a,n)):oR gs (k+1)=a:=by
 show(gs.getD k (0,0)).1=a
 rw[List.getD,h];rfl
theorem Ez {gs:List (Nat × Nat)}{n m:Nat}(G:kC 0 gs m) (h:gs[k]?=some (a,n)):oR gs k<=a:=by
 obtain⟨hl,F⟩:=Kq.1 h;have:=G.drop k (by omega);rw[KO hl,F]at this;have u:=this.1;cases k with
 |zero=>exact Kj _
 |succ k=>simpa using u
theorem Tk.piece {w0:World}{g b:Nat}{bs:List UInt8}{W:World}(h:Tk w0 g b bs W) {text:List UInt8}{u cap:Nat}(J:w0.ownsRow 0 5 1 (.slice (some ⟨u,0,none⟩) text.length cap) text.length (bc text)) (f m c q:Nat) (x y:Value) (I:W.heap[q]?=some (.cells #[x,y] 300 (0,0))) (M:f+m<=text.length) (H:bs.length+m<=70368744177664) :
  Kb 211 #[.pointer (some ⟨b,0,none⟩),.slice (some ⟨u,f,none⟩) m c] W fun e w'=>e=.returned (.tuple #[.int .i64 m,.nilIface])/\Hid (Tk w0 g b (bs++(text.drop f).take m) w'/\w'.heap[q]?=some (.cells #[x,y] 300 (0,0)))/\w'.cell? ⟨q,0,none⟩=some x/\w'.cell? ⟨q,1,none⟩=some y:=by
 refine(h.write ((text.drop f).take m) ⟨u,f,none⟩ m c (by rw[Kz,KB];omega) (pU J rfl h.lo f m) H).mono ?_;rintro e w'⟨rfl,F,G⟩;have:=G q _ _ _ I (by decide) (by decide);exact⟨rfl,⟨F,this⟩,aa this rfl,aa this rfl⟩
theorem Tk.builder {w0:World}{g b:Nat}{bs:List UInt8}{W:World}(h:Tk w0 g b bs W) (hb:w0.heap.size+1<=b):Lib.IsBuilder 298 5 (w0.heap.size+1) b (Lib.byteCells bs) W:=by
 obtain⟨v,u,J⟩:=h.bd;refine .inr ⟨hb,v,u.blk,?_,aE u.row u.blk (by decide)⟩;have H:=aE u.row h.hb (by decide);have hr:=u.row;refine⟨by rw[Lib.byteCells_length];simp,?_⟩;rw[Lib.byteCells_length]
 rcases hr.2 with M|⟨I,cap,G,rfl,_,O⟩
 ·exact .inl M
 ·have h5:=J I rfl;refine .inr ⟨I,cap,G,rfl,?_,O⟩
  rcases Nat.eq_or_lt_of_le h5 with F|F
  ·exfalso;apply H;rw[F];rfl
  ·exact F
theorem IF {own:Nat->Nat}{i:Nat}{w W:World}{g:Nat}{s:cK}{tv gv:Value}(H:W.heap[g]?=some (.cells (sk (!s.fresh) s.col s.wait tv gv) 211 (0,0))) (u:own g=i) (I:Nf own w) (G:Below w.heap.size w W) (J:g<w.heap.size):Af own i w ((W.setCell ⟨g,3,none⟩ (.slice none 0 0)).setCell ⟨g,4,none⟩ (.slice none 0 0)) g s.take:=by
 have F:Kp (fun k=>k=g) w ((W.setCell ⟨g,3,none⟩ (.slice none 0 0)).setCell ⟨g,4,none⟩ (.slice none 0 0)):=((Kp.of_below G).step (Kp.set W g 3 (.slice none 0 0)) (fun _ _ h=>h)).step (Kp.set _ g 4 (.slice none 0 0)) (fun _ _ h=>h);refine⟨own,I.below F.size,F.fr (fun k _ e=>by subst e;exact u) (fun _ _=>rfl),u,.slice none 0 0,.slice none 0 0,[],[],ab (ab H 3 _) 4 _,⟨LV _ _ _ _,fun k h=>by cases h⟩,⟨LV _ _ _ _,fun k h=>by cases h⟩,Kj _,rfl,ge _,fun x h=>by cases h⟩
theorem zY {w:World}{B e sz n:Nat}{v:Value}{xs:List Value}(h:w.ownsRow B e sz v n xs):w.ownsRow 0 e sz v n xs:=by
 refine⟨h.1,?_⟩
 rcases h.2 with F|⟨g,cap,u,rfl,_,G⟩
 ·exact .inl F
 ·exact .inr ⟨g,cap,u,rfl,Kj _,G⟩
theorem Tk.start {w I w2:World}{g:Nat}(u:Below ((w.alloc (.cells #[.pointer (some ⟨g,0,none⟩)] 114)).alloc (.cells #[.pointer none,.slice none 0 0] 298)).heap.size ((w.alloc (.cells #[.pointer (some ⟨g,0,none⟩)] 114)).alloc (.cells #[.pointer none,.slice none 0 0] 298)) I)
  (M:Lib.BuilderAt 298 5 (w.heap.size+1) (w.heap.size+1) (.pointer (some ⟨w.heap.size+1,0,none⟩)) [] w2) (F:Below (w.heap.size+1) I w2):Tk w g (w.heap.size+1) [] w2:=by
 have s1:(w.alloc (.cells #[.pointer (some ⟨g,0,none⟩)] 114)).heap.size=w.heap.size+1:=Eq _ _;have G:Below w.heap.size w ((w.alloc (.cells #[.pointer (some ⟨g,0,none⟩)] 114)).alloc (.cells #[.pointer none,.slice none 0 0] 298)):=((gt _ w).alloc (ge _) _).alloc (by omega) _;have b1:((w.alloc (.cells #[.pointer (some ⟨g,0,none⟩)] 114)).alloc (.cells #[.pointer none,.slice none 0 0] 298)).heap[w.heap.size]?=some (.cells #[.pointer (some ⟨g,0,none⟩)] 114 (0,0)):=fG _ _ _ _ (am _ _);obtain⟨_,v,J,H,h3⟩:=M;refine⟨(G.trans (u.mono G.size)).trans (F.mono (by omega)),(F.block _ (by omega)).trans (af b1 u),⟨v,⟨J,zY H⟩,fun k O=>?_⟩,by omega⟩;have:=(H.lt k O).1;omega
theorem zz (own:Nat->Nat) (i g:Nat) (s:cK) (w:World) (h:SK own i w g s) (hn:Nf own w) (hb:s.out.length<=8589934592) :
  Kb 158 #[.pointer (some ⟨g,0,none⟩)] w fun e w'=>e=.returned (.string ⟨s.out.toArray⟩)/\Af own i w w' g s.take:=by
 have I:=h.len;have al:=h.lab;obtain⟨tv,gv,text,gs,h1,h2,h3,O,h5,h6,h7⟩:=h.ex;have bg:=jh O;rw[<-h5]at bg;have aj:=h2.1;have ak:=h3.1;obtain⟨p1,c1,e1,hc1,hm1⟩:=az aj;obtain⟨p2,c2,e2,hc2,hm2⟩:=az ak;obtain⟨fr,col,wait,out⟩:=s;simp only at *
 have ay:Hid (∀W,Below w.heap.size w W->Kb 210 #[.pointer (some ⟨g,0,none⟩)] W fun e w'=>e=.returned (.int .i64 (out.length:Nat))/\Below W.heap.size W w'):=by
  intro W M;have:=zJ g (!fr) col wait tv gv text.length (bc text) gs W ((M.block g I).trans h1) (bi aj M) (bi ak M) (by omega) (by omega) (by omega);rw[show out.length=text.length+bW gs by omega];exact this
 have G3:Hid (∀W,Below w.heap.size w W->W.cell? ⟨g,3,none⟩=some tv/\W.cell? ⟨g,4,none⟩=some gv):=fun W M=>⟨aa ((M.block g I).trans h1) rfl,aa ((M.block g I).trans h1) rfl⟩
 have br:=mkfn;subst e1 e2;have bh:Hid (w.ownsRow 0 300 2 (.slice p2 gs.length c2) gs.length (au eg gs)):=ak;have ad:Hid (w.ownsRow 0 5 1 (.slice p1 text.length c1) text.length (bc text)):=aj;have HU:Hid (kC 0 gs text.length/\out=bY 0 gs text/\∀x∈gs,x.1<text.length):=⟨O,h5,h7⟩
 have ab:Hid (∀(W:World),Below w.heap.size w W->W.heap[w.heap.size]?=some (.cells #[.pointer (some ⟨g,0,none⟩)] 114 (0,0))->CallsD Tryz.prog 208 #[.pointer (some ⟨w.heap.size,0,none⟩)] .returning W fun e u' w'=>u'=.returning/\(e=.returned (.tuple #[])/\Af own i w w' g (cK.take ⟨fr,col,wait,out⟩))):=by
  intro W M hh;have bf:=(M.block g I).trans h1;refine(Ci .returning (!fr) col wait w.heap.size g _ _ W bf hh ⟨_,_,_,rfl⟩ ⟨_,_,_,rfl⟩).mono ?_;rintro e u' w'⟨rfl,rfl,rfl⟩;exact⟨rfl,rfl,IF (s:=⟨fr,col,wait,out⟩) bf al hn M I⟩
 have bp:gs.length<=8589934592:=by omega
 have bo:Hid (out.length=text.length+bW gs/\gs.length<=bW gs):=⟨by omega,h6⟩;clear h h1 h2 h3 O h5 h6 h7 aj ak bg hn al
 go_enter_defers Tryz.func158,Tryz.ntmps158
 go_wp2_with fail
 have s1:(w.alloc (.cells #[.pointer (some ⟨g,0,none⟩)] 114)).heap.size=w.heap.size+1:=Eq _ _;have s2:((w.alloc (.cells #[.pointer (some ⟨g,0,none⟩)] 114)).alloc (.cells #[.pointer none,.slice none 0 0] 298)).heap.size=w.heap.size+1+1:=by rw[Eq,s1]
 have bd:Below w.heap.size w ((w.alloc (.cells #[.pointer (some ⟨g,0,none⟩)] 114)).alloc (.cells #[.pointer none,.slice none 0 0] 298)):=((gt _ w).alloc (ge _) _).alloc (by omega) _;have b2:((w.alloc (.cells #[.pointer (some ⟨g,0,none⟩)] 114)).alloc (.cells #[.pointer none,.slice none 0 0] 298)).heap[w.heap.size+1]?=some (.cells #[.pointer none,.slice none 0 0] 298 (0,0)):=by rw[<-s1];exact am _ _
 refine(ay.out _ bd).mono ?_;rintro e w1⟨rfl,ah⟩;have ax:Hid (∀w2,Lib.BuilderAt 298 5 (w.heap.size+1) (w.heap.size+1) (.pointer (some ⟨w.heap.size+1,0,none⟩)) [] w2->Below (w.heap.size+1) w1 w2->Tk w g (w.heap.size+1) [] w2):=fun w2 a b=>Tk.start ah a b
 have HG:Hid (Kb 209 #[.pointer (some ⟨w.heap.size+1,0,none⟩),.int .i64 out.length] w1 fun e w'=>e=.returned (.tuple #[])/\(Lib.BuilderAt 298 5 (w.heap.size+1) (w.heap.size+1) (.pointer (some ⟨w.heap.size+1,0,none⟩)) [] w'/\Below (w.heap.size+1) w1 w')):=
  Jg _ _ _ w1 (ge _) (af b2 ah) (by have:=ah.size;omega) (by omega)
 clear s1 s2 bd b2 ah ay
 go_wp2_with fail
 refine HG.out.mono ?_;rintro e w2⟨rfl,hB,bb⟩;have HT:Hid (Tk w g (w.heap.size+1) [] w2):=ax.out w2 hB bb;clear ax HG hB bb;have g4:=(G3.out w2 HT.out.lo).2;have g5:w2.cell? ⟨w.heap.size,0,none⟩=some (.pointer (some ⟨g,0,none⟩)):=aa HT.out.hb rfl
 go_wp2_with fail
 go_loopw [4,18] (fun f j wr=>∃k:Nat,k<=gs.length/\f=.int .i64 (oR gs k)/\j=.int .i64 k/\Hid (∃bs,Tk w g (w.heap.size+1) bs wr/\bs++bY (oR gs k) (gs.drop k) text=out)) (fun _ j _=>gs.length-(intOf j).toNat)
 case atStart=>exact⟨0,by omega,rfl,rfl,[],HT.out,HU.out.2.1.symm⟩
 case round=>
  obtain⟨k,hk,rfl,rfl,HI⟩:=hrel;clear HT g4 g5
  by_cases I:k<gs.length
  ·obtain⟨⟨a,z⟩,hx⟩:∃x,gs[k]?=some x:=⟨gs[k],Ke I⟩;obtain⟨gb,gcap,he,hgc,x1,x2⟩:=nu bh.out k (a,z) hx;injection he with e1 e2 e3
   subst e1;have bk:=HU.out.2.2 (a,z) (LF hx);simp only at x1 x2 bk;have bm:=Ez HU.out.1 hx;have be:=yp hx
   obtain⟨tb,rfl⟩:∃tb,p1=some ⟨tb,0,none⟩:=by
    rcases ad.out.2 with⟨h,h0⟩|⟨tb,cap,bj,h,_⟩
    ·omega
    ·injection h with h _ _;exact⟨tb,h⟩
   obtain⟨bs,H,G⟩:=HI.out;rw[sF hx]at G;have y1:=(H.lo.cell (p:=⟨gb,k*2,none⟩) (Kg _ _ x1)).trans x1;have y2:=(H.lo.cell (p:=⟨gb,k*2+1,none⟩) (Kg _ _ x2)).trans x2;have q1:(k:Int)<gs.length:=by omega
   obtain⟨f,hf⟩:∃f,oR gs k=f:=⟨_,rfl⟩;rw[hf]at bm G ⊢;obtain⟨V,hV⟩:∃V,V=wr.alloc (.cells #[.int .i64 a,.int .i64 z] 300):=⟨_,rfl⟩;have av:V.heap[wr.heap.size]?=some (.cells #[.int .i64 a,.int .i64 z] 300 (0,0)):=by rw[hV];exact am _ _
   have ag:Tk w g (w.heap.size+1) bs V:=H.below (by rw[hV];exact(gt _ _).alloc (ge _) _)
   have an:out.length=bs.length+(a-f)+z+(bY a (gs.drop (k+1)) text).length:=by
    rw[<-G];simp only[Kf,Kz,KB,Le];omega
   have HP:Hid (Kb 211 #[.pointer (some ⟨w.heap.size+1,0,none⟩),.slice (some ⟨tb,f,none⟩) (a-f) (c1-f)] V.drew fun e w'=>e=.returned (.tuple #[.int .i64 (a-f:Nat),.nilIface])/\Hid (Tk w g (w.heap.size+1) (bs++(text.drop f).take (a-f)) w'/\w'.heap[wr.heap.size]?=some (.cells #[.int .i64 a,.int .i64 z] 300 (0,0)))/\(w'.cell? ⟨w.heap.size,0,none⟩=some (.pointer (some ⟨g,0,none⟩))/\w'.cell? ⟨g,3,none⟩=some (.slice (some ⟨tb,0,none⟩) text.length c1)/\w'.cell? ⟨wr.heap.size,0,none⟩=some (.int .i64 a))/\w'.cell? ⟨wr.heap.size,1,none⟩=some (.int .i64 z)):=by
    refine(Tk.piece (W:=V.drew) (ag.below (N4 (gt _ _))) ad.out f (a-f) (c1-f) wr.heap.size _ _ av (by omega) (by omega)).mono ?_;rintro e w'⟨rfl,HK,k0,k1⟩;exact⟨rfl,HK,⟨aa HK.out.1.hb rfl,(G3.out w' HK.out.1.lo).1,k0⟩,k1⟩
   have v1:V.cell? ⟨w.heap.size,0,none⟩=some (.pointer (some ⟨g,0,none⟩)):=aa ag.hb rfl;have v2:=(G3.out V ag.lo).1;have v3:V.cell? ⟨wr.heap.size,0,none⟩=some (.int .i64 a):=aa av rfl;have F:Hid (bs++(List.take (a-f) (List.drop f text)++(List.replicate z 32++bY a (List.drop (k+1) gs) text))=out/\out.length=bs.length+(a-f)+z+(bY a (gs.drop (k+1)) text).length/\oR gs (k+1)=a):=⟨G,an,be⟩;have ba:Hid (V=wr.alloc (.cells #[.int .i64 a,.int .i64 z] 300)):=hV;clear hV av ag H G an HI x1 x2 hx hf be e3
   go_wp2_with fail
   rw[<-ba.out];have i1:(f:Int)<=a:=by omega
   have i2:(a:Int)<=c1:=by omega
   have i3:f<c1:=by omega
   have i4:a<=c1:=by omega
   have i5:¬(c1-f=0):=by omega
   have i6:(0:Int)<=f:=by omega
   have i7:¬(c1=f):=by omega
   go_region_held3 (fun w'=>w'.cell? ⟨w.heap.size,0,none⟩=some (.pointer (some ⟨g,0,none⟩))/\w'.cell? ⟨g,3,none⟩=some (.slice (some ⟨tb,0,none⟩) text.length c1)/\w'.cell? ⟨wr.heap.size,0,none⟩=some (.int .i64 a)) (first|assumption|(exact⟨v1,v2,v3⟩)|go_keep) (first|(go_at_call 211;(try rw[IO i7]);refine HP.out.mono ?_;rintro e w3⟨rfl,aq,z0,z1⟩))
   clear HP v1 v2 v3 z0 ba;have hz:z<=8589934592:=by have:=F.out.2.1;omega
   go_wp2_with fail
   refine(DM z w3 hz).mono ?_;rintro e w4⟨rfl,aw⟩;have ar:Hid (Tk w g (w.heap.size+1) (bs++(text.drop f).take (a-f)) w4/\w4.heap[wr.heap.size]?=some (.cells #[.int .i64 a,.int .i64 z] 300 (0,0))):=⟨aq.out.1.below aw,af aq.out.2 aw⟩
   have HW:Hid (Kb 212 #[.pointer (some ⟨w.heap.size+1,0,none⟩),.string (kA z)] w4 fun e w'=>e=.returned (.tuple #[.int .i64 z,.nilIface])/\Hid (Tk w g (w.heap.size+1) ((bs++(text.drop f).take (a-f))++List.replicate z 32) w')/\w'.cell? ⟨wr.heap.size,0,none⟩=some (.int .i64 a)):=by
    refine(ar.out.1.wstr (kA z) (by rw[iU,Kf,Kz];have:=F.out.2.1;omega)).mono ?_;rintro e w'⟨rfl,h1,h2⟩;exact⟨by rw[iU],h1,aa (h2 _ _ _ _ ar.out.2 (by decide) (by decide)) rfl⟩
   clear aw aq z1 ar
   go_wp2_with fail
   refine HW.out.mono ?_;rintro e w5⟨rfl,J,u0⟩;clear HW
   go_wp2_with fail
   refine⟨⟨k+1,I,by rw[F.out.2.2],by go_num,_,J.out,?_⟩,by simp[intOf];omega⟩;rw[F.out.2.2];have:=F.out.1;simp only[Ks]at this ⊢;exact this
  ·obtain rfl:k=gs.length:=by omega
   obtain⟨bs,H,G⟩:=HI.out
   have bn:oR gs gs.length<=text.length:=by
    have:=(HU.out.1.drop gs.length (ge _)).le
    split at this
    ·rename_i h0;rw[h0];exact Kj _
    ·exact this
   rw[LT]at G;have q1:¬((gs.length:Int)<gs.length):=by omega
   obtain⟨f,hf⟩:∃f,oR gs gs.length=f:=⟨_,rfl⟩;rw[hf]at bn G ⊢;have F:Hid (bs++text.drop f=out):=G;have v1:wr.cell? ⟨w.heap.size,0,none⟩=some (.pointer (some ⟨g,0,none⟩)):=aa H.hb rfl;have v2:=(G3.out wr H.lo).1;have ae:Hid (Tk w g (w.heap.size+1) bs wr):=H;clear H HI G hf
   have ac:Hid (∀W,Tk w g (w.heap.size+1) out W->Kb 214 #[.pointer (some ⟨w.heap.size+1,0,none⟩)] W fun e w'=>e=.returned (.string ⟨out.toArray⟩)/\Hid (Below w.heap.size w w'/\w'.heap[w.heap.size]?=some (.cells #[.pointer (some ⟨g,0,none⟩)] 114 (0,0)))):=by
    intro W M;have hsz:=ai M.hb;refine(Fh (w.heap.size+1) (w.heap.size+1) out W (M.builder (ge _)) (by omega)).mono ?_;rintro e w'⟨rfl,hb⟩;exact⟨rfl,M.lo.trans (hb.mono (by omega)),(hb.block _ (by omega)).trans M.hb⟩
   rcases ad.out.2 with⟨h,h0⟩|⟨tb,cap,bj,h,_⟩
   ·injection h with h1 h2 h3
    subst h1;subst h3;obtain rfl:f=0:=by omega
    have KW:Hid (Kb 211 #[.pointer (some ⟨w.heap.size+1,0,none⟩),.slice none 0 0] wr fun e w'=>e=.returned (.tuple #[.int .i64 0,.nilIface])/\Hid (Tk w g (w.heap.size+1) out w')):=by
     refine ae.out.write_none.mono ?_;rintro e w'⟨rfl,O,_⟩;have:bs++[]=out:=by rw[<-F.out,Kx h0];rfl
     rw[this]at O;exact⟨rfl,O⟩
    rw[h0]at v2
    go_wp2_with fail
    refine KW.out.mono ?_;rintro e w5⟨rfl,J⟩;clear v1 v2 KW
    go_wp2_with fail
    refine(ac.out w5 J.out).mono ?_;rintro e w6⟨rfl,H6⟩
    go_wp2_with fail
    refine Mn (f:=208) (args:=#[.pointer (some ⟨w.heap.size,0,none⟩)]) (by simp) (by simp[go_sem]) ?_;refine(ab.out w6 H6.out.1 H6.out.2).mono ?_;rintro e u' w''⟨rfl,rfl,hA⟩;exact⟨_,Oa rfl _ _ _,rfl,hA⟩
   ·injection h with h1 h2 h3
    subst h1;clear h2 h3;have i1:(f:Int)<=text.length:=by omega
    have i2:(text.length:Int)<=c1:=by omega
    have i3:f<=c1:=by omega
    have bq:bs.length+(text.length-f)<=8589934592:=by
     have:(bs++text.drop f).length=out.length:=by rw[F.out]
     rw[Kf,KB]at this;omega
    by_cases hc:c1=f
    ·have KW:Hid (Kb 211 #[.pointer (some ⟨w.heap.size+1,0,none⟩),.slice (some ⟨tb,0,none⟩) (text.length-f) 0] wr fun e w'=>e=.returned (.tuple #[.int .i64 (text.length-f:Nat),.nilIface])/\Hid (Tk w g (w.heap.size+1) out w')):=by
      obtain rfl:f=text.length:=by omega
      refine(ae.out.write [] ⟨tb,0,none⟩ (text.length-text.length) 0 (by simp) (fun j u h=>by simp[bc]at h) (by omega)).mono ?_;rintro e w'⟨rfl,O,_⟩;have h5:=F.out;rw[LT]at h5;rw[h5]at O;exact⟨rfl,O⟩
     go_wp2_with fail
     refine KW.out.mono ?_;rintro e w5⟨rfl,J⟩;clear v1 v2 KW
     go_wp2_with fail
     refine(ac.out w5 J.out).mono ?_;rintro e w6⟨rfl,H6⟩
     go_wp2_with fail
     refine Mn (f:=208) (args:=#[.pointer (some ⟨w.heap.size,0,none⟩)]) (by simp) (by simp[go_sem]) ?_;refine(ab.out w6 H6.out.1 H6.out.2).mono ?_;rintro e u' w''⟨rfl,rfl,hA⟩;exact⟨_,Oa rfl _ _ _,rfl,hA⟩
    ·have KW:Hid (Kb 211 #[.pointer (some ⟨w.heap.size+1,0,none⟩),.slice (some ⟨tb,f,none⟩) (text.length-f) (c1-f)] wr fun e w'=>e=.returned (.tuple #[.int .i64 (text.length-f:Nat),.nilIface])/\Hid (Tk w g (w.heap.size+1) out w')):=by
      have ap:=pU ad.out rfl ae.out.lo f (text.length-f);rw[Ly (by rw[KB];omega)]at ap;refine(ae.out.write (text.drop f) ⟨tb,f,none⟩ (text.length-f) (c1-f) (by rw[KB]) ap (by omega)).mono ?_;rintro e w'⟨rfl,O,_⟩;rw[F.out]at O;exact⟨rfl,O⟩
     go_wp2_with fail
     refine KW.out.mono ?_;rintro e w5⟨rfl,J⟩;clear v1 v2 KW
     go_wp2_with fail
     refine(ac.out w5 J.out).mono ?_;rintro e w6⟨rfl,H6⟩
     go_wp2_with fail
     refine Mn (f:=208) (args:=#[.pointer (some ⟨w.heap.size,0,none⟩)]) (by simp) (by simp[go_sem]) ?_;refine(ab.out w6 H6.out.1 H6.out.2).mono ?_;rintro e u' w''⟨rfl,rfl,hA⟩;exact⟨_,Oa rfl _ _ _,rfl,hA⟩
def cK.blanks (s:cK) (n:Nat):cK:={ s with wait:=s.wait+n }
structure En (own:Nat->Nat) (w:World):Prop where
 nf:Nf own w
 tab:ib w
 z:own 5=0
theorem ib.pos {w:World}(h:ib w):5<w.heap.size:=Kg w _ (h 0 (by omega)).1
theorem En.fr {own own':Nat->Nat}{w w':World}{i:Nat}(h:En own w) (F:i≠0) (G:Nf own' w') (u:Fr i own own' w w'):En own' w':=
 ⟨G,u.tab h.tab (by rw[h.z];exact fun e=>F e.symm),(u.old 5 h.tab.pos).trans h.z⟩
theorem En.below {own:Nat->Nat}{w:World}(h:En own w) (u:Below w.heap.size w w'):En own w':=⟨h.nf.below u.size,h.tab.below u,h.z⟩
def Ae (own:Nat->Nat) (i:Nat) (w w':World) (g:Nat) (s:cK):Prop:=∃own',En own' w'/\Fr i own own' w w'/\SK own' i w' g s
theorem Af.ae {own:Nat->Nat}{i:Nat}{w:World}{g:Nat}{s:cK}(h:Af own i w w' g s) (H:En own w) (I:i≠0):Ae own i w w' g s:=by
 obtain⟨own',F,u,G⟩:=h;exact⟨own',H.fr I F u,u,G⟩
def JI:cK:=⟨true,0,0,[]⟩
section
variable {own:Nat->Nat} {i:Nat} {g:Nat} {s:cK} {w:World}
theorem Di (h:SK own i w g s) (u:En own w) (I:i≠0) (t:ByteArray) (H:s.out.length+s.col+s.wait+t.size<=8589934592) :
  Kb 200 #[.pointer (some ⟨g,0,none⟩),.string t] w fun e w'=>e=.returned (.int .i64 0)/\Ae own i w w' g (s.text t):=
 (zx own i g s t w h u.nf u.tab H).mono fun e w' ⟨F,G⟩=>⟨F,G.ae u I⟩
theorem EF (h:SK own i w g s) (u:En own w) (I:i≠0) (c:Nat) (hc:c<=1048576) (H:s.out.length<=8589934592) :
  Kb 261 #[.pointer (some ⟨g,0,none⟩),.int .i64 c] w fun e w'=>e=.returned (.int .i64 0)/\Ae own i w w' g (s.feed c):=
 (BC own i g s c w h u.nf hc H).mono fun e w' ⟨F,G⟩=>⟨F,G.ae u I⟩
theorem BI (h:SK own i w g s) (u:En own w) (I:i≠0) (H:s.out.length<=8589934592) :
  Kb 262 #[.pointer (some ⟨g,0,none⟩)] w fun e w'=>e=.returned (.int .i64 0)/\Ae own i w w' g s.empty:=
 (yB own i g s w h u.nf H).mono fun e w' ⟨F,G⟩=>⟨F,G.ae u I⟩
theorem Ds (h:SK own i w g s) (u:En own w) (I:i≠0) (H:s.out.length<=8589934592) :
  Kb 158 #[.pointer (some ⟨g,0,none⟩)] w fun e w'=>e=.returned (.string ⟨s.out.toArray⟩)/\Ae own i w w' g s.take:=
 (zz own i g s w h u.nf H).mono fun e w' ⟨F,G⟩=>⟨F,G.ae u I⟩
theorem yO (h:SK own i w g s) (M:En own w) (hi:i≠0) (n:Nat) (hn:n<=1048576) (hb:s.wait<=8589934592) :
  Kb 260 #[.pointer (some ⟨g,0,none⟩),.int .i64 n] w fun e w'=>e=.returned (.int .i64 0)/\Ae own i w w' g (s.blanks n):=by
 obtain⟨tv,gv,text,gs,u,I,J,h4⟩:=h.ex;refine(uk g (!s.fresh) s.col s.wait n tv gv w u (by omega) (by omega) (by omega) (by omega)).mono ?_;rintro e w'⟨rfl,rfl⟩;have F:=Kp.set w g 2 (.int .i64 ((s.wait:Int)+n));have O:Fr i own own w (w.setCell ⟨g,2,none⟩ (.int .i64 ((s.wait:Int)+n))):=F.fr (fun k _ e=>by subst e;exact h.lab) (fun _ _=>rfl);have r1:=aE I.1 u (by decide);have r2:=aE J.1 u (by decide);refine⟨rfl,own,M.fr hi (M.nf.below F.size) O,O,h.lab,tv,gv,text,gs,?_,⟨F.row I.1 (fun k G H=>r1 (by rw[G,H])),I.2⟩,⟨F.row J.1 (fun k G H=>r2 (by rw[G,H])),J.2⟩,h4⟩;exact ab u 2 _
theorem yG (h:SK own i w g s) (F:s.col<=8589934592) (G:s.wait<=8589934592) :
  Kb 256 #[.pointer (some ⟨g,0,none⟩)] w fun e w'=>e=.returned (.int .i64 ((s.col:Int)+s.wait))/\Kc w w':=by
 obtain⟨tv,gv,text,gs,u,_⟩:=h.ex;exact ue g (!s.fresh) s.col s.wait tv gv w u (by omega) (by omega) (by omega) (by omega)
theorem Bu (h:SK own i w g s) :
  Kb 257 #[.pointer (some ⟨g,0,none⟩)] w fun e w'=>e=.returned (.bool s.fresh)/\w'=w:=by
 obtain⟨tv,gv,text,gs,u,_⟩:=h.ex;have:=yq g (!s.fresh) s.col s.wait tv gv w u
 simpa using this
end
def lC (t:ByteArray):Bool:=decide ((10:UInt8)∈t.data.toList)
def pw (d:Dc):Nat:=if d.k=1 then(if lC d.t then 4097 else(tw d.t).toNat)else if d.k=2 then 1 else if d.k=3 then d.b.toNat else if d.k=4\/d.k=5 then 4097 else 0
structure Sp where
 all:Nat
 hang:Nat
 deriving DecidableEq
def Sp.wid (s:Sp) (c:Nat):Sp:=⟨min (s.all+c) 4097,min (s.hang+c) 4097⟩
def cf (d:Dc) (s:Sp × List Sp):Nat × Sp × List Sp:=
 if d.k=7 then(0,⟨0,0⟩,s.1 :: s.2)
 else if d.k=6 then(s.1.all,(s.2.headD ⟨0,0⟩).wid s.1.all,s.2.tail)
 else if d.k=3 then((s.1.wid (pw d)).hang,⟨(s.1.wid (pw d)).all,0⟩,s.2)
 else if d.k=4\/d.k=5 then(0,⟨(s.1.wid (pw d)).all,0⟩,s.2)
 else(0,s.1.wid (pw d),s.2)
def bm:List Dc->List Nat × Sp × List Sp
 |[]=>([],⟨0,0⟩,[])
 |d :: r=>((cf d (bm r).2).1 :: (bm r).1,(cf d (bm r).2).2)
theorem vz:∀l,(bm l).1.length=l.length
 |[]=>rfl
 |d :: r=>by simp[bm,vz r]
theorem lj:∀(l:List Dc) (i:Nat),(bm (l.drop i)).1=(bm l).1.drop i
 |l,0=>by simp
 |[],i+1=>by simp[bm]
 |d :: r,i+1=>by simp[bm,lj r i]
theorem kF (s:Sp) (c:Nat):(s.wid c).all<=4097/\(s.wid c).hang<=4097:=by simp only[Sp.wid];omega
def Sb (s:Sp):Prop:=s.all<=4097/\s.hang<=4097
theorem Do (d:Dc) (s:Sp × List Sp) (h:Sb s.1) (u:∀x∈s.2,Sb x):(cf d s).1<=4097/\Sb (cf d s).2.1/\∀x∈(cf d s).2.2,Sb x:=by
 unfold cf
 repeat' split
 ·refine⟨Kj _,⟨Kj _,Kj _⟩,?_⟩;intro x F
  rcases KL.1 F with rfl|F
  ·exact h
  ·exact u x F
 ·exact⟨h.1,kF _ _,fun x F=>u x (NX F)⟩
 ·exact⟨(kF _ _).2,⟨(kF _ _).1,Kj _⟩,u⟩
 ·exact⟨Kj _,⟨(kF _ _).1,Kj _⟩,u⟩
 ·exact⟨Kj _,kF _ _,u⟩
theorem oD:∀l,(∀x∈(bm l).1,x<=4097)/\Sb (bm l).2.1/\∀x∈(bm l).2.2,Sb x
 |[]=>⟨by simp[bm],⟨Kj _,Kj _⟩,by simp[bm]⟩
 |d :: r=>by
  obtain⟨F,G,H⟩:=oD r;obtain⟨k1,k2,k3⟩:=Do d (bm r).2 G H;refine⟨?_,k2,k3⟩;intro x u
  rcases KL.1 u with rfl|u
  ·exact k1
  ·exact F x u
structure Bk where
 ind:Nat
 ev:Bool
 ft:Bool
structure Pr where
 sk:cK
 bl:Bk
 ar:List Bk
 en:Bool
def Pr.at (p:Pr):Nat:=p.sk.col+p.sk.wait
def Pr.fits (n need:Nat) (p:Pr):Bool:=decide (need+p.at<=n)
def Pr.hold (p:Pr) (m:Nat):Pr:=if p.sk.fresh then p else { p with sk:=p.sk.blanks m }
def Pr.endl (p:Pr):Pr:=if p.sk.fresh then p else { p with sk:=p.sk.feed p.bl.ind,en:=true }
def Pr.brk (n need:Nat) (p:Pr):Bool:=if p.bl.ev then !p.bl.ft else !p.fits n need
def put (n:Nat) (d:Dc) (need:Nat) (p:Pr):Pr:=
 if d.k=1 then { p with sk:=p.sk.text d.t,en:=false }
 else if d.k=2 then p.hold 1
 else if d.k=3 then(if p.brk n need then p.endl else p.hold d.b.toNat)
 else if d.k=4 then p.endl
 else if d.k=5 then(if p.en then { p with sk:=p.sk.empty,en:=false }else p)
 else if d.k=6 then { p with ar:=p.bl :: p.ar,bl:=⟨min (p.bl.ind+d.i.toNat) 1000,d.e,p.fits n need⟩ }
 else if d.k=7 then { p with bl:=p.ar.headD ⟨0,false,false⟩,ar:=p.ar.tail }
 else p
def oh (n:Nat):List Dc->List Nat->Pr->Pr
 |d :: r,m :: ms,p=>oh n r ms (put n d m p)
 |_,_,p=>p
def qD:Pr:=⟨JI,⟨0,false,false⟩,[],false⟩
def ud (d:Dc):Nat:=2*d.t.size+(if d.k=6\/d.k=7 then 0 else 1001)
def pS (l:List Dc):Nat:=(l.map ud).sum
structure Bp (p:Pr) (U:Nat):Prop where
 out:p.sk.out.length+p.sk.wait+(if p.sk.fresh then p.sk.col else 0)<=U
 col:p.sk.col+p.sk.wait<=U
 ind:p.bl.ind<=1000
 ar:∀b∈p.ar,b.ind<=1000
 wt:p.sk.fresh=true->p.sk.wait=0
theorem bp0:Bp qD 0:=⟨by simp[qD,JI],by simp[qD,JI],by simp[qD],by simp[qD],fun _=>rfl⟩
theorem Bp.mono {p:Pr}{V:Nat}(h:Bp p U) (u:U<=V):Bp p V:=⟨Kh h.out u,Kh h.col u,h.ind,h.ar,h.wt⟩
theorem Bp.hold {p:Pr}(h:Bp p U) (m:Nat):Bp (p.hold m) (U+m):=by
 unfold Pr.hold
 split
 ·exact h.mono (by omega)
 ·rename_i u
  have F:=h.out;have G:=h.col;refine⟨?_,?_,h.ind,h.ar,fun e=>absurd e u⟩
  ·show p.sk.out.length+(p.sk.wait+m)+(if p.sk.fresh then p.sk.col else 0)<=_
   omega
  ·show p.sk.col+(p.sk.wait+m)<=_
   omega
theorem Bp.endl {p:Pr}(h:Bp p U):Bp p.endl (U+1001):=by
 unfold Pr.endl
 split
 ·exact h.mono (by omega)
 ·rename_i H
  have u:=h.out;have F:=h.col;have G:=h.ind;refine⟨?_,?_,h.ind,h.ar,fun _=>rfl⟩
  ·show(p.sk.out++[10]).length+0+p.bl.ind<=_
   rw[Kf];simp only[List.length_cons,LB];omega
  ·show p.bl.ind+0<=_
   omega
theorem GK {n need:Nat}{p:Pr}(hd:rt d=true) (h:Bp p U):Bp (put n d need p) (U+ud d):=by
 have u:=h.out;have H:=h.col;have I:=h.ind;cases iy hd with
 |text t hq=>
  have M:=(iz hq).1;refine⟨?_,?_,h.ind,h.ar,?_⟩
  ·show(p.sk.text t).out.length+(p.sk.text t).wait+(if(p.sk.text t).fresh then(p.sk.text t).col else 0)<=U+ud ⟨1,t,0,0,false⟩
   unfold cK.text ud;rw[IO (by omega)];have e:t.data.toList.length=t.size:=by rw[KY];rfl
   simp only[Kf,Le,e];cases G:p.sk.fresh
   ·rw[G]at u;simp at u ⊢;omega
   ·rw[G]at u;simp at u ⊢;omega
  ·show(p.sk.text t).col+(p.sk.text t).wait<=U+ud ⟨1,t,0,0,false⟩
   unfold cK.text ud;rw[IO (by omega)];have:=vA p.sk.col p.sk.wait t;show(iG p.sk.col p.sk.wait t).toNat+0<=_;simp;omega
  ·intro e
   exfalso
   have:(p.sk.text t).fresh=true:=e;unfold cK.text at this;rw[IO (by omega)]at this;cases this
 |brk m hq=>
  obtain⟨O,q2⟩:=kW hq;show Bp (if p.brk n need then p.endl else p.hold m.toNat) _
  split
  ·exact h.endl.mono (by simp[ud,bE])
  ·exact(h.hold _).mono (by simp[ud,bE];omega)
 |beg m e hq=>
  refine⟨Kh u (by omega),Kh H (by omega),?_,?_,h.wt⟩
  ·show min (p.bl.ind+m.toNat) 1000<=1000
   omega
  ·intro b F
   rcases KL.1 F with rfl|F
   ·exact I
   ·exact h.ar b F
 |blank=>exact(h.hold 1).mono (by simp[ud,bE])
 |hard=>exact h.endl.mono (by simp[ud,bE])
 |empty=>
  show Bp (if p.en then { p with sk:=p.sk.empty,en:=false }else p) _
  split
  ·unfold cK.empty
   split
   ·rename_i G
    rw[Kd G]at u;refine⟨?_,?_,I,h.ar,fun _=>rfl⟩
    ·show(p.sk.out++[10]).length+0+p.sk.col<=_
     rw[Kf];simp[ud,bE];omega
    ·show p.sk.col+0<=_
     omega
   ·rename_i G
    exact⟨Kh u (by omega),Kh H (by omega),I,h.ar,h.wt⟩
  ·exact h.mono (by omega)
 | «end»=>
  refine⟨Kh u (by omega),Kh H (by omega),?_,fun b F=>h.ar b (NX F),h.wt⟩;show(p.ar.headD ⟨0,false,false⟩).ind<=1000;cases J:p.ar with
  |nil=>simp
  |cons b r=>exact h.ar b (by rw[J];exact Ko)
theorem qv {n need:Nat}{d:Dc}{p:Pr}(hd:rt d=true) {o:Int}(h:(p.ar.length:Int)=o) (u:0<=o+cY d.k):((put n d need p).ar.length:Int)=o+cY d.k:=by
 cases iy hd with
 |text t hq=>simpa[put,cY]using h
 |brk m hq=>
  have:((put n ⟨3,bE,m,0,false⟩ need p).ar)=p.ar:=by
   show(if p.brk n need then p.endl else p.hold m.toNat).ar=p.ar
   unfold Pr.endl Pr.hold
   repeat' split
   all_goals rfl
  rw[this];simpa[cY]using h
 |beg m e hq=>
  show(((p.bl :: p.ar).length:Nat):Int)=o+1
  simp;omega
 |blank=>
  have:(p.hold 1).ar=p.ar:=by unfold Pr.hold;split<;>rfl
  show((p.hold 1).ar.length:Int)=o+0
  rw[this];omega
 |hard=>
  have:p.endl.ar=p.ar:=by unfold Pr.endl;split<;>rfl
  show(p.endl.ar.length:Int)=o+0
  rw[this];omega
 |empty=>
  have:(if p.en then { p with sk:=p.sk.empty,en:=false }else p).ar=p.ar:=by split<;>rfl
  show(((if p.en then { p with sk:=p.sk.empty,en:=false }else p).ar.length:Nat):Int)=o+0
  rw[this];omega
 | «end»=>
  show((p.ar.tail.length:Nat):Int)=o+-1
  have:0<=o+-1:=u;rw[O3];omega
theorem lG (G:l[j]?=some d):cH o j (l.drop j)=if rt d=true/\0<=o+cY d.k then cH (o+cY d.k) (j+1) (l.drop (j+1))else some j:=by
 obtain⟨u,F⟩:=Kq.1 G;rw[KO u,F];rfl
theorem Ey (u:l.length<=j):cH o j (l.drop j)=if 0<o then some j else none:=by
 rw[Lu u];rfl
def Io:Option Nat->Int × Int
 |some j=>(70,(j:Int))
 |none=>(0,0)
theorem Cj (h:¬2097152<l.length):jS l=Io (cH 0 0 l):=by
 unfold jS;rw[IO h];cases cH 0 0 l<;>rfl
set_option maxRecDepth 100000 in
theorem yN (ao:Option Addr) (l:List Dc) (cap:Nat) (w:World) (hL:Lay w ao l) (hn:l.length<=9223372036854775807) :
  Kb 149 #[.slice ao l.length cap] w fun e w'=>e=.returned (.tuple #[.int .i64 (jS l).1,.int .i64 (jS l).2])/\Below w.heap.size w w':=by
 by_cases hm:2097152<l.length
 ·have q0:(2097152:Int)<l.length:=by omega
  have HC:Hid (jS l=(2,0)):=by show _=_;unfold jS;rw[Kd hm]
  go_enter Tryz.func149,Tryz.ntmps149
  go_wp2_with fail
  go_ret2
  rw[HC.out];exact⟨rfl,gt _ _⟩
 have q0:¬(2097152:Int)<l.length:=by omega
 have HC:=ku (Cj hm);have HL:=ku hL;clear hL
 go_enter Tryz.func149,Tryz.ntmps149
 go_wp2_with fail
 go_loopw [4,12] (fun o j wr=>∃(k:Nat) (z:Int),k<=l.length/\o=.int .i64 z/\j=.int .i64 k/\0<=z/\z<=k/\Hid (cH z k (l.drop k)=cH 0 0 l/\Below w.heap.size w wr)) (fun _ j _=>l.length-(intOf j).toNat)
 case atStart=>exact⟨0,0,by omega,rfl,rfl,by omega,by omega,rfl,gt _ _⟩
 case round=>
  obtain⟨k,z,hk,rfl,rfl,aa,ab,HI⟩:=hrel
  by_cases J:k<l.length
  ·have q1:(k:Int)<l.length:=by omega
   obtain⟨d,hd⟩:∃d,l[k]?=some d:=⟨_,Ke J⟩;obtain⟨ht,b,off,rfl,c0,c1,c2,c3,c4⟩:=(HL.out.below HI.out.2) k d hd
   have HS:Hid ((if rt d=true/\0<=z+cY d.k then cH (z+cY d.k) (k+1) (l.drop (k+1))else some k)=cH 0 0 l):=by
    show _=_;rw[<-lG hd];exact HI.out.1
   have HB:=ku HI.out.2;have M:Hid (∀W,Kb 188 #[d.v] W fun x w'=>x=.returned (.bool (rt d))/\Kc W w'):=fun W=>xg d ht W
   clear HI hd;obtain⟨O,dt,db,di,de⟩:=d;simp only[Dc.v]at M;simp only at c0 c1 c2 c3 c4 HS ht
   generalize rt ⟨O,dt,db,di,de⟩=r at *
   have H:Hid (r=true->0<=z+cY O->cH (z+cY O) (k+1) (l.drop (k+1))=cH 0 0 l):=fun h1 h2=>by rw[<-HS.out,Kd ⟨h1,h2⟩]
   have G:Hid (¬(r=true/\0<=z+cY O)->jS l=(70,(k:Int))):=fun h=>by rw[HC.out,<-HS.out,IO h];rfl
   clear HS
   have HA:Hid (∀W I,W=wr.alloc (.cells #[.int .u8 O,.string dt,.int .i64 db,.int .i64 di,.bool de] 151)->Kc W I->Kc w I):=fun W I hW h=>by
    subst hW;exact(HB.out.alloc HB.out.size _).trans (h.mono (by rw[Eq];have:=HB.out.size;omega))
   by_cases k6:O=6
   ·subst k6;have e6:z+cY 6=z+1:=rfl;rw[e6]at H G;cases r
    ·have F:=ku (G.out (by simp));clear H G
     go_wp2_with(go_at_call 188;refine(M.out _).mono ?_;rintro e I⟨rfl,u⟩)
     all_goals(go_ret2;rw[F.out];exact⟨rfl,HA.out _ _ rfl u⟩)
    ·have F:=ku (H.out rfl (by omega));clear H G
     go_wp2_with(go_at_call 188;refine(M.out _).mono ?_;rintro e I⟨rfl,u⟩)
     exact⟨⟨k+1,z+1,J,by go_num,by go_num,by omega,by omega,F.out,HA.out _ _ rfl u⟩,by simp[intOf];omega⟩
   by_cases k7:O=7
   ·subst k7;have e6:z+cY 7=z-1:=rfl;rw[e6]at H G
    by_cases hz:0<z
    ·cases r
     ·have F:=ku (G.out (by simp));clear H G
      go_wp2_with(go_at_call 188;refine(M.out _).mono ?_;rintro e I⟨rfl,u⟩)
      all_goals(go_ret2;rw[F.out];exact⟨rfl,HA.out _ _ rfl u⟩)
     ·have F:=ku (H.out rfl (by omega));clear H G
      go_wp2_with(go_at_call 188;refine(M.out _).mono ?_;rintro e I⟨rfl,u⟩)
      exact⟨⟨k+1,z-1,J,by go_num,by go_num,by omega,by omega,F.out,HA.out _ _ rfl u⟩,by simp[intOf];omega⟩
    ·obtain rfl:z=0:=by omega
     have F:=ku (G.out (by omega));clear H G
     go_wp2_with(go_at_call 188;refine(M.out _).mono ?_;rintro e I⟨rfl,u⟩)
     all_goals(go_ret2;rw[F.out];exact⟨rfl,HA.out _ _ rfl (gt _ _)⟩)
   ·have e6:z+cY O=z:=by simp[cY,k6,k7]
    rw[e6]at H G;cases r
    ·have F:=ku (G.out (by simp));clear H G
     go_wp2_with(go_at_call 188;refine(M.out _).mono ?_;rintro e I⟨rfl,u⟩)
     all_goals(go_ret2;rw[F.out];exact⟨rfl,HA.out _ _ rfl u⟩)
    ·have F:=ku (H.out rfl (by omega));clear H G
     go_wp2_with(go_at_call 188;refine(M.out _).mono ?_;rintro e I⟨rfl,u⟩)
     exact⟨⟨k+1,z,J,by go_num,by go_num,by omega,by omega,F.out,HA.out _ _ rfl u⟩,by simp[intOf];omega⟩
  ·obtain rfl:k=l.length:=by omega
   have q1:¬((l.length:Int)<l.length):=by omega
   have he:=HI.out.1;rw[Ey (ge _)]at he;have HB:=ku HI.out.2
   by_cases hz:0<z
   ·have F:Hid (jS l=(70,(l.length:Int))):=by show _=_;rw[HC.out,<-he,Kd hz];rfl
    clear HI he
    go_wp2_with fail
    go_ret2
    rw[F.out];exact⟨rfl,HB.out⟩
   ·have F:Hid (jS l=(0,0)):=by show _=_;rw[HC.out,<-he,IO hz];rfl
    clear HI he
    go_wp2_with fail
    go_ret2
    rw[F.out];exact⟨rfl,HB.out⟩
def Sd (own own':Nat->Nat) (W W':World):Prop:=∀k,k<W.heap.size->own k=0->W'.heap[k]?=W.heap[k]?/\own' k=0
theorem Sd.refl (own:Nat->Nat) (W:World):Sd own own W W:=fun k _ h=>⟨rfl,h⟩
theorem Sd.trans {G H I:Nat->Nat}{A C D:World}(h:Sd G H A C) (J:A.heap.size<=C.heap.size) (k:Sd H I C D):Sd G I A D:=fun j F u=>
 ⟨(k j (by omega) (h j F u).2).1.trans (h j F u).1,(k j (by omega) (h j F u).2).2⟩
theorem mV (n:Nat):∀(l:List Dc) (u:List Nat) (p:Pr) (k:Nat) (d:Dc) (m:Nat),l[k]?=some d->u[k]?=some m->oh n (l.take (k+1)) (u.take (k+1)) p=put n d m (oh n (l.take k) (u.take k) p)
 |[],u,p,k,d,m,h,_=>by simp at h
 |x :: l,[],p,k,d,m,_,h=>by simp at h
 |x :: l,y :: u,p,0,d,m,h1,h2=>by
  simp at h1 h2;subst h1 h2;simp[oh]
 |x :: l,y :: u,p,k+1,d,m,h1,h2=>by
  have:=mV n l u (put n x y p) k d m (by simpa using h1) (by simpa using h2)
  simpa[oh]using this
def gV (n:Nat) (l:List Dc) (k:Nat):Pr:=oh n (l.take k) ((bm l).1.take k) qD
theorem kZ {n:Nat}{l:List Dc}{k:Nat}{d:Dc}(h:l[k]?=some d):∃m,(bm l).1[k]?=some m/\m<=4097/\gV n l (k+1)=put n d m (gV n l k):=by
 have F:=(Kq.1 h).1;obtain⟨m,u⟩:∃m,(bm l).1[k]?=some m:=⟨_,Ke (by rw[vz];exact F)⟩;exact⟨m,u,(oD l).1 m (LF u),mV n l _ qD k d m h u⟩
theorem iD {n:Nat}{l:List Dc}(F:cH 0 0 l=none):∀k:Nat,k<=l.length->∃o:Int,0<=o/\o<=k/\((gV n l k).ar.length:Int)=o/\cH o k (l.drop k)=none
 |0,_=>⟨0,Int.le_refl _,Int.le_refl _,by simp[gV,oh,qD],by simpa using F⟩
 |k+1,hk=>by
  obtain⟨o,H,I,G,u⟩:=iD F k (by omega);obtain⟨d,hd⟩:∃d,l[k]?=some d:=⟨_,Ke (by omega)⟩;obtain⟨m,_,_,e⟩:=kZ (n:=n) hd;rw[lG hd]at u
  split at u
  ·rename_i hc
   refine⟨o+cY d.k,hc.2,?_,?_,u⟩
   ·have:cY d.k<=1:=by unfold cY;split;omega;split<;>omega
    omega
   ·rw[e];exact qv hc.1 G hc.2
  ·cases u
theorem js {n:Nat}(H:cH 0 0 l=none) {k:Nat}{d:Dc}(hd:l[k]?=some d):d.k=7->(gV n l k).ar≠[]:=by
 intro G I;have O:=(Kq.1 hd).1;obtain⟨o,J,M,F,u⟩:=iD (n:=n) H k (by omega);rw[lG hd]at u
 split at u
 ·rename_i hc
  have:=hc.2;rw[G,show cY 7=-1 from rfl]at this;rw[I]at F;simp at F;omega
 ·cases u
def dK (k:Int):Dc:=⟨k,bE,0,0,false⟩
open Go.Lib (lastIdx lastIdx_hit lastIdx_miss lastIdx_spec)
section
variable {B g n:Nat} {W0 W:World} {N col held:Int} {fr sm em:Bool} {vo vb:Value} {out:List UInt8} {bl:List Value}
end
