import Derived.Lib.RepeatB
import Derived.Deep.RegionHeld3
import Derived.Lib.Walk
import Derived.Shelf.RegionOpenPlain
import Derived.Test.YtjiepkenkcgkhaaGreatDoorM11
set_option linter.unusedVariables false
set_option linter.unusedSimpArgs false
set_option maxHeartbeats 1000000
set_option maxRecDepth 100000
namespace Go.Proofs.YtjiepkenkcgkhaaGreatDoor.Lw
open Go.Proofs.YtjiepkenkcgkhaaGreatDoor.Lx
open Go.RowKit
open Go.Lib (strCells strCells_length)
variable {w0 W W':World}{g b:Nat}{bs:List UInt8}
theorem DK (n:Nat):Lib.repeatL [32] n=List.replicate n 32:=by
 induction n with
 |zero=>rfl
 |succ n ih=>show [32]++Lib.repeatL [32] n=_;rw [ih];rfl
def nS (n:Nat):ByteArray:=⟨(List.replicate n 32).toArray⟩
theorem kT (n:Nat):(nS n).size=n:=by show (List.replicate n (32:UInt8)).toArray.size=n;simp
theorem Ii (n:Nat) (w:World) (hn:n<=8589934592):Ra 47 #[.string ⟨#[32]⟩,.int .i64 n] w fun e w'=>e=.returned (.string (nS n))/\Below w.heap.size w w':=by
 refine (xm ⟨#[32]⟩ n w (by omega) (by show 1*n<=_;omega)).mono ?_;rintro e w' ⟨rfl,hb⟩;refine ⟨?_,hb⟩;show Ending.returned (.string ⟨(Lib.repeatL [32] n).toArray⟩)=_;rw [DK];rfl
structure Tk (w0:World) (g b:Nat) (bs:List UInt8) (W:World):Prop where
 lo:Below w0.heap.size w0 W
 hb:W.heap[w0.heap.size]?=some (.cells #[.pointer (some ⟨g,0,none⟩)] 62 (0,0))
 bd:∃v,Bd b v bs W/\∀k,v.ownBlock=some k->w0.heap.size<=k
 bl:w0.heap.size<=b
def Kt (W W':World):Prop:=∀(k:Nat) (cs:Array Value) (T:TypeId) (f:Nat × Nat),W.heap[k]?=some (.cells cs T f)->T≠115->T≠5->W'.heap[k]?=some (.cells cs T f)
theorem Tk.below (h:Tk w0 g b bs W) (hb:Below W.heap.size W W'):Tk w0 g b bs W':=by
 obtain ⟨v,⟨h1,h2⟩,h3⟩:=h.bd;exact ⟨h.lo.trans (hb.mono h.lo.size),ag h.hb hb,⟨v,⟨ag h1 hb,bp h2 hb⟩,h3⟩,h.bl⟩
theorem Tk.wrote {bs':List UInt8}{v:Value}(h:Tk w0 g b bs W) (hbd:Bd b v bs W) (hv:∀k,v.ownBlock=some k->w0.heap.size<=k) (hw:Bw b v bs' W W'):Tk w0 g b bs' W'/\Kt W W':=by
 obtain ⟨v',h1,h2,h3⟩:=hw
 have hne:∀{x:Array Value} {k:Nat} {T:TypeId} {f:Nat × Nat},W.heap[k]?=some (.cells x T f)->T≠115->T≠5->¬(k=b\/some k=v.ownBlock):=by
  intro x k T f hk t1 t2 hh
  rcases hh with hh|hh
  ·exact lF hk hbd.blk t1 hh
  ·exact aM hbd.row hk t2 hh.symm
 refine ⟨⟨?_,h3.blk h.hb (hne h.hb (by decide) (by decide)),⟨v',h1,?_⟩,h.bl⟩,fun k cs T f hk t1 t2=>h3.blk hk (hne hk t1 t2)⟩
 ·refine ⟨h3.os.trans h.lo.os,h3.tape.trans h.lo.tape,h3.output.trans h.lo.output,QQ h.lo.size h3.size,fun k hk=>(h3.block k (Q1 hk h.lo.size) ?_).trans (h.lo.block k hk)⟩;rintro (e|e)
  ·have:=h.bl;omega
  ·have:=hv k e.symm;omega
 ·intro k hk
  rcases h2 with h2|h2
  ·exact hv k (by rw [<-h2];exact hk)
  ·rw [h2] at hk;injection hk with hk;subst hk;exact h.lo.size
theorem Tk.write (h:Tk w0 g b bs W) (l:List UInt8) (ad:Addr) (m c:Nat) (hl:l.length=m) (hsrc:∀j u,(bc l)[j]?=some u->W.cell? (ad.add j)=some u) (hn:bs.length+m<=70368744177664) :
  Ra 45 #[.pointer (some ⟨b,0,none⟩),.slice (some ad) m c] W fun e w'=>e=.returned (.tuple #[.int .i64 m,.nilIface])/\Tk w0 g b (bs++l) w'/\Kt W w':=by
 obtain ⟨v,h1,h2⟩:=h.bd;refine (M8 b v bs l ad m c W h1 hl hsrc hn).mono ?_;rintro e w' ⟨rfl,hw⟩;exact ⟨rfl,h.wrote h1 h2 hw⟩
theorem Tk.write_none (h:Tk w0 g b bs W) :
  Ra 45 #[.pointer (some ⟨b,0,none⟩),.slice none 0 0] W fun e w'=>e=.returned (.tuple #[.int .i64 0,.nilIface])/\Tk w0 g b (bs++[]) w'/\Kt W w':=by
 obtain ⟨v,h1,h2⟩:=h.bd;refine (wq b v bs W h1).mono ?_;rintro e w' ⟨rfl,hw⟩;exact ⟨rfl,h.wrote h1 h2 hw⟩
theorem Tk.wstr (h:Tk w0 g b bs W) (t:ByteArray) (hn:bs.length+t.size<=70368744177664) :
  Ra 46 #[.pointer (some ⟨b,0,none⟩),.string t] W fun e w'=>e=.returned (.tuple #[.int .i64 t.size,.nilIface])/\Tk w0 g b (bs++t.data.toList) w'/\Kt W w':=by
 obtain ⟨v,h1,h2⟩:=h.bd;refine (OJ b v bs t W h1 hn).mono ?_;rintro e w' ⟨rfl,hw⟩;exact ⟨rfl,h.wrote h1 h2 hw⟩
theorem ue {tv:Value}{text:List UInt8}{tb cap:Nat}(hr:w0.ownsRow 0 5 1 tv text.length (bc text)) (he:tv=.slice (some ⟨tb,0,none⟩) text.length cap) (hb:Below w0.heap.size w0 W) (f m:Nat):∀j u,(bc ((text.drop f).take m))[j]?=some u->W.cell? ((⟨tb,f,none⟩:Addr).add j)=some u:=by
 intro j u hj
 have h1:(bc text)[f+j]?=some u:=by
  have:(bc ((text.drop f).take m))[j]?=((bc text).drop f |>.take m)[j]?:=by rw [Kf,Ke]
  rw [this] at hj
  have hjm:j<m:=by
   have:=(QT.1 hj).1;rw [Ri] at this;omega
  rw [RI,IO hjm,RC] at hj;exact hj
 have h2:=hr.cells (g:=tb) (by rw [he];rfl) (f+j) u h1;rw [Nq] at h2;have h3:=(hb.cell (p:=⟨tb,f+j,none⟩) (QP _ _ h2)).trans h2
 have h4:(⟨tb,f,none⟩:Addr).add j=⟨tb,f+j,none⟩:=by
  unfold Addr.add
  split <;> simp_all
 rw [h4];exact h3
def fx.take (s:fx):fx:=⟨s.fresh,s.col,s.wait,[]⟩
def sR (gs:List (Nat × Nat)):Nat->Nat
 |0=>0
 |k+1=>(gs.getD k (0,0)).1
end Go.Proofs.YtjiepkenkcgkhaaGreatDoor.Lw
namespace Go.Proofs.YtjiepkenkcgkhaaGreatDoor
open Go.Proofs.YtjiepkenkcgkhaaGreatDoor.Lw
open Go.Proofs.YtjiepkenkcgkhaaGreatDoor.Lx
open Go.RowKit
open Go.Lib (strCells strCells_length)
theorem nW.drop {gs:List (Nat × Nat)}{n:Nat}{f:Nat}(h:nW f gs n):∀k,k<=gs.length->nW (if k=0 then f else sR gs k) (gs.drop k) n:=by
 induction gs generalizing f with
 |nil=>
  intro k hk;obtain rfl:k=0:=by simpa using hk
  exact h
 |cons x r ih=>
  obtain ⟨a,m⟩:=x;intro k hk;cases k with
  |zero=>exact h
  |succ k=>
   have:=ih h.2 k (by simpa using hk);simp only [St];cases k with
   |zero=>exact this
   |succ k=>exact this
end Go.Proofs.YtjiepkenkcgkhaaGreatDoor
namespace Go.Proofs.YtjiepkenkcgkhaaGreatDoor.Lw
open Go.Proofs.YtjiepkenkcgkhaaGreatDoor.Lx
open Go.RowKit
open Go.Lib (strCells strCells_length)
variable {w':World}{n k a:Nat}
theorem wR {gs:List (Nat × Nat)}{f:Nat}{t:List UInt8}(h:gs[k]?=some (a,n)):cU f (gs.drop k) t=(t.drop f).take (a-f)++(List.replicate n 32++cU a (gs.drop (k+1)) t):=by
 obtain ⟨hl,he⟩:=QT.1 h;rw [RF hl,he];rfl
theorem BJ {gs:List (Nat × Nat)}(h:gs[k]?=some (a,n)):sR gs (k+1)=a:=by
 show (gs.getD k (0,0)).1=a
 rw [List.getD,h];rfl
theorem JA {gs:List (Nat × Nat)}{m:Nat}(hu:nW 0 gs m) (h:gs[k]?=some (a,n)):sR gs k<=a:=by
 obtain ⟨hl,he⟩:=QT.1 h;have:=hu.drop k (by omega);rw [RF hl,he] at this;have h1:=this.1;cases k with
 |zero=>exact QK _
 |succ k=>simpa using h1
theorem Tk.piece {w0:World}{g b:Nat}{bs:List UInt8}{W:World}(h:Tk w0 g b bs W) {text:List UInt8}{tb cap:Nat}(hr:w0.ownsRow 0 5 1 (.slice (some ⟨tb,0,none⟩) text.length cap) text.length (bc text)) (f m c q:Nat) (x y:Value) (hq:W.heap[q]?=some (.cells #[x,y] 118 (0,0))) (hm:f+m<=text.length) (hn:bs.length+m<=70368744177664) :
  Ra 45 #[.pointer (some ⟨b,0,none⟩),.slice (some ⟨tb,f,none⟩) m c] W fun e w'=>e=.returned (.tuple #[.int .i64 m,.nilIface])/\Hid (Tk w0 g b (bs++(text.drop f).take m) w'/\w'.heap[q]?=some (.cells #[x,y] 118 (0,0)))/\w'.cell? ⟨q,0,none⟩=some x/\w'.cell? ⟨q,1,none⟩=some y:=by
 refine (h.write ((text.drop f).take m) ⟨tb,f,none⟩ m c (by rw [Ri,Rf];omega) (ue hr rfl h.lo f m) hn).mono ?_;rintro e w' ⟨rfl,h1,h2⟩;have:=h2 q _ _ _ hq (by decide) (by decide);exact ⟨rfl,⟨h1,this⟩,af this rfl,af this rfl⟩
theorem Tk.builder {w0:World}{g b:Nat}{bs:List UInt8}{W:World}(h:Tk w0 g b bs W) (hb:w0.heap.size+1<=b):Lib.IsBuilder 115 5 (w0.heap.size+1) b (Lib.byteCells bs) W:=by
 obtain ⟨v,h1,h2⟩:=h.bd;refine .inr ⟨hb,v,h1.blk,?_,aM h1.row h1.blk (by decide)⟩;have hne:=aM h1.row h.hb (by decide);have hr:=h1.row;refine ⟨by rw [Lib.byteCells_length];simp,?_⟩;rw [Lib.byteCells_length]
 rcases hr.2 with h3|⟨gg,cap,cur,rfl,_,h4⟩
 ·exact .inl h3
 ·have h5:=h2 gg rfl;refine .inr ⟨gg,cap,cur,rfl,?_,h4⟩
  rcases Nat.eq_or_lt_of_le h5 with h6|h6
  ·exfalso;apply hne;rw [h6];rfl
  ·exact h6
theorem NY {own:Nat->Nat}{i:Nat}{w W:World}{g:Nat}{s:fx}{tv gv:Value}(hg:W.heap[g]?=some (.cells (sk (!s.fresh) s.col s.wait tv gv) 108 (0,0))) (hlab:own g=i) (hn:Nf own w) (hb:Below w.heap.size w W) (hlt:g<w.heap.size):Af own i w ((W.setCell ⟨g,3,none⟩ (.slice none 0 0)).setCell ⟨g,4,none⟩ (.slice none 0 0)) g s.take:=by
 have hk:Kp (fun k=>k=g) w ((W.setCell ⟨g,3,none⟩ (.slice none 0 0)).setCell ⟨g,4,none⟩ (.slice none 0 0)):=((Kp.of_below hb).step (Kp.set W g 3 (.slice none 0 0)) (fun _ _ h=>h)).step (Kp.set _ g 4 (.slice none 0 0)) (fun _ _ h=>h);refine ⟨own,hn.below hk.size,hk.fr (fun k _ e=>by subst e;exact hlab) (fun _ _=>rfl),hlab,.slice none 0 0,.slice none 0 0,[],[],aj (aj hg 3 _) 4 _,⟨RR _ _ _ _,fun k h=>by cases h⟩,⟨RR _ _ _ _,fun k h=>by cases h⟩,QK _,rfl,gt _,fun x h=>by cases h⟩
theorem DD {w:World}{B e sz:Nat}{v:Value}{xs:List Value}(h:w.ownsRow B e sz v n xs):w.ownsRow 0 e sz v n xs:=by
 refine ⟨h.1,?_⟩
 rcases h.2 with h1|⟨g,cap,cur,rfl,_,h3⟩
 ·exact .inl h1
 ·exact .inr ⟨g,cap,cur,rfl,QK _,h3⟩
theorem Tk.start {w w1 w2:World}{g:Nat}(hb1:Below ((w.alloc (.cells #[.pointer (some ⟨g,0,none⟩)] 62)).alloc (.cells #[.pointer none,.slice none 0 0] 115)).heap.size ((w.alloc (.cells #[.pointer (some ⟨g,0,none⟩)] 62)).alloc (.cells #[.pointer none,.slice none 0 0] 115)) w1)
  (hB:Lib.BuilderAt 115 5 (w.heap.size+1) (w.heap.size+1) (.pointer (some ⟨w.heap.size+1,0,none⟩)) [] w2) (hb2:Below (w.heap.size+1) w1 w2):Tk w g (w.heap.size+1) [] w2:=by
 have s1:(w.alloc (.cells #[.pointer (some ⟨g,0,none⟩)] 62)).heap.size=w.heap.size+1:=QL _ _;have hbW:Below w.heap.size w ((w.alloc (.cells #[.pointer (some ⟨g,0,none⟩)] 62)).alloc (.cells #[.pointer none,.slice none 0 0] 115)):=((hH _ w).alloc (gt _) _).alloc (by omega) _;have b1:((w.alloc (.cells #[.pointer (some ⟨g,0,none⟩)] 62)).alloc (.cells #[.pointer none,.slice none 0 0] 115)).heap[w.heap.size]?=some (.cells #[.pointer (some ⟨g,0,none⟩)] 62 (0,0)):=gR _ _ _ _ (au _ _);obtain ⟨_,v,h1,h2,h3⟩:=hB;refine ⟨(hbW.trans (hb1.mono hbW.size)).trans (hb2.mono (by omega)),(hb2.block _ (by omega)).trans (ag b1 hb1),⟨v,⟨h1,DD h2⟩,fun k hk=>?_⟩,by omega⟩;have:=(h2.lt k hk).1;omega
theorem co (own:Nat->Nat) (i g:Nat) (s:fx) (w:World) (h:SK own i w g s) (hn:Nf own w) (hb:s.out.length<=8589934592) :
  Ra 19 #[.pointer (some ⟨g,0,none⟩)] w fun e w'=>e=.returned (.string ⟨s.out.toArray⟩)/\Af own i w w' g s.take:=by
 have hlt:=h.len;have hlab:=h.lab;obtain ⟨tv,gv,text,gs,h1,h2,h3,h4,h5,h6,h7⟩:=h.ex;have hwl:=lh h4;rw [<-h5] at hwl;have hr2:=h2.1;have hr3:=h3.1;obtain ⟨p1,c1,e1,hc1,hm1⟩:=aJ hr2;obtain ⟨p2,c2,e2,hc2,hm2⟩:=aJ hr3;obtain ⟨fr,col,wait,out⟩:=s;simp only at *
 have HSZ:Hid (∀W,Below w.heap.size w W->Ra 44 #[.pointer (some ⟨g,0,none⟩)] W fun e w'=>e=.returned (.int .i64 (out.length:Nat))/\Below W.heap.size W w'):=by
  intro W hW;have:=Dn g (!fr) col wait tv gv text.length (bc text) gs W ((hW.block g hlt).trans h1) (bp hr2 hW) (bp hr3 hW) (by omega) (by omega) (by omega);rw [show out.length=text.length+cO gs by omega];exact this
 have G3:Hid (∀W,Below w.heap.size w W->W.cell? ⟨g,3,none⟩=some tv/\W.cell? ⟨g,4,none⟩=some gv):=fun W hW=>⟨af ((hW.block g hlt).trans h1) rfl,af ((hW.block g hlt).trans h1) rfl⟩
 have hmf:=mkfn;subst e1 e2;have HR3:Hid (w.ownsRow 0 118 2 (.slice p2 gs.length c2) gs.length (bz eg gs)):=hr3;have HR2:Hid (w.ownsRow 0 5 1 (.slice p1 text.length c1) text.length (bc text)):=hr2;have HU:Hid (nW 0 gs text.length/\out=cU 0 gs text/\∀x∈gs,x.1<text.length):=⟨h4,h5,h7⟩
 have HFIN:Hid (∀(W:World),Below w.heap.size w W->W.heap[w.heap.size]?=some (.cells #[.pointer (some ⟨g,0,none⟩)] 62 (0,0))->CallsD Tryz.prog 42 #[.pointer (some ⟨w.heap.size,0,none⟩)] .returning W fun e u' w'=>u'=.returning/\(e=.returned (.tuple #[])/\Af own i w w' g (fx.take ⟨fr,col,wait,out⟩))):=by
  intro W hW hh;have hgW:=(hW.block g hlt).trans h1;refine (FZ .returning (!fr) col wait w.heap.size g _ _ W hgW hh ⟨_,_,_,rfl⟩ ⟨_,_,_,rfl⟩).mono ?_;rintro e u' w' ⟨rfl,rfl,rfl⟩;exact ⟨rfl,rfl,NY (s:=⟨fr,col,wait,out⟩) hgW hlab hn hW hlt⟩
 have hgl:gs.length<=8589934592:=by omega
 have HWL:Hid (out.length=text.length+cO gs/\gs.length<=cO gs):=⟨by omega,h6⟩;clear h h1 h2 h3 h4 h5 h6 h7 hr2 hr3 hwl hn hlab
 go_enter_defers Tryz.func19,Tryz.ntmps19
 go_wp2_with fail
 have s1:(w.alloc (.cells #[.pointer (some ⟨g,0,none⟩)] 62)).heap.size=w.heap.size+1:=QL _ _;have s2:((w.alloc (.cells #[.pointer (some ⟨g,0,none⟩)] 62)).alloc (.cells #[.pointer none,.slice none 0 0] 115)).heap.size=w.heap.size+1+1:=by rw [QL,s1]
 have hbW:Below w.heap.size w ((w.alloc (.cells #[.pointer (some ⟨g,0,none⟩)] 62)).alloc (.cells #[.pointer none,.slice none 0 0] 115)):=((hH _ w).alloc (gt _) _).alloc (by omega) _;have b2:((w.alloc (.cells #[.pointer (some ⟨g,0,none⟩)] 62)).alloc (.cells #[.pointer none,.slice none 0 0] 115)).heap[w.heap.size+1]?=some (.cells #[.pointer none,.slice none 0 0] 115 (0,0)):=by rw [<-s1];exact au _ _
 refine (HSZ.out _ hbW).mono ?_;rintro e w1 ⟨rfl,hb1⟩;have HB1:Hid (∀w2,Lib.BuilderAt 115 5 (w.heap.size+1) (w.heap.size+1) (.pointer (some ⟨w.heap.size+1,0,none⟩)) [] w2->Below (w.heap.size+1) w1 w2->Tk w g (w.heap.size+1) [] w2):=fun w2 a b=>Tk.start hb1 a b
 have HG:Hid (Ra 43 #[.pointer (some ⟨w.heap.size+1,0,none⟩),.int .i64 out.length] w1 fun e w'=>e=.returned (.tuple #[])/\(Lib.BuilderAt 115 5 (w.heap.size+1) (w.heap.size+1) (.pointer (some ⟨w.heap.size+1,0,none⟩)) [] w'/\Below (w.heap.size+1) w1 w')):=
  OM _ _ _ w1 (gt _) (ag b2 hb1) (by have:=hb1.size;omega) (by omega)
 clear s1 s2 hbW b2 hb1 HSZ
 go_wp2_with fail
 refine HG.out.mono ?_;rintro e w2 ⟨rfl,hB,hb2⟩;have HT:Hid (Tk w g (w.heap.size+1) [] w2):=HB1.out w2 hB hb2;clear HB1 HG hB hb2;have g4:=(G3.out w2 HT.out.lo).2;have g5:w2.cell? ⟨w.heap.size,0,none⟩=some (.pointer (some ⟨g,0,none⟩)):=af HT.out.hb rfl
 go_wp2_with fail
 go_loopw [4,18] (fun f j wr=>∃k:Nat,k<=gs.length/\f=.int .i64 (sR gs k)/\j=.int .i64 k/\Hid (∃bs,Tk w g (w.heap.size+1) bs wr/\bs++cU (sR gs k) (gs.drop k) text=out)) (fun _ j _=>gs.length-(intOf j).toNat)
 case atStart=>exact ⟨0,by omega,rfl,rfl,[],HT.out,HU.out.2.1.symm⟩
 case round=>
  obtain ⟨k,hk,rfl,rfl,HI⟩:=hrel;clear HT g4 g5
  by_cases hlt:k<gs.length
  ·obtain ⟨⟨a,z⟩,hx⟩:∃x,gs[k]?=some x:=⟨gs[k],Pi hlt⟩;obtain ⟨gb,gcap,he,hgc,x1,x2⟩:=qY HR3.out k (a,z) hx;injection he with e1 e2 e3
   subst e1;have hal:=HU.out.2.2 (a,z) (RU hx);simp only at x1 x2 hal;have hfa:=JA HU.out.1 hx;have hfs:=BJ hx
   obtain ⟨tb,rfl⟩:∃tb,p1=some ⟨tb,0,none⟩:=by
    rcases HR2.out.2 with ⟨h,h0⟩|⟨tb,cap,cur,h,_⟩
    ·omega
    ·injection h with h _ _;exact ⟨tb,h⟩
   obtain ⟨bs,hTk,hbs⟩:=HI.out;rw [wR hx] at hbs;have y1:=(hTk.lo.cell (p:=⟨gb,k*2,none⟩) (QP _ _ x1)).trans x1;have y2:=(hTk.lo.cell (p:=⟨gb,k*2+1,none⟩) (QP _ _ x2)).trans x2;have q1:(k:Int)<gs.length:=by omega
   obtain ⟨f,hf⟩:∃f,sR gs k=f:=⟨_,rfl⟩;rw [hf] at hfa hbs ⊢;obtain ⟨V,hV⟩:∃V,V=wr.alloc (.cells #[.int .i64 a,.int .i64 z] 118):=⟨_,rfl⟩;have hVq:V.heap[wr.heap.size]?=some (.cells #[.int .i64 a,.int .i64 z] 118 (0,0)):=by rw [hV];exact au _ _
   have hTV:Tk w g (w.heap.size+1) bs V:=hTk.below (by rw [hV];exact (hH _ _).alloc (gt _) _)
   have hlen:out.length=bs.length+(a-f)+z+(cU a (gs.drop (k+1)) text).length:=by
    rw [<-hbs];simp only [Or,Ri,Rf,SR];omega
   have HP:Hid (Ra 45 #[.pointer (some ⟨w.heap.size+1,0,none⟩),.slice (some ⟨tb,f,none⟩) (a-f) (c1-f)] V.drew fun e w'=>e=.returned (.tuple #[.int .i64 (a-f:Nat),.nilIface])/\Hid (Tk w g (w.heap.size+1) (bs++(text.drop f).take (a-f)) w'/\w'.heap[wr.heap.size]?=some (.cells #[.int .i64 a,.int .i64 z] 118 (0,0)))/\(w'.cell? ⟨w.heap.size,0,none⟩=some (.pointer (some ⟨g,0,none⟩))/\w'.cell? ⟨g,3,none⟩=some (.slice (some ⟨tb,0,none⟩) text.length c1)/\w'.cell? ⟨wr.heap.size,0,none⟩=some (.int .i64 a))/\w'.cell? ⟨wr.heap.size,1,none⟩=some (.int .i64 z)):=by
    refine (Tk.piece (W:=V.drew) (hTV.below (Us (hH _ _))) HR2.out f (a-f) (c1-f) wr.heap.size _ _ hVq (by omega) (by omega)).mono ?_;rintro e w' ⟨rfl,HK,k0,k1⟩;exact ⟨rfl,HK,⟨af HK.out.1.hb rfl,(G3.out w' HK.out.1.lo).1,k0⟩,k1⟩
   have v1:V.cell? ⟨w.heap.size,0,none⟩=some (.pointer (some ⟨g,0,none⟩)):=af hTV.hb rfl;have v2:=(G3.out V hTV.lo).1;have v3:V.cell? ⟨wr.heap.size,0,none⟩=some (.int .i64 a):=af hVq rfl;have HBS:Hid (bs++(List.take (a-f) (List.drop f text)++(List.replicate z 32++cU a (List.drop (k+1) gs) text))=out/\out.length=bs.length+(a-f)+z+(cU a (gs.drop (k+1)) text).length/\sR gs (k+1)=a):=⟨hbs,hlen,hfs⟩;have HVV:Hid (V=wr.alloc (.cells #[.int .i64 a,.int .i64 z] 118)):=hV;clear hV hVq hTV hTk hbs hlen HI x1 x2 hx hf hfs e3
   go_wp2_with fail
   rw [<-HVV.out];have i1:(f:Int)<=a:=by omega
   have i2:(a:Int)<=c1:=by omega
   have i3:f<c1:=by omega
   have i4:a<=c1:=by omega
   have i5:¬(c1-f=0):=by omega
   have i6:(0:Int)<=f:=by omega
   have i7:¬(c1=f):=by omega
   go_region_held3 (fun w'=>w'.cell? ⟨w.heap.size,0,none⟩=some (.pointer (some ⟨g,0,none⟩))/\w'.cell? ⟨g,3,none⟩=some (.slice (some ⟨tb,0,none⟩) text.length c1)/\w'.cell? ⟨wr.heap.size,0,none⟩=some (.int .i64 a)) (first|assumption|(exact ⟨v1,v2,v3⟩)|go_keep) (first|(go_at_call 45;(try rw [Eq i7]);refine HP.out.mono ?_;rintro e w3 ⟨rfl,HT3,z0,z1⟩))
   clear HP v1 v2 v3 z0 HVV;have hz:z<=8589934592:=by have:=HBS.out.2.1;omega
   go_wp2_with fail
   refine (Ii z w3 hz).mono ?_;rintro e w4 ⟨rfl,hb4⟩;have HT4:Hid (Tk w g (w.heap.size+1) (bs++(text.drop f).take (a-f)) w4/\w4.heap[wr.heap.size]?=some (.cells #[.int .i64 a,.int .i64 z] 118 (0,0))):=⟨HT3.out.1.below hb4,ag HT3.out.2 hb4⟩
   have HW:Hid (Ra 46 #[.pointer (some ⟨w.heap.size+1,0,none⟩),.string (nS z)] w4 fun e w'=>e=.returned (.tuple #[.int .i64 z,.nilIface])/\Hid (Tk w g (w.heap.size+1) ((bs++(text.drop f).take (a-f))++List.replicate z 32) w')/\w'.cell? ⟨wr.heap.size,0,none⟩=some (.int .i64 a)):=by
    refine (HT4.out.1.wstr (nS z) (by rw [kT,Or,Ri];have:=HBS.out.2.1;omega)).mono ?_;rintro e w' ⟨rfl,h1,h2⟩;exact ⟨by rw [kT],h1,af (h2 _ _ _ _ HT4.out.2 (by decide) (by decide)) rfl⟩
   clear hb4 HT3 z1 HT4
   go_wp2_with fail
   refine HW.out.mono ?_;rintro e w5 ⟨rfl,HT5,u0⟩;clear HW
   go_wp2_with fail
   refine ⟨⟨k+1,hlt,by rw [HBS.out.2.2],by go_num,_,HT5.out,?_⟩,by simp [intOf];omega⟩;rw [HBS.out.2.2];have:=HBS.out.1;simp only [QM] at this ⊢;exact this
  ·obtain rfl:k=gs.length:=by omega
   obtain ⟨bs,hTk,hbs⟩:=HI.out
   have hfl:sR gs gs.length<=text.length:=by
    have:=(HU.out.1.drop gs.length (gt _)).le
    split at this
    ·rename_i h0;rw [h0];exact QK _
    ·exact this
   rw [TF] at hbs;have q1:¬((gs.length:Int)<gs.length):=by omega
   obtain ⟨f,hf⟩:∃f,sR gs gs.length=f:=⟨_,rfl⟩;rw [hf] at hfl hbs ⊢;have HBS:Hid (bs++text.drop f=out):=hbs;have v1:wr.cell? ⟨w.heap.size,0,none⟩=some (.pointer (some ⟨g,0,none⟩)):=af hTk.hb rfl;have v2:=(G3.out wr hTk.lo).1;have HTK:Hid (Tk w g (w.heap.size+1) bs wr):=hTk;clear hTk HI hbs hf
   have KEND:Hid (∀W,Tk w g (w.heap.size+1) out W->Ra 48 #[.pointer (some ⟨w.heap.size+1,0,none⟩)] W fun e w'=>e=.returned (.string ⟨out.toArray⟩)/\Hid (Below w.heap.size w w'/\w'.heap[w.heap.size]?=some (.cells #[.pointer (some ⟨g,0,none⟩)] 62 (0,0)))):=by
    intro W hW;have hsz:=aq hW.hb;refine (J5 (w.heap.size+1) (w.heap.size+1) out W (hW.builder (gt _)) (by omega)).mono ?_;rintro e w' ⟨rfl,hb⟩;exact ⟨rfl,hW.lo.trans (hb.mono (by omega)),(hb.block _ (by omega)).trans hW.hb⟩
   rcases HR2.out.2 with ⟨h,h0⟩|⟨tb,cap,cur,h,_⟩
   ·injection h with h1 h2 h3
    subst h1;subst h3;obtain rfl:f=0:=by omega
    have KW:Hid (Ra 45 #[.pointer (some ⟨w.heap.size+1,0,none⟩),.slice none 0 0] wr fun e w'=>e=.returned (.tuple #[.int .i64 0,.nilIface])/\Hid (Tk w g (w.heap.size+1) out w')):=by
     refine HTK.out.write_none.mono ?_;rintro e w' ⟨rfl,h4,_⟩;have:bs++[]=out:=by rw [<-HBS.out,QZ h0];rfl
     rw [this] at h4;exact ⟨rfl,h4⟩
    rw [h0] at v2
    go_wp2_with fail
    refine KW.out.mono ?_;rintro e w5 ⟨rfl,HT5⟩;clear v1 v2 KW
    go_wp2_with fail
    refine (KEND.out w5 HT5.out).mono ?_;rintro e w6 ⟨rfl,H6⟩
    go_wp2_with fail
    refine TO (f:=42) (args:=#[.pointer (some ⟨w.heap.size,0,none⟩)]) (by simp) (by simp [go_sem]) ?_;refine (HFIN.out w6 H6.out.1 H6.out.2).mono ?_;rintro e u' w'' ⟨rfl,rfl,hA⟩;exact ⟨_,UA rfl _ _ _,rfl,hA⟩
   ·injection h with h1 h2 h3
    subst h1;clear h2 h3;have i1:(f:Int)<=text.length:=by omega
    have i2:(text.length:Int)<=c1:=by omega
    have i3:f<=c1:=by omega
    have hl2:bs.length+(text.length-f)<=8589934592:=by
     have:(bs++text.drop f).length=out.length:=by rw [HBS.out]
     rw [Or,Rf] at this;omega
    by_cases hc:c1=f
    ·have KW:Hid (Ra 45 #[.pointer (some ⟨w.heap.size+1,0,none⟩),.slice (some ⟨tb,0,none⟩) (text.length-f) 0] wr fun e w'=>e=.returned (.tuple #[.int .i64 (text.length-f:Nat),.nilIface])/\Hid (Tk w g (w.heap.size+1) out w')):=by
      obtain rfl:f=text.length:=by omega
      refine (HTK.out.write [] ⟨tb,0,none⟩ (text.length-text.length) 0 (by simp) (fun j u h=>by simp [bc] at h) (by omega)).mono ?_;rintro e w' ⟨rfl,h4,_⟩;have h5:=HBS.out;rw [TF] at h5;rw [h5] at h4;exact ⟨rfl,h4⟩
     go_wp2_with fail
     refine KW.out.mono ?_;rintro e w5 ⟨rfl,HT5⟩;clear v1 v2 KW
     go_wp2_with fail
     refine (KEND.out w5 HT5.out).mono ?_;rintro e w6 ⟨rfl,H6⟩
     go_wp2_with fail
     refine TO (f:=42) (args:=#[.pointer (some ⟨w.heap.size,0,none⟩)]) (by simp) (by simp [go_sem]) ?_;refine (HFIN.out w6 H6.out.1 H6.out.2).mono ?_;rintro e u' w'' ⟨rfl,rfl,hA⟩;exact ⟨_,UA rfl _ _ _,rfl,hA⟩
    ·have KW:Hid (Ra 45 #[.pointer (some ⟨w.heap.size+1,0,none⟩),.slice (some ⟨tb,f,none⟩) (text.length-f) (c1-f)] wr fun e w'=>e=.returned (.tuple #[.int .i64 (text.length-f:Nat),.nilIface])/\Hid (Tk w g (w.heap.size+1) out w')):=by
      have hsrc:=ue HR2.out rfl HTK.out.lo f (text.length-f);rw [RK (by rw [Rf];omega)] at hsrc;refine (HTK.out.write (text.drop f) ⟨tb,f,none⟩ (text.length-f) (c1-f) (by rw [Rf]) hsrc (by omega)).mono ?_;rintro e w' ⟨rfl,h4,_⟩;rw [HBS.out] at h4;exact ⟨rfl,h4⟩
     go_wp2_with fail
     refine KW.out.mono ?_;rintro e w5 ⟨rfl,HT5⟩;clear v1 v2 KW
     go_wp2_with fail
     refine (KEND.out w5 HT5.out).mono ?_;rintro e w6 ⟨rfl,H6⟩
     go_wp2_with fail
     refine TO (f:=42) (args:=#[.pointer (some ⟨w.heap.size,0,none⟩)]) (by simp) (by simp [go_sem]) ?_;refine (HFIN.out w6 H6.out.1 H6.out.2).mono ?_;rintro e u' w'' ⟨rfl,rfl,hA⟩;exact ⟨_,UA rfl _ _ _,rfl,hA⟩
def fx.blanks (s:fx) (n:Nat):fx:={ s with wait:=s.wait+n }
structure En (own:Nat->Nat) (w:World):Prop where
 nf:Nf own w
 tab:jF w
 z:own 5=0
theorem jF.pos {w:World}(h:jF w):5<w.heap.size:=QP w _ (h 0 (by omega)).1
theorem En.fr {own own':Nat->Nat}{w:World}{i:Nat}(h:En own w) (hi:i≠0) (hn:Nf own' w') (hf:Fr i own own' w w'):En own' w':=
 ⟨hn,hf.tab h.tab (by rw [h.z];exact fun e=>hi e.symm),(hf.old 5 h.tab.pos).trans h.z⟩
theorem En.below {own:Nat->Nat}{w:World}(h:En own w) (hb:Below w.heap.size w w'):En own w':=⟨h.nf.below hb.size,h.tab.below hb,h.z⟩
def Ae (own:Nat->Nat) (i:Nat) (w w':World) (g:Nat) (s:fx):Prop:=∃own',En own' w'/\Fr i own own' w w'/\SK own' i w' g s
theorem Af.ae {own:Nat->Nat}{i:Nat}{w:World}{g:Nat}{s:fx}(h:Af own i w w' g s) (hE:En own w) (hi:i≠0):Ae own i w w' g s:=by
 obtain ⟨own',h1,h2,h3⟩:=h;exact ⟨own',hE.fr hi h1 h2,h2,h3⟩
def wI:fx:=⟨true,0,0,[]⟩
theorem Mp (own:Nat->Nat) (i:Nat) (w:World) (hE:En own w) (hi:i≠0):Ra 17 #[] w fun e w'=>e=.returned (.pointer (some ⟨w.heap.size,0,none⟩))/\Ae own i w w' w.heap.size wI:=by
 refine (IV w).mono ?_;rintro e w' ⟨rfl,rfl⟩;have hb:Below w.heap.size w (w.alloc (.cells (sk false 0 0 (.slice none 0 0) (.slice none 0 0)) 108)):=(hH _ _).alloc (gt _) _;have hs:(w.alloc (.cells (sk false 0 0 (.slice none 0 0) (.slice none 0 0)) 108)).heap.size=w.heap.size+1:=QL _ _;have hf:Fr i own (fun k=>if k=w.heap.size then i else own k) w (w.alloc (.cells (sk false 0 0 (.slice none 0 0) (.slice none 0 0)) 108)):=⟨hb.os,hb.tape,hb.output,hb.size,fun k hk _=>hb.block k hk,fun k hk=>Eq (by omega)⟩;refine ⟨rfl,_,hE.fr hi ?_ hf,hf,IO rfl,.slice none 0 0,.slice none 0 0,[],[],au _ _,⟨RR _ _ _ _,fun k h=>by cases h⟩,⟨RR _ _ _ _,fun k h=>by cases h⟩,QK _,rfl,gt _,fun x h=>by cases h⟩;intro k hk;rw [hs] at hk;show (if k=w.heap.size then i else own k)=0;rw [Eq (by omega)];exact hE.nf k (by omega)
section
variable {own:Nat->Nat} {i:Nat} {g:Nat} {s:fx} {w:World}
theorem G7 (h:SK own i w g s) (hE:En own w) (hi:i≠0) (t:ByteArray) (hb:s.out.length+s.col+s.wait+t.size<=8589934592) :
  Ra 36 #[.pointer (some ⟨g,0,none⟩),.string t] w fun e w'=>e=.returned (.int .i64 0)/\Ae own i w w' g (s.text t):=
 (CW own i g s t w h hE.nf hE.tab hb).mono fun e w' ⟨h1,h2⟩=>⟨h1,h2.ae hE hi⟩
theorem JF (h:SK own i w g s) (hE:En own w) (hi:i≠0) (c:Nat) (hc:c<=1048576) (hb:s.out.length<=8589934592) :
  Ra 88 #[.pointer (some ⟨g,0,none⟩),.int .i64 c] w fun e w'=>e=.returned (.int .i64 0)/\Ae own i w w' g (s.feed c):=
 (Fa own i g s c w h hE.nf hc hb).mono fun e w' ⟨h1,h2⟩=>⟨h1,h2.ae hE hi⟩
theorem Fm (h:SK own i w g s) (hE:En own w) (hi:i≠0) (hb:s.out.length<=8589934592) :
  Ra 40 #[.pointer (some ⟨g,0,none⟩)] w fun e w'=>e=.returned (.int .i64 0)/\Ae own i w w' g s.empty:=
 (B5 own i g s w h hE.nf hb).mono fun e w' ⟨h1,h2⟩=>⟨h1,h2.ae hE hi⟩
theorem Hd (h:SK own i w g s) (hE:En own w) (hi:i≠0) (hb:s.out.length<=8589934592) :
  Ra 19 #[.pointer (some ⟨g,0,none⟩)] w fun e w'=>e=.returned (.string ⟨s.out.toArray⟩)/\Ae own i w w' g s.take:=
 (co own i g s w h hE.nf hb).mono fun e w' ⟨h1,h2⟩=>⟨h1,h2.ae hE hi⟩
theorem Co (h:SK own i w g s) (hE:En own w) (hi:i≠0) (n:Nat) (hn:n<=1048576) (hb:s.wait<=8589934592) :
  Ra 87 #[.pointer (some ⟨g,0,none⟩),.int .i64 n] w fun e w'=>e=.returned (.int .i64 0)/\Ae own i w w' g (s.blanks n):=by
 obtain ⟨tv,gv,text,gs,h1,h2,h3,h4⟩:=h.ex;refine (x9 g (!s.fresh) s.col s.wait n tv gv w h1 (by omega) (by omega) (by omega) (by omega)).mono ?_;rintro e w' ⟨rfl,rfl⟩;have hk:=Kp.set w g 2 (.int .i64 ((s.wait:Int)+n));have hf:Fr i own own w (w.setCell ⟨g,2,none⟩ (.int .i64 ((s.wait:Int)+n))):=hk.fr (fun k _ e=>by subst e;exact h.lab) (fun _ _=>rfl);have r1:=aM h2.1 h1 (by decide);have r2:=aM h3.1 h1 (by decide);refine ⟨rfl,own,hE.fr hi (hE.nf.below hk.size) hf,hf,h.lab,tv,gv,text,gs,?_,⟨hk.row h2.1 (fun k e1 e2=>r1 (by rw [e1,e2])),h2.2⟩,⟨hk.row h3.1 (fun k e1 e2=>r2 (by rw [e1,e2])),h3.2⟩,h4⟩;exact aj h1 2 _
theorem Cc (h:SK own i w g s) (h1:s.col<=8589934592) (h2:s.wait<=8589934592) :
  Ra 90 #[.pointer (some ⟨g,0,none⟩)] w fun e w'=>e=.returned (.int .i64 ((s.col:Int)+s.wait))/\Below w.heap.size w w':=by
 obtain ⟨tv,gv,text,gs,a1,_⟩:=h.ex;exact xV g (!s.fresh) s.col s.wait tv gv w a1 (by omega) (by omega) (by omega) (by omega)
theorem vF (h:SK own i w g s) :
  Ra 86 #[.pointer (some ⟨g,0,none⟩)] w fun e w'=>e=.returned (.bool s.fresh)/\w'=w:=by
 obtain ⟨tv,gv,text,gs,a1,_⟩:=h.ex;have:=BK g (!s.fresh) s.col s.wait tv gv w a1
 simpa using this
end
end Go.Proofs.YtjiepkenkcgkhaaGreatDoor.Lw
namespace Go.Proofs.YtjiepkenkcgkhaaGreatDoor.Lw
open Go.Proofs.YtjiepkenkcgkhaaGreatDoor.Lx
def EQ (t:ByteArray):Bool:=decide ((10:UInt8)∈t.data.toList)
def pw (d:Dc):Nat:=if d.k=1 then (if EQ d.t then 4097 else (tw d.t).toNat) else if d.k=2 then 1 else if d.k=3 then d.b.toNat else if d.k=4\/d.k=5 then 4097 else 0
structure Sp where
 all:Nat
 hang:Nat
 deriving DecidableEq
def Sp.wid (s:Sp) (c:Nat):Sp:=⟨min (s.all+c) 4097,min (s.hang+c) 4097⟩
def fE (d:Dc) (s:Sp × List Sp):Nat × Sp × List Sp:=
 if d.k=7 then (0,⟨0,0⟩,s.1 :: s.2)
 else if d.k=6 then (s.1.all,(s.2.headD ⟨0,0⟩).wid s.1.all,s.2.tail)
 else if d.k=3 then ((s.1.wid (pw d)).hang,⟨(s.1.wid (pw d)).all,0⟩,s.2)
 else if d.k=4\/d.k=5 then (0,⟨(s.1.wid (pw d)).all,0⟩,s.2)
 else (0,s.1.wid (pw d),s.2)
def eF:List Dc->List Nat × Sp × List Sp
 |[]=>([],⟨0,0⟩,[])
 |d :: r=>((fE d (eF r).2).1 :: (eF r).1,(fE d (eF r).2).2)
theorem kx:∀l,(eF l).1.length=l.length
 |[]=>rfl
 |d :: r=>by simp [eF,kx r]
theorem od (s:Sp) (c:Nat):(s.wid c).all<=4097/\(s.wid c).hang<=4097:=by simp only [Sp.wid];omega
def Sb (s:Sp):Prop:=s.all<=4097/\s.hang<=4097
theorem G9 (d:Dc) (s:Sp × List Sp) (h:Sb s.1) (h2:∀x∈s.2,Sb x):(fE d s).1<=4097/\Sb (fE d s).2.1/\∀x∈(fE d s).2.2,Sb x:=by
 unfold fE
 repeat' split
 ·refine ⟨QK _,⟨QK _,QK _⟩,?_⟩;intro x hx
  rcases Rg.1 hx with rfl|hx
  ·exact h
  ·exact h2 x hx
 ·exact ⟨h.1,od _ _,fun x hx=>h2 x (List.mem_of_mem_tail hx)⟩
 ·exact ⟨(od _ _).2,⟨(od _ _).1,QK _⟩,h2⟩
 ·exact ⟨QK _,⟨(od _ _).1,QK _⟩,h2⟩
 ·exact ⟨QK _,od _ _,h2⟩
theorem xA:∀l,(∀x∈(eF l).1,x<=4097)/\Sb (eF l).2.1/\∀x∈(eF l).2.2,Sb x
 |[]=>⟨by simp [eF],⟨QK _,QK _⟩,by simp [eF]⟩
 |d :: r=>by
  obtain ⟨h1,h2,h3⟩:=xA r;obtain ⟨k1,k2,k3⟩:=G9 d (eF r).2 h2 h3;refine ⟨?_,k2,k3⟩;intro x hx
  rcases Rg.1 hx with rfl|hx
  ·exact k1
  ·exact h1 x hx
theorem uX:∀(l:List Dc) (o:Int) (j:Nat),0<=o->cy o j l=none->((eF l).2.2.length:Int)=o
 |[],o,j,ho,h=>by
  simp only [cy] at h
  split at h
  ·cases h
  ·show (0:Int)=o;omega
 |d :: r,o,j,ho,h=>by
  simp only [cy] at h
  split at h
  ·rename_i hc
   have ih:=uX r _ _ hc.2 h;show ((fE d (eF r).2).2.2.length:Int)=o;unfold fE;unfold dh at ih
   split
   ·rename_i h7
    rw [Eq (by omega),IO h7] at ih;show (((eF r).2.2.length+1:Nat):Int)=o;omega
   ·rename_i h7
    split
    ·rename_i h6
     rw [IO h6] at ih;show ((eF r).2.2.tail.length:Int)=o;rw [List.length_tail];omega
    ·rename_i h6
     rw [Eq h6,Eq h7] at ih
     repeat' split
     all_goals (show ((eF r).2.2.length:Int)=o;omega)
  ·cases h
structure Bk where
 ind:Nat
 ev:Bool
 ft:Bool
structure Pr where
 sk:fx
 bl:Bk
 ar:List Bk
 en:Bool
def Pr.at (p:Pr):Nat:=p.sk.col+p.sk.wait
def Pr.fits (n need:Nat) (p:Pr):Bool:=decide (need+p.at<=n)
def Pr.hold (p:Pr) (m:Nat):Pr:=if p.sk.fresh then p else { p with sk:=p.sk.blanks m }
def Pr.endl (p:Pr):Pr:=if p.sk.fresh then p else { p with sk:=p.sk.feed p.bl.ind,en:=true }
def Pr.brk (n need:Nat) (p:Pr):Bool:=if p.bl.ev then !p.bl.ft else !p.fits n need
def put (n:Nat) (d:Dc) (need:Nat) (p:Pr):Pr:=
 if d.k=1 then { p with sk:=p.sk.text d.t,en:=false }
 else if d.k=2 then p.hold 1
 else if d.k=3 then (if p.brk n need then p.endl else p.hold d.b.toNat)
 else if d.k=4 then p.endl
 else if d.k=5 then (if p.en then { p with sk:=p.sk.empty,en:=false } else p)
 else if d.k=6 then { p with ar:=p.bl :: p.ar,bl:=⟨min (p.bl.ind+d.i.toNat) 1000,d.e,p.fits n need⟩ }
 else if d.k=7 then { p with bl:=p.ar.headD ⟨0,false,false⟩,ar:=p.ar.tail }
 else p
def puts (n:Nat):List Dc->List Nat->Pr->Pr
 |d :: r,m :: ms,p=>puts n r ms (put n d m p)
 |_,_,p=>p
def ql:Pr:=⟨wI,⟨0,false,false⟩,[],false⟩
def ik (n:Nat) (l:List Dc):List UInt8:=(puts n l (eF l).1 ql).sk.out
def rD (n:Int) (l:List Dc):ByteArray × Int:=if n<1\/4096<n then (⟨#[]⟩,1) else if cy 0 0 l≠none then (⟨#[]⟩,70) else (⟨(ik n.toNat l).toArray⟩,0)
def ud (d:Dc):Nat:=2*d.t.size+(if d.k=6\/d.k=7 then 0 else 1001)
def qc (l:List Dc):Nat:=(l.map ud).sum
structure Bp (p:Pr) (U:Nat):Prop where
 out:p.sk.out.length+p.sk.wait+(if p.sk.fresh then p.sk.col else 0)<=U
 col:p.sk.col+p.sk.wait<=U
 ind:p.bl.ind<=1000
 ar:∀b∈p.ar,b.ind<=1000
 wt:p.sk.fresh=true->p.sk.wait=0
theorem QE:Bp ql 0:=⟨by simp [ql,wI],by simp [ql,wI],by simp [ql],by simp [ql],fun _=>rfl⟩
theorem Bp.mono {p:Pr}{U V:Nat}(h:Bp p U) (hv:U<=V):Bp p V:=⟨QQ h.out hv,QQ h.col hv,h.ind,h.ar,h.wt⟩
theorem Bp.hold {p:Pr}{U:Nat}(h:Bp p U) (m:Nat):Bp (p.hold m) (U+m):=by
 unfold Pr.hold
 split
 ·exact h.mono (by omega)
 ·rename_i hf
  have h1:=h.out;have h2:=h.col;refine ⟨?_,?_,h.ind,h.ar,fun e=>absurd e hf⟩
  ·show p.sk.out.length+(p.sk.wait+m)+(if p.sk.fresh then p.sk.col else 0)<=_
   omega
  ·show p.sk.col+(p.sk.wait+m)<=_
   omega
theorem Bp.endl {p:Pr}{U:Nat}(h:Bp p U):Bp p.endl (U+1001):=by
 unfold Pr.endl
 split
 ·exact h.mono (by omega)
 ·rename_i hf
  have h1:=h.out;have h2:=h.col;have h3:=h.ind;refine ⟨?_,?_,h.ind,h.ar,fun _=>rfl⟩
  ·show (p.sk.out++[10]).length+0+p.bl.ind<=_
   rw [Or];simp only [List.length_cons,List.length_nil];omega
  ·show p.bl.ind+0<=_
   omega
theorem L9 {n need U:Nat}{d:Dc}{p:Pr}(hd:rt d=true) (h:Bp p U):Bp (put n d need p) (U+ud d):=by
 have h1:=h.out;have h2:=h.col;have h3:=h.ind;cases mj hd with
 |text t hq=>
  have hs:=(mV hq).1;refine ⟨?_,?_,h.ind,h.ar,?_⟩
  ·show (p.sk.text t).out.length+(p.sk.text t).wait+(if (p.sk.text t).fresh then (p.sk.text t).col else 0)<=U+ud ⟨1,t,0,0,false⟩
   unfold fx.text ud;rw [Eq (by omega)];have e:t.data.toList.length=t.size:=by rw [RG];rfl
   simp only [Or,SR,e];cases hf:p.sk.fresh
   ·rw [hf] at h1;simp at h1 ⊢;omega
   ·rw [hf] at h1;simp at h1 ⊢;omega
  ·show (p.sk.text t).col+(p.sk.text t).wait<=U+ud ⟨1,t,0,0,false⟩
   unfold fx.text ud;rw [Eq (by omega)];have:=zp p.sk.col p.sk.wait t;show (mL p.sk.col p.sk.wait t).toNat+0<=_;simp;omega
  ·intro e
   exfalso
   have:(p.sk.text t).fresh=true:=e;unfold fx.text at this;rw [Eq (by omega)] at this;cases this
 |brk m hq=>
  obtain ⟨q1,q2⟩:=rU hq;show Bp (if p.brk n need then p.endl else p.hold m.toNat) _
  split
  ·exact h.endl.mono (by simp [ud,bE])
  ·exact (h.hold _).mono (by simp [ud,bE];omega)
 |beg m e hq=>
  refine ⟨QQ h1 (by omega),QQ h2 (by omega),?_,?_,h.wt⟩
  ·show min (p.bl.ind+m.toNat) 1000<=1000
   omega
  ·intro b hb
   rcases Rg.1 hb with rfl|hb
   ·exact h3
   ·exact h.ar b hb
 |blank=>exact (h.hold 1).mono (by simp [ud,bE])
 |hard=>exact h.endl.mono (by simp [ud,bE])
 |empty=>
  show Bp (if p.en then { p with sk:=p.sk.empty,en:=false } else p) _
  split
  ·unfold fx.empty
   split
   ·rename_i hf
    rw [IO hf] at h1;refine ⟨?_,?_,h3,h.ar,fun _=>rfl⟩
    ·show (p.sk.out++[10]).length+0+p.sk.col<=_
     rw [Or];simp [ud,bE];omega
    ·show p.sk.col+0<=_
     omega
   ·rename_i hf
    exact ⟨QQ h1 (by omega),QQ h2 (by omega),h3,h.ar,h.wt⟩
  ·exact h.mono (by omega)
 | «end»=>
  refine ⟨QQ h1 (by omega),QQ h2 (by omega),?_,fun b hb=>h.ar b (List.mem_of_mem_tail hb),h.wt⟩;show (p.ar.headD ⟨0,false,false⟩).ind<=1000;cases ha:p.ar with
  |nil=>simp
  |cons b r=>exact h.ar b (by rw [ha];exact QN)
theorem rZ {n:Nat}:∀(l:List Dc) (ms:List Nat) (p:Pr) (U:Nat),(∀d∈l,rt d=true)->Bp p U->Bp (puts n l ms p) (U+qc l)
 |[],ms,p,U,_,h=>by simpa [puts,qc] using h
 |d :: r,[],p,U,_,h=>h.mono (by omega)
 |d :: r,m :: ms,p,U,hr,h=>by
  have:=rZ (n:=n) r ms _ _ (fun x hx=>hr x (QO _ hx)) (L9 (n:=n) (need:=m) (hr d QN) h);have e:U+qc (d :: r)=U+ud d+qc r:=by simp [qc];omega
  rw [e];exact this
theorem DT {n need:Nat}{d:Dc}{p:Pr}(hd:rt d=true) {o:Int}(h:(p.ar.length:Int)=o) (ho:0<=o+dh d.k):((put n d need p).ar.length:Int)=o+dh d.k:=by
 cases mj hd with
 |text t hq=>simpa [put,dh] using h
 |brk m hq=>
  have:((put n ⟨3,bE,m,0,false⟩ need p).ar)=p.ar:=by
   show (if p.brk n need then p.endl else p.hold m.toNat).ar=p.ar
   unfold Pr.endl Pr.hold
   repeat' split
   all_goals rfl
  rw [this];simpa [dh] using h
 |beg m e hq=>
  show (((p.bl :: p.ar).length:Nat):Int)=o+1
  simp;omega
 |blank=>
  have:(p.hold 1).ar=p.ar:=by unfold Pr.hold;split <;> rfl
  show ((p.hold 1).ar.length:Int)=o+0
  rw [this];omega
 |hard=>
  have:p.endl.ar=p.ar:=by unfold Pr.endl;split <;> rfl
  show (p.endl.ar.length:Int)=o+0
  rw [this];omega
 |empty=>
  have:(if p.en then { p with sk:=p.sk.empty,en:=false } else p).ar=p.ar:=by split <;> rfl
  show (((if p.en then { p with sk:=p.sk.empty,en:=false } else p).ar.length:Nat):Int)=o+0
  rw [this];omega
 | «end»=>
  show ((p.ar.tail.length:Nat):Int)=o+-1
  have:0<=o+-1:=ho;rw [List.length_tail];omega
end Go.Proofs.YtjiepkenkcgkhaaGreatDoor.Lw
namespace Go.Proofs.YtjiepkenkcgkhaaGreatDoor.Lw
open Go.Proofs.YtjiepkenkcgkhaaGreatDoor.Lx
open Go.RowKit
theorem Pe (l:List UInt8):decide (0<=Lib.indexByte l 10)=decide ((10:UInt8)∈l)/\-1<=Lib.indexByte l 10:=by
 induction l with
 |nil=>exact ⟨rfl,by decide⟩
 |cons b l ih=>
  unfold Lib.indexByte
  by_cases hb:b=10
  ·subst hb;simp
  ·have hb':(b == (10:UInt8))=false:=by simpa using hb
   have hne:¬(10:UInt8)=b:=fun h=>hb h.symm
   rw [hb'];obtain ⟨i1,i2⟩:=ih
   generalize Lib.indexByte l 10=z at *
   by_cases h0:(10:UInt8)∈l
   ·have:0<=z:=by simpa [h0] using i1
    have h1:¬z=-1:=by omega
    simp [h0,hne,h1];omega
   ·have:¬0<=z:=by simpa [h0] using i1
    have h1:z=-1:=by omega
    simp [h0,hne,h1]
theorem jT (s:ByteArray) (w:World) :
  Ra 210 #[.string s,.int .u8 10] w fun e w'=>e=.returned (.int .i64 (Lib.indexByte s.data.toList 10))/\w'=w:=by
 go_enter Tryz.func210,Tryz.ntmps210
 go_wp2
 rw [run_callFunc_extern Tryz.func225 (by kernel_rfl) (by kernel_rfl) (by kernel_rfl) (e:=Extern.BytealgIndexByte.indexByte) (by kernel_rfl),Lib.run_indexByteString];simp only [Result.andThen];rw [Oper.upon_value]
 go_wp2
 go_ret
 exact ⟨rfl,rfl⟩
theorem jm (s:ByteArray) (w:World) :
  Ra 208 #[.string s,.string ⟨#[10]⟩] w fun e w'=>e=.returned (.int .i64 (Lib.indexByte s.data.toList 10))/\w'=w:=by
 go_enter Tryz.func208,Tryz.ntmps208
 go_wp2_with (go_at_call 210;refine (jT _ _).mono ?_;rintro e w' ⟨rfl,rfl⟩)
 ·have h:([(10:UInt8)] == s.toList)=true:=by assumption
  have e:s.data.toList=[10]:=by rw [<-Lib.toList_data];exact (RM.1 h).symm
  have e2:Lib.indexByte s.data.toList 10=0:=by rw [e];rfl
  go_ret
  exact ⟨by rw [e2];rfl,rfl⟩
 ·go_ret
  exact ⟨rfl,rfl⟩
theorem xb (s:ByteArray) (w:World) :
  Ra 173 #[.string s,.string ⟨#[10]⟩] w fun e w'=>e=.returned (.int .i64 (Lib.indexByte s.data.toList 10))/\w'=w:=by
 go_enter Tryz.func173,Tryz.ntmps173
 go_wp2_with (go_at_call 208;refine (jm _ _).mono ?_;rintro e w' ⟨rfl,rfl⟩)
 go_ret
 exact ⟨rfl,rfl⟩
theorem Jt (s:ByteArray) (w:World) :
  Ra 135 #[.string s,.string ⟨#[10]⟩] w fun e w'=>e=.returned (.bool (EQ s))/\w'=w:=by
 have h:=(Pe s.data.toList).1;unfold EQ;rw [<-h];clear h
 go_enter Tryz.func135,Tryz.ntmps135
 go_wp2_with (go_at_call 173;refine (xb _ _).mono ?_;rintro e w' ⟨rfl,rfl⟩)
 go_ret
 exact ⟨rfl,rfl⟩
def tm (t:ByteArray):Nat:=if EQ t then 4097 else (tw t).toNat
theorem wh (s:ByteArray) (w:World) (hT:jF w) (hs:s.size<=8589934592) :
  Ra 82 #[.string s] w fun e w'=>e=.returned (.int .i64 (tm s))/\Below w.heap.size w w':=by
 have hb:=qx s;have HT:=lg s w hT hs;have HH:=Jt s w;unfold tm
 generalize EQ s=b at *
 cases b
 ·obtain ⟨z,hz⟩:∃z:Nat,tw s=z:=⟨(tw s).toNat,by omega⟩;rw [hz] at HT ⊢;clear hb hz hT
  go_enter Tryz.func82,Tryz.ntmps82
  go_wp2_with (first|(go_at_call 135;refine HH.mono ?_;rintro e w1 ⟨rfl,rfl⟩)|(go_at_call 136;refine HT.mono ?_;rintro e w2 ⟨rfl,hb2⟩))
  go_ret
  exact ⟨by simp,hb2⟩
 ·clear hb hT HT
  go_enter Tryz.func82,Tryz.ntmps82
  go_wp2_with (first|(go_at_call 135;refine HH.mono ?_;rintro e w1 ⟨rfl,rfl⟩))
  go_ret
  exact ⟨rfl,hH _ _⟩
def GF (s:Sp):List Value:=[.int .i64 s.all,.int .i64 s.hang]
theorem Ht (s:Sp):(GF s).length=2:=rfl
theorem Av (g:Nat) (s:Sp) (c:Nat) (w:World) (hg:w.heap[g]?=some (.cells #[.int .i64 s.all,.int .i64 s.hang] 157 (0,0))) (hs:Sb s) (hc:c<=1000000000) :
  Ra 81 #[.pointer (some ⟨g,0,none⟩),.int .i64 c] w fun e w'=>e=.returned (.tuple #[])/\w'.heap[g]?=some (.cells #[.int .i64 (s.wid c).all,.int .i64 (s.wid c).hang] 157 (0,0))/\Kp (fun k=>k=g) w w':=by
 obtain ⟨a,h⟩:=s;obtain ⟨ha,hh⟩:=hs;simp only at ha hh hg;have g0:w.cell? ⟨g,0,none⟩=some (.int .i64 a):=af hg rfl;have g1:w.cell? ⟨g,1,none⟩=some (.int .i64 h):=af hg rfl;have f0:w.frozen? ⟨g,0,none⟩=false:=am hg;have f1:w.frozen? ⟨g,1,none⟩=false:=am hg
 have HE:Hid (((w.setCell ⟨g,0,none⟩ (.int .i64 (min (a+c) 4097:Nat))).setCell ⟨g,1,none⟩ (.int .i64 (min (h+c) 4097:Nat))).heap[g]?=some (.cells #[.int .i64 (min (a+c) 4097:Nat),.int .i64 (min (h+c) 4097:Nat)] 157 (0,0))/\Kp (fun k=>k=g) w ((w.setCell ⟨g,0,none⟩ (.int .i64 (min (a+c) 4097:Nat))).setCell ⟨g,1,none⟩ (.int .i64 (min (h+c) 4097:Nat)))):=
  ⟨aj (aj hg 0 _) 1 _,(Kp.set _ _ _ _).trans (Kp.set _ _ _ _)⟩
 simp only [Sp.wid];have e1:((min (a+c) 4097:Nat):Int)=min ((a:Int)+c) 4097:=by omega
 have e2:((min (h+c) 4097:Nat):Int)=min ((h:Int)+c) 4097:=by omega
 rw [e1,e2] at HE ⊢;have hw1:(w.setCell ⟨g,0,none⟩ (.int .i64 (min ((a:Int)+c) 4097))).cell? ⟨g,1,none⟩=some (.int .i64 h):=af (aj hg 0 _) rfl;clear hg
 go_enter Tryz.func81,Tryz.ntmps81
 go_wp2_with fail
 go_end0
 exact ⟨rfl,HE.out⟩
end Go.Proofs.YtjiepkenkcgkhaaGreatDoor.Lw
