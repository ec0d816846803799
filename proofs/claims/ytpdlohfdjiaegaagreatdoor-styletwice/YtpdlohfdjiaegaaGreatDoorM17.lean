import Derived.Deep.RegionHeld3
import Derived.Test.YtpdlohfdjiaegaaGreatDoorM16
set_option linter.unusedVariables false
set_option linter.unusedSimpArgs false
namespace Go.Proofs.YtpdlohfdjiaegaaGreatDoor.Lw
open Go.Proofs.YtpdlohfdjiaegaaGreatDoor.Lx
open Go.RowKit
open Go.Lib (strCells strCells_length)
def St6.take (s:St6):St6:=⟨s.fresh,s.col,s.wait,[]⟩
def lY (gs:List (Nat × Nat)):Nat->Nat
 |0=>0
 |k+1=>(gs.getD k (0,0)).1
end Go.Proofs.YtpdlohfdjiaegaaGreatDoor.Lw
namespace Go.Proofs.YtpdlohfdjiaegaaGreatDoor
open Go.Proofs.YtpdlohfdjiaegaaGreatDoor.Lw
open Go.Proofs.YtpdlohfdjiaegaaGreatDoor.Lx
open Go.RowKit
open Go.Lib (strCells strCells_length)
theorem Ups.drop {gs:List (Nat × Nat)}{n:Nat}{f:Nat}(h:Ups f gs n):∀k,k<=gs.length->Ups (if k=0 then f else lY gs k) (gs.drop k) n:=by
 induction gs generalizing f with
 |nil=>
  intro k hk;obtain rfl:k=0:=by simpa using hk
  exact h
 |cons x r ih=>
  obtain ⟨a,m⟩:=x;intro k hk;cases k with
  |zero=>exact h
  |succ k=>
   have:=ih h.2 k (by simpa using hk);simp only [List.drop_succ_cons];cases k with
   |zero=>exact this
   |succ k=>exact this
end Go.Proofs.YtpdlohfdjiaegaaGreatDoor
namespace Go.Proofs.YtpdlohfdjiaegaaGreatDoor.Lw
open Go.Proofs.YtpdlohfdjiaegaaGreatDoor.Lx
open Go.RowKit
open Go.Lib (strCells strCells_length)
variable {w w':World}{n k a g i:Nat}
theorem oF {gs:List (Nat × Nat)}{f:Nat}{t:List UInt8}(h:gs[k]?=some (a,n)):bW f (gs.drop k) t=(t.drop f).take (a-f)++(List.replicate n 32++bW a (gs.drop (k+1)) t):=by
 obtain ⟨hl,he⟩:=List.getElem?_eq_some_iff.1 h;rw [List.drop_eq_getElem_cons hl,he];rfl
theorem sY {gs:List (Nat × Nat)}(h:gs[k]?=some (a,n)):lY gs (k+1)=a:=by
 show (gs.getD k (0,0)).1=a
 rw [List.getD,h];rfl
theorem yO {gs:List (Nat × Nat)}{m:Nat}(hu:Ups 0 gs m) (h:gs[k]?=some (a,n)):lY gs k<=a:=by
 obtain ⟨hl,he⟩:=List.getElem?_eq_some_iff.1 h;have:=hu.drop k (by omega);rw [List.drop_eq_getElem_cons hl,he] at this;have h1:=this.1;cases k with
 |zero=>exact Nat.zero_le _
 |succ k=>simpa using h1
theorem Tk.piece {w0:World}{g b:Nat}{bs:List UInt8}{W:World}(h:Tk w0 g b bs W) {text:List UInt8}{tb cap:Nat}(hr:w0.ownsRow 0 5 1 (.slice (some ⟨tb,0,none⟩) text.length cap) text.length (bc text)) (f m c q:Nat) (x y:Value) (hq:W.heap[q]?=some (.cells #[x,y] 175 (0,0))) (hm:f+m<=text.length) (hn:bs.length+m<=70368744177664) :
  Da 113 #[.pointer (some ⟨b,0,none⟩),.slice (some ⟨tb,f,none⟩) m c] W fun e w'=>e=.returned (.tuple #[.int .i64 m,.nilIface])/\Hid (Tk w0 g b (bs++(text.drop f).take m) w'/\w'.heap[q]?=some (.cells #[x,y] 175 (0,0)))/\w'.cell? ⟨q,0,none⟩=some x/\w'.cell? ⟨q,1,none⟩=some y:=by
 refine (h.write ((text.drop f).take m) ⟨tb,f,none⟩ m c (by rw [List.length_take,List.length_drop];omega) (mL hr rfl h.lo f m) hn).mono ?_;rintro e w' ⟨rfl,h1,h2⟩;have:=h2 q _ _ _ hq (by decide) (by decide);exact ⟨rfl,⟨h1,this⟩,aa this rfl,aa this rfl⟩
theorem Tk.builder {w0:World}{b:Nat}{bs:List UInt8}{W:World}(h:Tk w0 g b bs W) (hb:w0.heap.size+1<=b):Lib.IsBuilder 172 5 (w0.heap.size+1) b (Lib.byteCells bs) W:=by
 obtain ⟨v,h1,h2⟩:=h.bd;refine .inr ⟨hb,v,h1.blk,?_,aA h1.row h1.blk (by decide)⟩;have hne:=aA h1.row h.hb (by decide);have hr:=h1.row;refine ⟨by rw [Lib.byteCells_length];simp,?_⟩;rw [Lib.byteCells_length]
 rcases hr.2 with h3|⟨gg,cap,cur,rfl,_,h4⟩
 ·exact .inl h3
 ·have h5:=h2 gg rfl;refine .inr ⟨gg,cap,cur,rfl,?_,h4⟩
  rcases Nat.eq_or_lt_of_le h5 with h6|h6
  ·exfalso;apply hne;rw [h6];rfl
  ·exact h6
theorem BT {own:Nat->Nat}{i:Nat}{w W:World}{g:Nat}{s:St6}{tv gv:Value}(hg:W.heap[g]?=some (.cells (sk (!s.fresh) s.col s.wait tv gv) 167 (0,0))) (hlab:own g=i) (hn:Nf own w) (hb:Below w.heap.size w W) (hlt:g<w.heap.size):Af own i w ((W.setCell ⟨g,3,none⟩ (.slice none 0 0)).setCell ⟨g,4,none⟩ (.slice none 0 0)) g s.take:=by
 have hk:Kp (fun k=>k=g) w ((W.setCell ⟨g,3,none⟩ (.slice none 0 0)).setCell ⟨g,4,none⟩ (.slice none 0 0)):=((Kp.of_below hb).step (Kp.set W g 3 (.slice none 0 0)) (fun _ _ h=>h)).step (Kp.set _ g 4 (.slice none 0 0)) (fun _ _ h=>h);refine ⟨own,hn.below hk.size,hk.fr (fun k _ e=>by subst e;exact hlab) (fun _ _=>rfl),hlab,.slice none 0 0,.slice none 0 0,[],[],af (af hg 3 _) 4 _,⟨World.ownsRow_nil _ _ _ _,fun k h=>by cases h⟩,⟨World.ownsRow_nil _ _ _ _,fun k h=>by cases h⟩,Nat.zero_le _,rfl,Nat.le_refl _,fun x h=>by cases h⟩
theorem uF {B e sz:Nat}{v:Value}{xs:List Value}(h:w.ownsRow B e sz v n xs):w.ownsRow 0 e sz v n xs:=by
 refine ⟨h.1,?_⟩
 rcases h.2 with h1|⟨g,cap,cur,rfl,_,h3⟩
 ·exact .inl h1
 ·exact .inr ⟨g,cap,cur,rfl,Nat.zero_le _,h3⟩
theorem Tk.start {w1 w2:World}(hb1:Below ((w.alloc (.cells #[.pointer (some ⟨g,0,none⟩)] 111)).alloc (.cells #[.pointer none,.slice none 0 0] 172)).heap.size ((w.alloc (.cells #[.pointer (some ⟨g,0,none⟩)] 111)).alloc (.cells #[.pointer none,.slice none 0 0] 172)) w1)
  (hB:Lib.BuilderAt 172 5 (w.heap.size+1) (w.heap.size+1) (.pointer (some ⟨w.heap.size+1,0,none⟩)) [] w2) (hb2:Below (w.heap.size+1) w1 w2):Tk w g (w.heap.size+1) [] w2:=by
 have s1:(w.alloc (.cells #[.pointer (some ⟨g,0,none⟩)] 111)).heap.size=w.heap.size+1:=World.size_alloc _ _;have hbW:Below w.heap.size w ((w.alloc (.cells #[.pointer (some ⟨g,0,none⟩)] 111)).alloc (.cells #[.pointer none,.slice none 0 0] 172)):=((Below.refl _ w).alloc (Nat.le_refl _) _).alloc (by omega) _;have b1:((w.alloc (.cells #[.pointer (some ⟨g,0,none⟩)] 111)).alloc (.cells #[.pointer none,.slice none 0 0] 172)).heap[w.heap.size]?=some (.cells #[.pointer (some ⟨g,0,none⟩)] 111 (0,0)):=eE _ _ _ _ (am _ _);obtain ⟨_,v,h1,h2,h3⟩:=hB;refine ⟨(hbW.trans (hb1.mono hbW.size)).trans (hb2.mono (by omega)),(hb2.block _ (by omega)).trans (ab b1 hb1),⟨v,⟨h1,uF h2⟩,fun k hk=>?_⟩,by omega⟩;have:=(h2.lt k hk).1;omega
set_option maxHeartbeats 1000000 in
theorem bD (own:Nat->Nat) (i g:Nat) (s:St6) (w:World) (h:SK own i w g s) (hn:Nf own w) (hb:s.out.length<=1073741824) :
  Da 61 #[.pointer (some ⟨g,0,none⟩)] w fun e w'=>e=.returned (.string ⟨s.out.toArray⟩)/\Af own i w w' g s.take:=by
 have hlt:=h.len;have hlab:=h.lab;obtain ⟨tv,gv,text,gs,h1,h2,h3,h4,h5,h6,h7⟩:=h.ex;have hwl:=gX h4;rw [<-h5] at hwl;have hr2:=h2.1;have hr3:=h3.1;obtain ⟨p1,c1,e1,hc1,hm1⟩:=av hr2;obtain ⟨p2,c2,e2,hc2,hm2⟩:=av hr3;obtain ⟨fr,col,wait,out⟩:=s;simp only at *
 have HSZ:Hid (∀W,Below w.heap.size w W->Da 112 #[.pointer (some ⟨g,0,none⟩)] W fun e w'=>e=.returned (.int .i64 (out.length:Nat))/\Below W.heap.size W w'):=by
  intro W hW;have:=ut g (!fr) col wait tv gv text.length (bc text) gs W ((hW.block g hlt).trans h1) (aO hr2 hW) (aO hr3 hW) (by omega) (by omega) (by omega);rw [show out.length=text.length+bT gs by omega];exact this
 have G3:Hid (∀W,Below w.heap.size w W->W.cell? ⟨g,3,none⟩=some tv/\W.cell? ⟨g,4,none⟩=some gv):=fun W hW=>⟨aa ((hW.block g hlt).trans h1) rfl,aa ((hW.block g hlt).trans h1) rfl⟩
 have hmf:=mkfn;subst e1 e2;have HR3:Hid (w.ownsRow 0 175 2 (.slice p2 gs.length c2) gs.length (aW eg gs)):=hr3;have HR2:Hid (w.ownsRow 0 5 1 (.slice p1 text.length c1) text.length (bc text)):=hr2;have HU:Hid (Ups 0 gs text.length/\out=bW 0 gs text/\∀x∈gs,x.1<text.length):=⟨h4,h5,h7⟩
 have HFIN:Hid (∀(W:World),Below w.heap.size w W->W.heap[w.heap.size]?=some (.cells #[.pointer (some ⟨g,0,none⟩)] 111 (0,0))->CallsD Tryz.prog 110 #[.pointer (some ⟨w.heap.size,0,none⟩)] .returning W fun e u' w'=>u'=.returning/\(e=.returned (.tuple #[])/\Af own i w w' g (St6.take ⟨fr,col,wait,out⟩))):=by
  intro W hW hh;have hgW:=(hW.block g hlt).trans h1;refine (wG .returning (!fr) col wait w.heap.size g _ _ W hgW hh ⟨_,_,_,rfl⟩ ⟨_,_,_,rfl⟩).mono ?_;rintro e u' w' ⟨rfl,rfl,rfl⟩;exact ⟨rfl,rfl,BT (s:=⟨fr,col,wait,out⟩) hgW hlab hn hW hlt⟩
 have hgl:gs.length<=1073741824:=by omega
 have HWL:Hid (out.length=text.length+bT gs/\gs.length<=bT gs):=⟨by omega,h6⟩;clear h h1 h2 h3 h4 h5 h6 h7 hr2 hr3 hwl hn hlab
 go_enter_defers Tryz.func61,Tryz.ntmps61
 go_wp2_with fail
 have s1:(w.alloc (.cells #[.pointer (some ⟨g,0,none⟩)] 111)).heap.size=w.heap.size+1:=World.size_alloc _ _;have s2:((w.alloc (.cells #[.pointer (some ⟨g,0,none⟩)] 111)).alloc (.cells #[.pointer none,.slice none 0 0] 172)).heap.size=w.heap.size+1+1:=by rw [World.size_alloc,s1]
 have hbW:Below w.heap.size w ((w.alloc (.cells #[.pointer (some ⟨g,0,none⟩)] 111)).alloc (.cells #[.pointer none,.slice none 0 0] 172)):=((Below.refl _ w).alloc (Nat.le_refl _) _).alloc (by omega) _;have b2:((w.alloc (.cells #[.pointer (some ⟨g,0,none⟩)] 111)).alloc (.cells #[.pointer none,.slice none 0 0] 172)).heap[w.heap.size+1]?=some (.cells #[.pointer none,.slice none 0 0] 172 (0,0)):=by rw [<-s1];exact am _ _
 refine (HSZ.out _ hbW).mono ?_;rintro e w1 ⟨rfl,hb1⟩;have HB1:Hid (∀w2,Lib.BuilderAt 172 5 (w.heap.size+1) (w.heap.size+1) (.pointer (some ⟨w.heap.size+1,0,none⟩)) [] w2->Below (w.heap.size+1) w1 w2->Tk w g (w.heap.size+1) [] w2):=fun w2 a b=>Tk.start hb1 a b
 have HG:Hid (Da 111 #[.pointer (some ⟨w.heap.size+1,0,none⟩),.int .i64 out.length] w1 fun e w'=>e=.returned (.tuple #[])/\(Lib.BuilderAt 172 5 (w.heap.size+1) (w.heap.size+1) (.pointer (some ⟨w.heap.size+1,0,none⟩)) [] w'/\Below (w.heap.size+1) w1 w')):=
  Cn _ _ _ w1 (Nat.le_refl _) (ab b2 hb1) (by have:=hb1.size;omega) (by omega)
 clear s1 s2 hbW b2 hb1 HSZ
 go_wp2_with fail
 refine HG.out.mono ?_;rintro e w2 ⟨rfl,hB,hb2⟩;have HT:Hid (Tk w g (w.heap.size+1) [] w2):=HB1.out w2 hB hb2;clear HB1 HG hB hb2;have g4:=(G3.out w2 HT.out.lo).2;have g5:w2.cell? ⟨w.heap.size,0,none⟩=some (.pointer (some ⟨g,0,none⟩)):=aa HT.out.hb rfl
 go_wp2_with fail
 go_loopw [4,18] (fun f j wr=>∃k:Nat,k<=gs.length/\f=.int .i64 (lY gs k)/\j=.int .i64 k/\Hid (∃bs,Tk w g (w.heap.size+1) bs wr/\bs++bW (lY gs k) (gs.drop k) text=out)) (fun _ j _=>gs.length-(intOf j).toNat)
 case atStart=>exact ⟨0,by omega,rfl,rfl,[],HT.out,HU.out.2.1.symm⟩
 case round=>
  obtain ⟨k,hk,rfl,rfl,HI⟩:=hrel;clear HT g4 g5
  by_cases hlt:k<gs.length
  ·obtain ⟨⟨a,z⟩,hx⟩:∃x,gs[k]?=some x:=⟨gs[k],List.getElem?_eq_getElem hlt⟩;obtain ⟨gb,gcap,he,hgc,x1,x2⟩:=kO HR3.out k (a,z) hx;injection he with e1 e2 e3
   subst e1;have hal:=HU.out.2.2 (a,z) (List.mem_of_getElem? hx);simp only at x1 x2 hal;have hfa:=yO HU.out.1 hx;have hfs:=sY hx
   obtain ⟨tb,rfl⟩:∃tb,p1=some ⟨tb,0,none⟩:=by
    rcases HR2.out.2 with ⟨h,h0⟩|⟨tb,cap,cur,h,_⟩
    ·omega
    ·injection h with h _ _;exact ⟨tb,h⟩
   obtain ⟨bs,hTk,hbs⟩:=HI.out;rw [oF hx] at hbs;have y1:=(hTk.lo.cell (p:=⟨gb,k*2,none⟩) (World.block_lt_of_cell? _ _ x1)).trans x1;have y2:=(hTk.lo.cell (p:=⟨gb,k*2+1,none⟩) (World.block_lt_of_cell? _ _ x2)).trans x2;have q1:(k:Int)<gs.length:=by omega
   obtain ⟨f,hf⟩:∃f,lY gs k=f:=⟨_,rfl⟩;rw [hf] at hfa hbs ⊢;obtain ⟨V,hV⟩:∃V,V=wr.alloc (.cells #[.int .i64 a,.int .i64 z] 175):=⟨_,rfl⟩;have hVq:V.heap[wr.heap.size]?=some (.cells #[.int .i64 a,.int .i64 z] 175 (0,0)):=by rw [hV];exact am _ _
   have hTV:Tk w g (w.heap.size+1) bs V:=hTk.below (by rw [hV];exact (Below.refl _ _).alloc (Nat.le_refl _) _)
   have hlen:out.length=bs.length+(a-f)+z+(bW a (gs.drop (k+1)) text).length:=by
    rw [<-hbs];simp only [List.length_append,List.length_take,List.length_drop,List.length_replicate];omega
   have HP:Hid (Da 113 #[.pointer (some ⟨w.heap.size+1,0,none⟩),.slice (some ⟨tb,f,none⟩) (a-f) (c1-f)] V.drew fun e w'=>e=.returned (.tuple #[.int .i64 (a-f:Nat),.nilIface])/\Hid (Tk w g (w.heap.size+1) (bs++(text.drop f).take (a-f)) w'/\w'.heap[wr.heap.size]?=some (.cells #[.int .i64 a,.int .i64 z] 175 (0,0)))/\(w'.cell? ⟨w.heap.size,0,none⟩=some (.pointer (some ⟨g,0,none⟩))/\w'.cell? ⟨g,3,none⟩=some (.slice (some ⟨tb,0,none⟩) text.length c1)/\w'.cell? ⟨wr.heap.size,0,none⟩=some (.int .i64 a))/\w'.cell? ⟨wr.heap.size,1,none⟩=some (.int .i64 z)):=by
    refine (Tk.piece (W:=V.drew) (hTV.below (Below.drew (Below.refl _ _))) HR2.out f (a-f) (c1-f) wr.heap.size _ _ hVq (by omega) (by omega)).mono ?_;rintro e w' ⟨rfl,HK,k0,k1⟩;exact ⟨rfl,HK,⟨aa HK.out.1.hb rfl,(G3.out w' HK.out.1.lo).1,k0⟩,k1⟩
   have v1:V.cell? ⟨w.heap.size,0,none⟩=some (.pointer (some ⟨g,0,none⟩)):=aa hTV.hb rfl;have v2:=(G3.out V hTV.lo).1;have v3:V.cell? ⟨wr.heap.size,0,none⟩=some (.int .i64 a):=aa hVq rfl;have HBS:Hid (bs++(List.take (a-f) (List.drop f text)++(List.replicate z 32++bW a (List.drop (k+1) gs) text))=out/\out.length=bs.length+(a-f)+z+(bW a (gs.drop (k+1)) text).length/\lY gs (k+1)=a):=⟨hbs,hlen,hfs⟩;have HVV:Hid (V=wr.alloc (.cells #[.int .i64 a,.int .i64 z] 175)):=hV;clear hV hVq hTV hTk hbs hlen HI x1 x2 hx hf hfs e3
   go_wp2_with fail
   rw [<-HVV.out];have i1:(f:Int)<=a:=by omega
   have i2:(a:Int)<=c1:=by omega
   have i3:f<c1:=by omega
   have i4:a<=c1:=by omega
   have i5:¬(c1-f=0):=by omega
   have i6:(0:Int)<=f:=by omega
   have i7:¬(c1=f):=by omega
   go_region_held3 (fun w'=>w'.cell? ⟨w.heap.size,0,none⟩=some (.pointer (some ⟨g,0,none⟩))/\w'.cell? ⟨g,3,none⟩=some (.slice (some ⟨tb,0,none⟩) text.length c1)/\w'.cell? ⟨wr.heap.size,0,none⟩=some (.int .i64 a)) (first|assumption|(exact ⟨v1,v2,v3⟩)|go_keep) (first|(go_at_call 113;(try rw [if_neg i7]);refine HP.out.mono ?_;rintro e w3 ⟨rfl,HT3,z0,z1⟩))
   clear HP v1 v2 v3 z0 HVV;have hz:z<=1073741824:=by have:=HBS.out.2.1;omega
   go_wp2_with fail
   refine (xR z w3 hz).mono ?_;rintro e w4 ⟨rfl,hb4⟩;have HT4:Hid (Tk w g (w.heap.size+1) (bs++(text.drop f).take (a-f)) w4/\w4.heap[wr.heap.size]?=some (.cells #[.int .i64 a,.int .i64 z] 175 (0,0))):=⟨HT3.out.1.below hb4,ab HT3.out.2 hb4⟩
   have HW:Hid (Da 114 #[.pointer (some ⟨w.heap.size+1,0,none⟩),.string (ja z)] w4 fun e w'=>e=.returned (.tuple #[.int .i64 z,.nilIface])/\Hid (Tk w g (w.heap.size+1) ((bs++(text.drop f).take (a-f))++List.replicate z 32) w')/\w'.cell? ⟨wr.heap.size,0,none⟩=some (.int .i64 a)):=by
    refine (HT4.out.1.wstr (ja z) (by rw [gO,List.length_append,List.length_take];have:=HBS.out.2.1;omega)).mono ?_;rintro e w' ⟨rfl,h1,h2⟩;exact ⟨by rw [gO],h1,aa (h2 _ _ _ _ HT4.out.2 (by decide) (by decide)) rfl⟩
   clear hb4 HT3 z1 HT4
   go_wp2_with fail
   refine HW.out.mono ?_;rintro e w5 ⟨rfl,HT5,u0⟩;clear HW
   go_wp2_with fail
   refine ⟨⟨k+1,hlt,by rw [HBS.out.2.2],by go_num,_,HT5.out,?_⟩,by simp [intOf];omega⟩;rw [HBS.out.2.2];have:=HBS.out.1;simp only [List.append_assoc] at this ⊢;exact this
  ·obtain rfl:k=gs.length:=by omega
   obtain ⟨bs,hTk,hbs⟩:=HI.out
   have hfl:lY gs gs.length<=text.length:=by
    have:=(HU.out.1.drop gs.length (Nat.le_refl _)).le
    split at this
    ·rename_i h0;rw [h0];exact Nat.zero_le _
    ·exact this
   rw [List.drop_length] at hbs;have q1:¬((gs.length:Int)<gs.length):=by omega
   obtain ⟨f,hf⟩:∃f,lY gs gs.length=f:=⟨_,rfl⟩;rw [hf] at hfl hbs ⊢;have HBS:Hid (bs++text.drop f=out):=hbs;have v1:wr.cell? ⟨w.heap.size,0,none⟩=some (.pointer (some ⟨g,0,none⟩)):=aa hTk.hb rfl;have v2:=(G3.out wr hTk.lo).1;have HTK:Hid (Tk w g (w.heap.size+1) bs wr):=hTk;clear hTk HI hbs hf
   have KEND:Hid (∀W,Tk w g (w.heap.size+1) out W->Da 116 #[.pointer (some ⟨w.heap.size+1,0,none⟩)] W fun e w'=>e=.returned (.string ⟨out.toArray⟩)/\Hid (Below w.heap.size w w'/\w'.heap[w.heap.size]?=some (.cells #[.pointer (some ⟨g,0,none⟩)] 111 (0,0)))):=by
    intro W hW;have hsz:=ap hW.hb;refine (zl (w.heap.size+1) (w.heap.size+1) out W (hW.builder (Nat.le_refl _)) (by omega)).mono ?_;rintro e w' ⟨rfl,hb⟩;exact ⟨rfl,hW.lo.trans (hb.mono (by omega)),(hb.block _ (by omega)).trans hW.hb⟩
   rcases HR2.out.2 with ⟨h,h0⟩|⟨tb,cap,cur,h,_⟩
   ·injection h with h1 h2 h3
    subst h1;subst h3;obtain rfl:f=0:=by omega
    have KW:Hid (Da 113 #[.pointer (some ⟨w.heap.size+1,0,none⟩),.slice none 0 0] wr fun e w'=>e=.returned (.tuple #[.int .i64 0,.nilIface])/\Hid (Tk w g (w.heap.size+1) out w')):=by
     refine HTK.out.write_none.mono ?_;rintro e w' ⟨rfl,h4,_⟩;have:bs++[]=out:=by rw [<-HBS.out,List.eq_nil_of_length_eq_zero h0];rfl
     rw [this] at h4;exact ⟨rfl,h4⟩
    rw [h0] at v2
    go_wp2_with fail
    refine KW.out.mono ?_;rintro e w5 ⟨rfl,HT5⟩;clear v1 v2 KW
    go_wp2_with fail
    refine (KEND.out w5 HT5.out).mono ?_;rintro e w6 ⟨rfl,H6⟩
    go_wp2_with fail
    refine leaves_cons (f:=110) (args:=#[.pointer (some ⟨w.heap.size,0,none⟩)]) (by simp) (by simp [go_sem]) ?_;refine (HFIN.out w6 H6.out.1 H6.out.2).mono ?_;rintro e u' w'' ⟨rfl,rfl,hA⟩;exact ⟨_,results_tmp rfl _ _ _,rfl,hA⟩
   ·injection h with h1 h2 h3
    subst h1;clear h2 h3;have i1:(f:Int)<=text.length:=by omega
    have i2:(text.length:Int)<=c1:=by omega
    have i3:f<=c1:=by omega
    have hl2:bs.length+(text.length-f)<=1073741824:=by
     have:(bs++text.drop f).length=out.length:=by rw [HBS.out]
     rw [List.length_append,List.length_drop] at this;omega
    by_cases hc:c1=f
    ·have KW:Hid (Da 113 #[.pointer (some ⟨w.heap.size+1,0,none⟩),.slice (some ⟨tb,0,none⟩) (text.length-f) 0] wr fun e w'=>e=.returned (.tuple #[.int .i64 (text.length-f:Nat),.nilIface])/\Hid (Tk w g (w.heap.size+1) out w')):=by
      obtain rfl:f=text.length:=by omega
      refine (HTK.out.write [] ⟨tb,0,none⟩ (text.length-text.length) 0 (by simp) (fun j u h=>by simp [bc] at h) (by omega)).mono ?_;rintro e w' ⟨rfl,h4,_⟩;have h5:=HBS.out;rw [List.drop_length] at h5;rw [h5] at h4;exact ⟨rfl,h4⟩
     go_wp2_with fail
     refine KW.out.mono ?_;rintro e w5 ⟨rfl,HT5⟩;clear v1 v2 KW
     go_wp2_with fail
     refine (KEND.out w5 HT5.out).mono ?_;rintro e w6 ⟨rfl,H6⟩
     go_wp2_with fail
     refine leaves_cons (f:=110) (args:=#[.pointer (some ⟨w.heap.size,0,none⟩)]) (by simp) (by simp [go_sem]) ?_;refine (HFIN.out w6 H6.out.1 H6.out.2).mono ?_;rintro e u' w'' ⟨rfl,rfl,hA⟩;exact ⟨_,results_tmp rfl _ _ _,rfl,hA⟩
    ·have KW:Hid (Da 113 #[.pointer (some ⟨w.heap.size+1,0,none⟩),.slice (some ⟨tb,f,none⟩) (text.length-f) (c1-f)] wr fun e w'=>e=.returned (.tuple #[.int .i64 (text.length-f:Nat),.nilIface])/\Hid (Tk w g (w.heap.size+1) out w')):=by
      have hsrc:=mL HR2.out rfl HTK.out.lo f (text.length-f);rw [List.take_of_length_le (by rw [List.length_drop];omega)] at hsrc;refine (HTK.out.write (text.drop f) ⟨tb,f,none⟩ (text.length-f) (c1-f) (by rw [List.length_drop]) hsrc (by omega)).mono ?_;rintro e w' ⟨rfl,h4,_⟩;rw [HBS.out] at h4;exact ⟨rfl,h4⟩
     go_wp2_with fail
     refine KW.out.mono ?_;rintro e w5 ⟨rfl,HT5⟩;clear v1 v2 KW
     go_wp2_with fail
     refine (KEND.out w5 HT5.out).mono ?_;rintro e w6 ⟨rfl,H6⟩
     go_wp2_with fail
     refine leaves_cons (f:=110) (args:=#[.pointer (some ⟨w.heap.size,0,none⟩)]) (by simp) (by simp [go_sem]) ?_;refine (HFIN.out w6 H6.out.1 H6.out.2).mono ?_;rintro e u' w'' ⟨rfl,rfl,hA⟩;exact ⟨_,results_tmp rfl _ _ _,rfl,hA⟩
def St6.blanks (s:St6) (n:Nat):St6:={ s with wait:=s.wait+n }
structure En (own:Nat->Nat) (w:World):Prop where
 nf:Nf own w
 tab:Tab w
 z:own 4=0
theorem Tab.pos (h:Tab w):4<w.heap.size:=World.block_lt_of_cell? w _ (h 0 (by omega)).1
theorem En.fr {own own':Nat->Nat}(h:En own w) (hi:i≠0) (hn:Nf own' w') (hf:Fr i own own' w w'):En own' w':=
 ⟨hn,hf.tab h.tab (by rw [h.z];exact fun e=>hi e.symm),(hf.old 4 h.tab.pos).trans h.z⟩
theorem En.below {own:Nat->Nat}(h:En own w) (hb:Below w.heap.size w w'):En own w':=⟨h.nf.below hb.size,h.tab.below hb,h.z⟩
def Ae (own:Nat->Nat) (i:Nat) (w w':World) (g:Nat) (s:St6):Prop:=∃own',En own' w'/\Fr i own own' w w'/\SK own' i w' g s
theorem Af.ae {own:Nat->Nat}{s:St6}(h:Af own i w w' g s) (hE:En own w) (hi:i≠0):Ae own i w w' g s:=by
 obtain ⟨own',h1,h2,h3⟩:=h;exact ⟨own',hE.fr hi h1 h2,h2,h3⟩
def st0:St6:=⟨true,0,0,[]⟩
theorem pe (own:Nat->Nat) (i:Nat) (w:World) (hE:En own w) (hi:i≠0):Da 59 #[] w fun e w'=>e=.returned (.pointer (some ⟨w.heap.size,0,none⟩))/\Ae own i w w' w.heap.size st0:=by
 refine (lP w).mono ?_;rintro e w' ⟨rfl,rfl⟩;have hb:Below w.heap.size w (w.alloc (.cells (sk false 0 0 (.slice none 0 0) (.slice none 0 0)) 167)):=(Below.refl _ _).alloc (Nat.le_refl _) _;have hs:(w.alloc (.cells (sk false 0 0 (.slice none 0 0) (.slice none 0 0)) 167)).heap.size=w.heap.size+1:=World.size_alloc _ _;have hf:Fr i own (fun k=>if k=w.heap.size then i else own k) w (w.alloc (.cells (sk false 0 0 (.slice none 0 0) (.slice none 0 0)) 167)):=⟨hb.os,hb.tape,hb.output,hb.size,fun k hk _=>hb.block k hk,fun k hk=>if_neg (by omega)⟩;refine ⟨rfl,_,hE.fr hi ?_ hf,hf,if_pos rfl,.slice none 0 0,.slice none 0 0,[],[],am _ _,⟨World.ownsRow_nil _ _ _ _,fun k h=>by cases h⟩,⟨World.ownsRow_nil _ _ _ _,fun k h=>by cases h⟩,Nat.zero_le _,rfl,Nat.le_refl _,fun x h=>by cases h⟩;intro k hk;rw [hs] at hk;show (if k=w.heap.size then i else own k)=0;rw [if_neg (by omega)];exact hE.nf k (by omega)
section
variable {own:Nat->Nat} {i:Nat} {g:Nat} {s:St6} {w:World}
theorem xp (h:SK own i w g s) (hE:En own w) (hi:i≠0) (t:ByteArray) (hb:s.out.length+s.col+s.wait+t.size<=1073741824) :
  Da 104 #[.pointer (some ⟨g,0,none⟩),.string t] w fun e w'=>e=.returned (.int .i64 0)/\Ae own i w w' g (s.text t):=
 (ub own i g s t w h hE.nf hE.tab hb).mono fun e w' ⟨h1,h2⟩=>⟨h1,h2.ae hE hi⟩
theorem yR (h:SK own i w g s) (hE:En own w) (hi:i≠0) (c:Nat) (hc:c<=1048576) (hb:s.out.length<=1073741824) :
  Da 161 #[.pointer (some ⟨g,0,none⟩),.int .i64 c] w fun e w'=>e=.returned (.int .i64 0)/\Ae own i w w' g (s.feed c):=
 (wb own i g s c w h hE.nf hc hb).mono fun e w' ⟨h1,h2⟩=>⟨h1,h2.ae hE hi⟩
theorem wh (h:SK own i w g s) (hE:En own w) (hi:i≠0) (hb:s.out.length<=1073741824) :
  Da 108 #[.pointer (some ⟨g,0,none⟩)] w fun e w'=>e=.returned (.int .i64 0)/\Ae own i w w' g s.empty:=
 (tm own i g s w h hE.nf hb).mono fun e w' ⟨h1,h2⟩=>⟨h1,h2.ae hE hi⟩
theorem xw (h:SK own i w g s) (hE:En own w) (hi:i≠0) (hb:s.out.length<=1073741824) :
  Da 61 #[.pointer (some ⟨g,0,none⟩)] w fun e w'=>e=.returned (.string ⟨s.out.toArray⟩)/\Ae own i w w' g s.take:=
 (bD own i g s w h hE.nf hb).mono fun e w' ⟨h1,h2⟩=>⟨h1,h2.ae hE hi⟩
theorem tL (h:SK own i w g s) (hE:En own w) (hi:i≠0) (n:Nat) (hn:n<=1048576) (hb:s.wait<=1073741824) :
  Da 160 #[.pointer (some ⟨g,0,none⟩),.int .i64 n] w fun e w'=>e=.returned (.int .i64 0)/\Ae own i w w' g (s.blanks n):=by
 obtain ⟨tv,gv,text,gs,h1,h2,h3,h4⟩:=h.ex;refine (pR g (!s.fresh) s.col s.wait n tv gv w h1 (by omega) (by omega) (by omega) (by omega)).mono ?_;rintro e w' ⟨rfl,rfl⟩;have hk:=Kp.set w g 2 (.int .i64 ((s.wait:Int)+n));have hf:Fr i own own w (w.setCell ⟨g,2,none⟩ (.int .i64 ((s.wait:Int)+n))):=hk.fr (fun k _ e=>by subst e;exact h.lab) (fun _ _=>rfl);have r1:=aA h2.1 h1 (by decide);have r2:=aA h3.1 h1 (by decide);refine ⟨rfl,own,hE.fr hi (hE.nf.below hk.size) hf,hf,h.lab,tv,gv,text,gs,?_,⟨hk.row h2.1 (fun k e1 e2=>r1 (by rw [e1,e2])),h2.2⟩,⟨hk.row h3.1 (fun k e1 e2=>r2 (by rw [e1,e2])),h3.2⟩,h4⟩;exact af h1 2 _
theorem tC (h:SK own i w g s) (h1:s.col<=1073741824) (h2:s.wait<=1073741824) :
  Da 163 #[.pointer (some ⟨g,0,none⟩)] w fun e w'=>e=.returned (.int .i64 ((s.col:Int)+s.wait))/\Below w.heap.size w w':=by
 obtain ⟨tv,gv,text,gs,a1,_⟩:=h.ex;exact pK g (!s.fresh) s.col s.wait tv gv w a1 (by omega) (by omega) (by omega) (by omega)
theorem nV (h:SK own i w g s) :
  Da 159 #[.pointer (some ⟨g,0,none⟩)] w fun e w'=>e=.returned (.bool s.fresh)/\w'=w:=by
 obtain ⟨tv,gv,text,gs,a1,_⟩:=h.ex;have:=sZ g (!s.fresh) s.col s.wait tv gv w a1
 simpa using this
end
end Go.Proofs.YtpdlohfdjiaegaaGreatDoor.Lw
namespace Go.Proofs.YtpdlohfdjiaegaaGreatDoor.Lw
open Go.Proofs.YtpdlohfdjiaegaaGreatDoor.Lx
def vS (t:ByteArray):Bool:=decide ((10:UInt8)∈t.data.toList)
def pw (d:Dc):Nat:=if d.k=1 then (if vS d.t then 4097 else (tw d.t).toNat) else if d.k=2 then 1 else if d.k=3 then d.b.toNat else if d.k=4\/d.k=5 then 4097 else 0
structure Sp where
 all:Nat
 hang:Nat
 deriving DecidableEq
def Sp.wid (s:Sp) (c:Nat):Sp:=⟨min (s.all+c) 4097,min (s.hang+c) 4097⟩
def dA (d:Dc) (s:Sp × List Sp):Nat × Sp × List Sp:=
 if d.k=7 then (0,⟨0,0⟩,s.1 :: s.2)
 else if d.k=6 then (s.1.all,(s.2.headD ⟨0,0⟩).wid s.1.all,s.2.tail)
 else if d.k=3 then ((s.1.wid (pw d)).hang,⟨(s.1.wid (pw d)).all,0⟩,s.2)
 else if d.k=4\/d.k=5 then (0,⟨(s.1.wid (pw d)).all,0⟩,s.2)
 else (0,s.1.wid (pw d),s.2)
def nds:List Dc->List Nat × Sp × List Sp
 |[]=>([],⟨0,0⟩,[])
 |d :: r=>((dA d (nds r).2).1 :: (nds r).1,(dA d (nds r).2).2)
theorem gE:∀l,(nds l).1.length=l.length
 |[]=>rfl
 |d :: r=>by simp [nds,gE r]
theorem jd (s:Sp) (c:Nat):(s.wid c).all<=4097/\(s.wid c).hang<=4097:=by simp only [Sp.wid];omega
def Sb (s:Sp):Prop:=s.all<=4097/\s.hang<=4097
theorem xr (d:Dc) (s:Sp × List Sp) (h:Sb s.1) (h2:∀x∈s.2,Sb x):(dA d s).1<=4097/\Sb (dA d s).2.1/\∀x∈(dA d s).2.2,Sb x:=by
 unfold dA
 repeat' split
 ·refine ⟨Nat.zero_le _,⟨Nat.zero_le _,Nat.zero_le _⟩,?_⟩;intro x hx
  rcases List.mem_cons.1 hx with rfl|hx
  ·exact h
  ·exact h2 x hx
 ·exact ⟨h.1,jd _ _,fun x hx=>h2 x (List.mem_of_mem_tail hx)⟩
 ·exact ⟨(jd _ _).2,⟨(jd _ _).1,Nat.zero_le _⟩,h2⟩
 ·exact ⟨Nat.zero_le _,⟨(jd _ _).1,Nat.zero_le _⟩,h2⟩
 ·exact ⟨Nat.zero_le _,jd _ _,h2⟩
theorem pf:∀l,(∀x∈(nds l).1,x<=4097)/\Sb (nds l).2.1/\∀x∈(nds l).2.2,Sb x
 |[]=>⟨by simp [nds],⟨Nat.zero_le _,Nat.zero_le _⟩,by simp [nds]⟩
 |d :: r=>by
  obtain ⟨h1,h2,h3⟩:=pf r;obtain ⟨k1,k2,k3⟩:=xr d (nds r).2 h2 h3;refine ⟨?_,k2,k3⟩;intro x hx
  rcases List.mem_cons.1 hx with rfl|hx
  ·exact k1
  ·exact h1 x hx
theorem nA:∀(l:List Dc) (o:Int) (j:Nat),0<=o->frm o j l=none->((nds l).2.2.length:Int)=o
 |[],o,j,ho,h=>by
  simp only [frm] at h
  split at h
  ·cases h
  ·show (0:Int)=o;omega
 |d :: r,o,j,ho,h=>by
  simp only [frm] at h
  split at h
  ·rename_i hc
   have ih:=nA r _ _ hc.2 h;show ((dA d (nds r).2).2.2.length:Int)=o;unfold dA;unfold dep at ih
   split
   ·rename_i h7
    rw [if_neg (by omega),if_pos h7] at ih;show (((nds r).2.2.length+1:Nat):Int)=o;omega
   ·rename_i h7
    split
    ·rename_i h6
     rw [if_pos h6] at ih;show ((nds r).2.2.tail.length:Int)=o;rw [List.length_tail];omega
    ·rename_i h6
     rw [if_neg h6,if_neg h7] at ih
     repeat' split
     all_goals (show ((nds r).2.2.length:Int)=o;omega)
  ·cases h
structure Bk where
 ind:Nat
 ev:Bool
 ft:Bool
structure Pr where
 sk:St6
 bl:Bk
 ar:List Bk
 en:Bool
def Pr.at (p:Pr):Nat:=p.sk.col+p.sk.wait
def Pr.fits (n need:Nat) (p:Pr):Bool:=decide (need+p.at<=n)
def Pr.hold (p:Pr) (m:Nat):Pr:=if p.sk.fresh then p else { p with sk:=p.sk.blanks m }
def Pr.endl (p:Pr):Pr:=if p.sk.fresh then p else { p with sk:=p.sk.feed p.bl.ind,en:=true }
def Pr.brk (n need:Nat) (p:Pr):Bool:=if p.bl.ev then !p.bl.ft else !p.fits n need
def put (n:Nat) (d:Dc) (need:Nat) (p:Pr):Pr:=
 if d.k=1 then { p with sk:=p.sk.text d.t,en:=false }
 else if d.k=2 then p.hold 1
 else if d.k=3 then (if p.brk n need then p.endl else p.hold d.b.toNat)
 else if d.k=4 then p.endl
 else if d.k=5 then (if p.en then { p with sk:=p.sk.empty,en:=false } else p)
 else if d.k=6 then { p with ar:=p.bl :: p.ar,bl:=⟨min (p.bl.ind+d.i.toNat) 1000,d.e,p.fits n need⟩ }
 else if d.k=7 then { p with bl:=p.ar.headD ⟨0,false,false⟩,ar:=p.ar.tail }
 else p
def puts (n:Nat):List Dc->List Nat->Pr->Pr
 |d :: r,m :: ms,p=>puts n r ms (put n d m p)
 |_,_,p=>p
def pr0:Pr:=⟨st0,⟨0,false,false⟩,[],false⟩
def eV (n:Nat) (l:List Dc):List UInt8:=(puts n l (nds l).1 pr0).sk.out
def fS (n:Int) (l:List Dc):ByteArray × Int:=if n<1\/4096<n then (⟨#[]⟩,1) else if frm 0 0 l≠none then (⟨#[]⟩,70) else (⟨(eV n.toNat l).toArray⟩,0)
def ud (d:Dc):Nat:=2*d.t.size+(if d.k=6\/d.k=7 then 0 else 1001)
def uds (l:List Dc):Nat:=(l.map ud).sum
structure Bp (p:Pr) (U:Nat):Prop where
 out:p.sk.out.length+p.sk.wait+(if p.sk.fresh then p.sk.col else 0)<=U
 col:p.sk.col+p.sk.wait<=U
 ind:p.bl.ind<=1000
 ar:∀b∈p.ar,b.ind<=1000
 wt:p.sk.fresh=true->p.sk.wait=0
theorem bp0:Bp pr0 0:=⟨by simp [pr0,st0],by simp [pr0,st0],by simp [pr0],by simp [pr0],fun _=>rfl⟩
theorem Bp.mono {p:Pr}{U V:Nat}(h:Bp p U) (hv:U<=V):Bp p V:=⟨Nat.le_trans h.out hv,Nat.le_trans h.col hv,h.ind,h.ar,h.wt⟩
theorem Bp.hold {p:Pr}{U:Nat}(h:Bp p U) (m:Nat):Bp (p.hold m) (U+m):=by
 unfold Pr.hold
 split
 ·exact h.mono (by omega)
 ·rename_i hf
  have h1:=h.out;have h2:=h.col;refine ⟨?_,?_,h.ind,h.ar,fun e=>absurd e hf⟩
  ·show p.sk.out.length+(p.sk.wait+m)+(if p.sk.fresh then p.sk.col else 0)<=_
   omega
  ·show p.sk.col+(p.sk.wait+m)<=_
   omega
theorem Bp.endl {p:Pr}{U:Nat}(h:Bp p U):Bp p.endl (U+1001):=by
 unfold Pr.endl
 split
 ·exact h.mono (by omega)
 ·rename_i hf
  have h1:=h.out;have h2:=h.col;have h3:=h.ind;refine ⟨?_,?_,h.ind,h.ar,fun _=>rfl⟩
  ·show (p.sk.out++[10]).length+0+p.bl.ind<=_
   rw [List.length_append];simp only [List.length_cons,List.length_nil];omega
  ·show p.bl.ind+0<=_
   omega
theorem AM {n need U:Nat}{d:Dc}{p:Pr}(hd:rt d=true) (h:Bp p U):Bp (put n d need p) (U+ud d):=by
 have h1:=h.out;have h2:=h.col;have h3:=h.ind;cases iA hd with
 |text t hq=>
  have hs:=(iO hq).1;refine ⟨?_,?_,h.ind,h.ar,?_⟩
  ·show (p.sk.text t).out.length+(p.sk.text t).wait+(if (p.sk.text t).fresh then (p.sk.text t).col else 0)<=U+ud ⟨1,t,0,0,false⟩
   unfold St6.text ud;rw [if_neg (by omega)];have e:t.data.toList.length=t.size:=by rw [Array.length_toList];rfl
   simp only [List.length_append,List.length_replicate,e];cases hf:p.sk.fresh
   ·rw [hf] at h1;simp at h1 ⊢;omega
   ·rw [hf] at h1;simp at h1 ⊢;omega
  ·show (p.sk.text t).col+(p.sk.text t).wait<=U+ud ⟨1,t,0,0,false⟩
   unfold St6.text ud;rw [if_neg (by omega)];have:=qM p.sk.col p.sk.wait t;show (iK p.sk.col p.sk.wait t).toNat+0<=_;simp;omega
  ·intro e
   exfalso
   have:(p.sk.text t).fresh=true:=e;unfold St6.text at this;rw [if_neg (by omega)] at this;cases this
 |brk m hq=>
  obtain ⟨q1,q2⟩:=lw hq;show Bp (if p.brk n need then p.endl else p.hold m.toNat) _
  split
  ·exact h.endl.mono (by simp [ud,bE])
  ·exact (h.hold _).mono (by simp [ud,bE];omega)
 |beg m e hq=>
  refine ⟨Nat.le_trans h1 (by omega),Nat.le_trans h2 (by omega),?_,?_,h.wt⟩
  ·show min (p.bl.ind+m.toNat) 1000<=1000
   omega
  ·intro b hb
   rcases List.mem_cons.1 hb with rfl|hb
   ·exact h3
   ·exact h.ar b hb
 |blank=>exact (h.hold 1).mono (by simp [ud,bE])
 |hard=>exact h.endl.mono (by simp [ud,bE])
 |empty=>
  show Bp (if p.en then { p with sk:=p.sk.empty,en:=false } else p) _
  split
  ·unfold St6.empty
   split
   ·rename_i hf
    rw [if_pos hf] at h1;refine ⟨?_,?_,h3,h.ar,fun _=>rfl⟩
    ·show (p.sk.out++[10]).length+0+p.sk.col<=_
     rw [List.length_append];simp [ud,bE];omega
    ·show p.sk.col+0<=_
     omega
   ·rename_i hf
    exact ⟨Nat.le_trans h1 (by omega),Nat.le_trans h2 (by omega),h3,h.ar,h.wt⟩
  ·exact h.mono (by omega)
 | «end»=>
  refine ⟨Nat.le_trans h1 (by omega),Nat.le_trans h2 (by omega),?_,fun b hb=>h.ar b (List.mem_of_mem_tail hb),h.wt⟩;show (p.ar.headD ⟨0,false,false⟩).ind<=1000;cases ha:p.ar with
  |nil=>simp
  |cons b r=>exact h.ar b (by rw [ha];exact List.mem_cons_self)
theorem lC {n:Nat}:∀(l:List Dc) (ms:List Nat) (p:Pr) (U:Nat),(∀d∈l,rt d=true)->Bp p U->Bp (puts n l ms p) (U+uds l)
 |[],ms,p,U,_,h=>by simpa [puts,uds] using h
 |d :: r,[],p,U,_,h=>h.mono (by omega)
 |d :: r,m :: ms,p,U,hr,h=>by
  have:=lC (n:=n) r ms _ _ (fun x hx=>hr x (List.mem_cons_of_mem _ hx)) (AM (n:=n) (need:=m) (hr d List.mem_cons_self) h);have e:U+uds (d :: r)=U+ud d+uds r:=by simp [uds];omega
  rw [e];exact this
theorem uP {n need:Nat}{d:Dc}{p:Pr}(hd:rt d=true) {o:Int}(h:(p.ar.length:Int)=o) (ho:0<=o+dep d.k):((put n d need p).ar.length:Int)=o+dep d.k:=by
 cases iA hd with
 |text t hq=>simpa [put,dep] using h
 |brk m hq=>
  have:((put n ⟨3,bE,m,0,false⟩ need p).ar)=p.ar:=by
   show (if p.brk n need then p.endl else p.hold m.toNat).ar=p.ar
   unfold Pr.endl Pr.hold
   repeat' split
   all_goals rfl
  rw [this];simpa [dep] using h
 |beg m e hq=>
  show (((p.bl :: p.ar).length:Nat):Int)=o+1
  simp;omega
 |blank=>
  have:(p.hold 1).ar=p.ar:=by unfold Pr.hold;split <;> rfl
  show ((p.hold 1).ar.length:Int)=o+0
  rw [this];omega
 |hard=>
  have:p.endl.ar=p.ar:=by unfold Pr.endl;split <;> rfl
  show (p.endl.ar.length:Int)=o+0
  rw [this];omega
 |empty=>
  have:(if p.en then { p with sk:=p.sk.empty,en:=false } else p).ar=p.ar:=by split <;> rfl
  show (((if p.en then { p with sk:=p.sk.empty,en:=false } else p).ar.length:Nat):Int)=o+0
  rw [this];omega
 | «end»=>
  show ((p.ar.tail.length:Nat):Int)=o+-1
  have:0<=o+-1:=ho;rw [List.length_tail];omega
end Go.Proofs.YtpdlohfdjiaegaaGreatDoor.Lw
