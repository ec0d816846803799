import Derived.Laws.AppendOwnNone
import Derived.Lib.RepeatB
import Derived.Test.YtpdlohfdjiaegaaGreatDoorR15
set_option linter.unusedVariables false
set_option linter.unusedSimpArgs false
set_option maxHeartbeats 1000000
namespace Go.Proofs.YtpdlohfdjiaegaaGreatDoor.Lw
open Go.Proofs.YtpdlohfdjiaegaaGreatDoor.Lx
open Go.RowKit
open Go.Lib (strCells strCells_length)
variable {b g:Nat}{bs:List UInt8}{w0 W w W':World}{v:Value}
theorem kA (b:Nat) (w:World) (h0:w.cell? ⟨b,0,none⟩=some (.pointer (some ⟨b,0,none⟩))):Aa 164 #[.pointer (some ⟨b,0,none⟩)] w fun e w'=>e=.returned (.tuple #[])/\w=w':=
 (yl b w h0).mono fun e w' h=>⟨h.1,h.2.symm⟩
structure Bd (b:Nat) (v:Value) (bs:List UInt8) (w:World):Prop where
 blk:w.heap[b]?=some (.cells #[.pointer (some ⟨b,0,none⟩),v] 172 (0,0))
 row:w.ownsRow 0 5 1 v bs.length (bc bs)
def Bw (b:Nat) (v:Value) (bs:List UInt8) (w w':World):Prop:=∃v',Bd b v' bs w'/\(v'.ownBlock=v.ownBlock\/v'.ownBlock=some w.heap.size)/\Kp (fun k=>k=b\/some k=v.ownBlock) w w'
theorem Bd.put {v2:Value}{l:List UInt8}{w2:World}(h:Bd b v bs w) (hg:w.grownBy w2 v.ownBlock) (ho:w2.ownsRow 0 5 1 v2 (bs.length+l.length) (bc bs++bc l)) (hat:v2.ownBlock=v.ownBlock\/v2.ownBlock=some w.heap.size):Bw b v (bs++l) w (w2.setCell ⟨b,1,none⟩ v2):=by
 have hk:=Kp.of_grown hg;have hne:=ay h.row h.blk (by decide);have hb2:=hk.blk h.blk (fun e=>hne e.symm);have hne2:=ay ho hb2 (by decide);refine ⟨v2,⟨af hb2 1 v2,?_⟩,hat,?_⟩
 ·rw [zq,t7];exact (Kp.set w2 b 1 v2).row ho (fun k e1 e2=>hne2 (by rw [e1,e2]))
 ·exact (Kp.step (S:=fun k=>k=b\/some k=v.ownBlock) (Kp.refl _ _) hk (fun _ _ h=>.inr h)).step (Kp.set w2 b 1 v2) (fun _ _ h=>.inl h)
theorem yf (b:Nat) (v:Value) (bs l:List UInt8) (ad:Addr) (m c:Nat) (w:World) (h:Bd b v bs w) (hl:l.length=m) (hsrc:∀j u,(bc l)[j]?=some u->w.cell? (ad.add j)=some u) (hn:bs.length+m<=70368744177664) :
  Aa 113 #[.pointer (some ⟨b,0,none⟩),.slice (some ad) m c] w fun e w'=>e=.returned (.tuple #[.int .i64 m,.nilIface])/\Bw b v (bs++l) w w':=by
 obtain ⟨i0,hi,hz0,hz1,hz2⟩:=Az Tryz.info5;have c0:w.cell? ⟨b,0,none⟩=some (.pointer (some ⟨b,0,none⟩)):=aa h.blk rfl;have c1:w.cell? ⟨b,1,none⟩=some v:=aa h.blk rfl;have hbl:=ah h.blk;obtain ⟨p,cap,rfl,_,_⟩:=av h.row;have HH:Hid (Bd b (.slice p bs.length cap) bs w):=h;clear h
 go_enter Tryz.func113,Tryz.ntmps113
 go_wp2_with (first|(go_at_call 164;refine (kA b w c0).mono ?_;rintro e w1 ⟨rfl,rfl⟩)|(at_builtin;refine AL (P:=Tryz.prog) (w:=w) rfl _ _ 164 rfl 0 5 i0 (.int .u8 0) 1 1 AS hi hz0 hz1 hz2 rfl (by decide) _ _ _ rfl HH.out.row ad m c (bc l) rfl ?c0 hsrc (ym l) ?c3 ?c4 ?c5 ?_))
 case c0=>rw [yn,hl,Nat.mul_one]
 case c3=>unfold maxLen;omega
 case c4=>omega
 case c5=>omega
 intro v2 w2 ho2 hg2 _ hat;have HE:Hid (Bw b (.slice p bs.length cap) (bs++l) w (w2.setCell ⟨b,1,none⟩ v2)):=HH.out.put hg2 (by rw [hl];exact ho2) hat;have hb2:=(Kp.of_grown hg2).blk HH.out.blk (fun e=>ay HH.out.row HH.out.blk (by decide) e.symm);have d0:w2.cell? ⟨b,0,none⟩=some (.pointer (some ⟨b,0,none⟩)):=aa hb2 rfl;have d1:w2.cell? ⟨b,1,none⟩=some (.slice p bs.length cap):=aa hb2 rfl;have f1:w2.frozen? ⟨b,1,none⟩=false:=aj hb2;obtain ⟨p2,cap2,rfl,_,_⟩:=av ho2;clear ho2 hg2 hat hb2
 go_wp2_with fail
 go_ret2
 exact ⟨rfl,HE.out⟩
theorem ma (b:Nat) (v:Value) (bs:List UInt8) (w:World) (h:Bd b v bs w) :
  Aa 113 #[.pointer (some ⟨b,0,none⟩),.slice none 0 0] w fun e w'=>e=.returned (.tuple #[.int .i64 0,.nilIface])/\Bw b v (bs++[]) w w':=by
 obtain ⟨i0,hi,hz0,hz1,hz2⟩:=Az Tryz.info5;have c0:w.cell? ⟨b,0,none⟩=some (.pointer (some ⟨b,0,none⟩)):=aa h.blk rfl;have c1:w.cell? ⟨b,1,none⟩=some v:=aa h.blk rfl;have hbl:=ah h.blk;have f1:w.frozen? ⟨b,1,none⟩=false:=aj h.blk;have HE:Hid (Bw b v (bs++[]) w (w.setCell ⟨b,1,none⟩ v)):=h.put ⟨rfl,rfl,rfl,eq _,fun _ _ _=>rfl⟩ (by simpa [bc] using h.row) (.inl rfl);obtain ⟨p,cap,rfl,_,_⟩:=av h.row;have HH:Hid (Bd b (.slice p bs.length cap) bs w):=h;clear h
 go_enter Tryz.func113,Tryz.ntmps113
 go_wp2_with (first|(go_at_call 164;refine (kA b w c0).mono ?_;rintro e w1 ⟨rfl,rfl⟩)|(at_builtin;refine wpList_append_own_none (P:=Tryz.prog) (w:=w) rfl _ _ 164 rfl 0 5 i0 1 AS hi _ _ _ rfl HH.out.row rfl ?_))
 go_ret2
 exact ⟨rfl,HE.out⟩
theorem yY (b:Nat) (v:Value) (bs:List UInt8) (t:ByteArray) (w:World) (h:Bd b v bs w) (hn:bs.length+t.size<=70368744177664) :
  Aa 114 #[.pointer (some ⟨b,0,none⟩),.string t] w fun e w'=>e=.returned (.tuple #[.int .i64 t.size,.nilIface])/\Bw b v (bs++t.data.toList) w w':=by
 obtain ⟨i0,hi,hz0,hz1,hz2⟩:=Az Tryz.info5;have c0:w.cell? ⟨b,0,none⟩=some (.pointer (some ⟨b,0,none⟩)):=aa h.blk rfl;have c1:w.cell? ⟨b,1,none⟩=some v:=aa h.blk rfl;have hbl:=ah h.blk;obtain ⟨p,cap,rfl,_,_⟩:=av h.row;have HH:Hid (Bd b (.slice p bs.length cap) bs w):=h;clear h
 go_enter Tryz.func114,Tryz.ntmps114
 go_wp2_with (first|(go_at_call 164;refine (kA b w c0).mono ?_;rintro e w1 ⟨rfl,rfl⟩)|(at_builtin;refine cf (P:=Tryz.prog) (w:=w) rfl _ _ 164 9 rfl 0 5 i0 AS Am hi hz0 hz1 hz2 _ _ _ rfl HH.out.row t rfl ?c3 ?c4 ?c5 ?_))
 case c3=>unfold maxLen;omega
 case c4=>omega
 case c5=>omega
 intro v2 w2 ho2 hg2 hat;have HE:Hid (Bw b (.slice p bs.length cap) (bs++t.data.toList) w (w2.setCell ⟨b,1,none⟩ v2)):=HH.out.put hg2 ho2 hat;have hb2:=(Kp.of_grown hg2).blk HH.out.blk (fun e=>ay HH.out.row HH.out.blk (by decide) e.symm);have d0:w2.cell? ⟨b,0,none⟩=some (.pointer (some ⟨b,0,none⟩)):=aa hb2 rfl;have d1:w2.cell? ⟨b,1,none⟩=some (.slice p bs.length cap):=aa hb2 rfl;have f1:w2.frozen? ⟨b,1,none⟩=false:=aj hb2;obtain ⟨p2,cap2,rfl,_,_⟩:=av ho2;clear ho2 hg2 hat hb2
 go_wp2_with fail
 go_ret2
 exact ⟨rfl,HE.out⟩
theorem tT (u:FrameMode) (b:Bool) (col wait:Int) (h g:Nat) (tv gv:Value) (w:World) (hg:w.heap[g]?=some (.cells (sk b col wait tv gv) 167 (0,0))) (hh:w.heap[h]?=some (.cells #[.pointer (some ⟨g,0,none⟩)] 111 (0,0))) (htv:∃p n cap,tv=.slice p n cap) (hgv:∃p n cap,gv=.slice p n cap) :
  CallsD Tryz.prog 110 #[.pointer (some ⟨h,0,none⟩)] u w fun e u' w'=>u'=u/\(e=.returned (.tuple #[])/\w'=(w.setCell ⟨g,3,none⟩ (.slice none 0 0)).setCell ⟨g,4,none⟩ (.slice none 0 0)):=by
 have g3:w.cell? ⟨g,3,none⟩=some tv:=aa hg rfl;have g4:w.cell? ⟨g,4,none⟩=some gv:=aa hg rfl;have f3:w.frozen? ⟨g,3,none⟩=false:=aj hg;have f4:w.frozen? ⟨g,4,none⟩=false:=aj hg;have h0:w.cell? ⟨h,0,none⟩=some (.pointer (some ⟨g,0,none⟩)):=aa hh rfl;obtain ⟨p1,n1,k1,rfl⟩:=htv;obtain ⟨p2,n2,k2,rfl⟩:=hgv
 go_enter_d Tryz.func110,Tryz.ntmps110
 go_wp2_with fail
 go_end0
 exact ⟨rfl,rfl⟩
theorem yt (g j:Nat):(⟨g,0,none⟩:Addr).add j=⟨g,j,none⟩:=by
 unfold Addr.add
 split <;> simp_all
theorem jB {gv:Value}{gs:List (Nat × Nat)}(h:w.ownsRow 0 175 2 gv gs.length (aN eg gs)) (k:Nat) (x:Nat × Nat) (hk:gs[k]?=some x):∃tb cap,gv=.slice (some ⟨tb,0,none⟩) gs.length cap/\gs.length<=cap/\w.cell? ⟨tb,k*2,none⟩=some (.int .i64 x.1)/\w.cell? ⟨tb,k*2+1,none⟩=some (.int .i64 x.2):=by
 have hkl:=(zv.1 hk).1
 rcases h.2 with ⟨_,h0⟩|⟨tb,cap,cur,rfl,_,_,hc,_⟩
 ·omega
 ·have hcs:=h.cells (g:=tb) rfl;refine ⟨tb,cap,rfl,hc,?_,?_⟩
  ·have:=hcs (k*2+0) (.int .i64 x.1) (aD eg 2 tj gs k 0 x _ hk rfl);rw [yt] at this;exact this
  ·have:=hcs (k*2+1) (.int .i64 x.2) (aD eg 2 tj gs k 1 x _ hk rfl);rw [yt] at this;exact this
theorem o6 (gs:List (Nat × Nat)) (k:Nat) (x:Nat × Nat) (hk:gs[k]?=some x):bI (gs.take (k+1))=bI (gs.take k)+x.2:=by
 induction gs generalizing k with
 |nil=>simp at hk
 |cons y r ih=>
  obtain ⟨a,n⟩:=y;cases k with
  |zero=>simp at hk;subst hk;simp [bI]
  |succ k=>simp only [CY,bI];rw [ih k (by simpa using hk)];omega
theorem nM (gs:List (Nat × Nat)) (k:Nat):bI (gs.take k)<=bI gs:=by
 induction gs generalizing k with
 |nil=>simp
 |cons y r ih=>
  obtain ⟨a,n⟩:=y;cases k with
  |zero=>simp [bI]
  |succ k=>simp only [CY,bI];have:=ih k;omega
theorem rk (g:Nat) (b:Bool) (col wait:Int) (tv gv:Value) (n:Nat) (xs:List Value) (gs:List (Nat × Nat)) (w:World) (hg:w.heap[g]?=some (.cells (sk b col wait tv gv) 167 (0,0))) (ht:w.ownsRow 0 5 1 tv n xs) (hr:w.ownsRow 0 175 2 gv gs.length (aN eg gs)) (hn:n<=1073741824) (hs:bI gs<=1073741824) (hl:gs.length<=1073741824) :
  Aa 112 #[.pointer (some ⟨g,0,none⟩)] w fun e w'=>e=.returned (.int .i64 (n+bI gs:Nat))/\Below w.heap.size w w':=by
 have g3:w.cell? ⟨g,3,none⟩=some tv:=aa hg rfl;have g4:w.cell? ⟨g,4,none⟩=some gv:=aa hg rfl;obtain ⟨p1,c1,rfl,_,_⟩:=av ht;obtain ⟨p2,c2,rfl,_,_⟩:=av hr;have HR:Hid (w.ownsRow 0 175 2 (.slice p2 gs.length c2) gs.length (aN eg gs)):=hr;clear ht hr hg
 go_enter Tryz.func112,Tryz.ntmps112
 go_wp2_with fail
 go_loopw [3,16] (fun m i wr=>∃k:Nat,k<=gs.length/\m=.int .i64 (n+bI (gs.take k):Nat)/\i=.int .i64 k/\Below w.heap.size w wr) (fun _ i _=>gs.length-(intOf i).toNat)
 case atStart=>exact ⟨0,by omega,by simp [bI],rfl,gt _ _⟩
 case round=>
  obtain ⟨k,hk,rfl,rfl,hb⟩:=hrel;have hsl:=nM gs k
  by_cases hlt:k<gs.length
  ·obtain ⟨x,hx⟩:∃x,gs[k]?=some x:=⟨gs[k],hH hlt⟩;obtain ⟨tb,cap,he,hc,x1,x2⟩:=jB HR.out k x hx;injection he with e1 e2 e3
   subst e1;have y1:=(hb.cell (p:=⟨tb,k*2,none⟩) (zy _ _ x1)).trans x1;have y2:=(hb.cell (p:=⟨tb,k*2+1,none⟩) (zy _ _ x2)).trans x2;have hst:=o6 gs k x hx;have hsl2:=nM gs (k+1);obtain ⟨a,z⟩:=x;simp only at y1 y2 hst;have q1:(k:Int)<gs.length:=by omega
   have HS:Hid (bI (gs.take (k+1))=bI (gs.take k)+z):=hst;have hz:bI (gs.take k)+z<=1073741824:=by omega
   clear x1 x2 hx hst hsl2 e3;obtain ⟨S,hS⟩:∃S,bI (gs.take k)=S:=⟨_,rfl⟩;rw [hS] at hsl hz HS ⊢;clear hS
   go_wp2_with fail
   exact ⟨⟨k+1,hlt,by rw [HS.out];go_num,by go_num,hb.alloc hb.size _⟩,by simp [intOf];omega⟩
  ·obtain rfl:k=gs.length:=by omega
   have HS:Hid (bI (gs.take gs.length)=bI gs):=by rw [Aw];rfl
   have q1:¬((gs.length:Int)<gs.length):=by omega
   obtain ⟨S,hS⟩:∃S,bI (gs.take gs.length)=S:=⟨_,rfl⟩;rw [hS] at hsl HS ⊢;clear hS;have HF:Hid ((n:Int)+(S:Int)=(n:Int)+(bI gs:Nat)):=by rw [HS.out];rfl
   clear HS
   go_wp2_with fail
   go_ret
   exact ⟨zO (fun z=>Ending.returned (.int .i64 z)) HF.out,hb⟩
theorem rH (n:Nat):Lib.repeatL [32] n=List.replicate n 32:=by
 induction n with
 |zero=>rfl
 |succ n ih=>show [32]++Lib.repeatL [32] n=_;rw [ih];rfl
def ic (n:Nat):ByteArray:=⟨(List.replicate n 32).toArray⟩
theorem fQ (n:Nat):(ic n).size=n:=by show (List.replicate n (32:UInt8)).toArray.size=n;simp
theorem uO (n:Nat) (w:World) (hn:n<=1073741824):Aa 115 #[.string ⟨#[32]⟩,.int .i64 n] w fun e w'=>e=.returned (.string (ic n))/\Below w.heap.size w w':=by
 refine (mK ⟨#[32]⟩ n w (by omega) (by show 1*n<=_;omega)).mono ?_;rintro e w' ⟨rfl,hb⟩;refine ⟨?_,hb⟩;show Ending.returned (.string ⟨(Lib.repeatL [32] n).toArray⟩)=_;rw [rH];rfl
structure Tk (w0:World) (g b:Nat) (bs:List UInt8) (W:World):Prop where
 lo:Below w0.heap.size w0 W
 hb:W.heap[w0.heap.size]?=some (.cells #[.pointer (some ⟨g,0,none⟩)] 111 (0,0))
 bd:∃v,Bd b v bs W/\∀k,v.ownBlock=some k->w0.heap.size<=k
 bl:w0.heap.size<=b
def Kt (W W':World):Prop:=∀(k:Nat) (cs:Array Value) (T:TypeId) (f:Nat × Nat),W.heap[k]?=some (.cells cs T f)->T≠172->T≠5->W'.heap[k]?=some (.cells cs T f)
theorem Tk.below (h:Tk w0 g b bs W) (hb:Below W.heap.size W W'):Tk w0 g b bs W':=by
 obtain ⟨v,⟨h1,h2⟩,h3⟩:=h.bd;exact ⟨h.lo.trans (hb.mono h.lo.size),ab h.hb hb,⟨v,⟨ab h1 hb,aE h2 hb⟩,h3⟩,h.bl⟩
theorem Tk.wrote {bs':List UInt8}(h:Tk w0 g b bs W) (hbd:Bd b v bs W) (hv:∀k,v.ownBlock=some k->w0.heap.size<=k) (hw:Bw b v bs' W W'):Tk w0 g b bs' W'/\Kt W W':=by
 obtain ⟨v',h1,h2,h3⟩:=hw
 have hne:∀{x:Array Value} {k:Nat} {T:TypeId} {f:Nat × Nat},W.heap[k]?=some (.cells x T f)->T≠172->T≠5->¬(k=b\/some k=v.ownBlock):=by
  intro x k T f hk t1 t2 hh
  rcases hh with hh|hh
  ·exact gm hk hbd.blk t1 hh
  ·exact ay hbd.row hk t2 hh.symm
 refine ⟨⟨?_,h3.blk h.hb (hne h.hb (by decide) (by decide)),⟨v',h1,?_⟩,h.bl⟩,fun k cs T f hk t1 t2=>h3.blk hk (hne hk t1 t2)⟩
 ·refine ⟨h3.os.trans h.lo.os,h3.tape.trans h.lo.tape,h3.output.trans h.lo.output,zr h.lo.size h3.size,fun k hk=>(h3.block k (zz hk h.lo.size) ?_).trans (h.lo.block k hk)⟩;rintro (e|e)
  ·have:=h.bl;omega
  ·have:=hv k e.symm;omega
 ·intro k hk
  rcases h2 with h2|h2
  ·exact hv k (by rw [<-h2];exact hk)
  ·rw [h2] at hk;injection hk with hk;subst hk;exact h.lo.size
theorem Tk.write (h:Tk w0 g b bs W) (l:List UInt8) (ad:Addr) (m c:Nat) (hl:l.length=m) (hsrc:∀j u,(bc l)[j]?=some u->W.cell? (ad.add j)=some u) (hn:bs.length+m<=70368744177664) :
  Aa 113 #[.pointer (some ⟨b,0,none⟩),.slice (some ad) m c] W fun e w'=>e=.returned (.tuple #[.int .i64 m,.nilIface])/\Tk w0 g b (bs++l) w'/\Kt W w':=by
 obtain ⟨v,h1,h2⟩:=h.bd;refine (yf b v bs l ad m c W h1 hl hsrc hn).mono ?_;rintro e w' ⟨rfl,hw⟩;exact ⟨rfl,h.wrote h1 h2 hw⟩
theorem Tk.write_none (h:Tk w0 g b bs W) :
  Aa 113 #[.pointer (some ⟨b,0,none⟩),.slice none 0 0] W fun e w'=>e=.returned (.tuple #[.int .i64 0,.nilIface])/\Tk w0 g b (bs++[]) w'/\Kt W w':=by
 obtain ⟨v,h1,h2⟩:=h.bd;refine (ma b v bs W h1).mono ?_;rintro e w' ⟨rfl,hw⟩;exact ⟨rfl,h.wrote h1 h2 hw⟩
theorem Tk.wstr (h:Tk w0 g b bs W) (t:ByteArray) (hn:bs.length+t.size<=70368744177664) :
  Aa 114 #[.pointer (some ⟨b,0,none⟩),.string t] W fun e w'=>e=.returned (.tuple #[.int .i64 t.size,.nilIface])/\Tk w0 g b (bs++t.data.toList) w'/\Kt W w':=by
 obtain ⟨v,h1,h2⟩:=h.bd;refine (yY b v bs t W h1 hn).mono ?_;rintro e w' ⟨rfl,hw⟩;exact ⟨rfl,h.wrote h1 h2 hw⟩
theorem kG {tv:Value}{text:List UInt8}{tb cap:Nat}(hr:w0.ownsRow 0 5 1 tv text.length (bc text)) (he:tv=.slice (some ⟨tb,0,none⟩) text.length cap) (hb:Below w0.heap.size w0 W) (f m:Nat):∀j u,(bc ((text.drop f).take m))[j]?=some u->W.cell? ((⟨tb,f,none⟩:Addr).add j)=some u:=by
 intro j u hj
 have h1:(bc text)[f+j]?=some u:=by
  have:(bc ((text.drop f).take m))[j]?=((bc text).drop f |>.take m)[j]?:=by rw [wz,wy]
  rw [this] at hj
  have hjm:j<m:=by
   have:=(zv.1 hj).1;rw [zH] at this;omega
  rw [Ag,zw hjm,Aj] at hj;exact hj
 have h2:=hr.cells (g:=tb) (by rw [he];rfl) (f+j) u h1;rw [yt] at h2;have h3:=(hb.cell (p:=⟨tb,f+j,none⟩) (zy _ _ h2)).trans h2
 have h4:(⟨tb,f,none⟩:Addr).add j=⟨tb,f+j,none⟩:=by
  unfold Addr.add
  split <;> simp_all
 rw [h4];exact h3
def St6.take (s:St6):St6:=⟨s.fresh,s.col,s.wait,[]⟩
def ki (gs:List (Nat × Nat)):Nat->Nat
 |0=>0
 |k+1=>(gs.getD k (0,0)).1
end Go.Proofs.YtpdlohfdjiaegaaGreatDoor.Lw
namespace Go.Proofs.YtpdlohfdjiaegaaGreatDoor
open Go.Proofs.YtpdlohfdjiaegaaGreatDoor.Lw
open Go.Proofs.YtpdlohfdjiaegaaGreatDoor.Lx
open Go.RowKit
open Go.Lib (strCells strCells_length)
theorem Ups.drop {gs:List (Nat × Nat)}{n:Nat}{f:Nat}(h:Ups f gs n):∀k,k<=gs.length->Ups (if k=0 then f else ki gs k) (gs.drop k) n:=by
 induction gs generalizing f with
 |nil=>
  intro k hk;obtain rfl:k=0:=by simpa using hk
  exact h
 |cons x r ih=>
  obtain ⟨a,m⟩:=x;intro k hk;cases k with
  |zero=>exact h
  |succ k=>
   have:=ih h.2 k (by simpa using hk);simp only [List.drop_succ_cons];cases k with
   |zero=>exact this
   |succ k=>exact this
end Go.Proofs.YtpdlohfdjiaegaaGreatDoor
namespace Go.Proofs.YtpdlohfdjiaegaaGreatDoor.Lw
open Go.Proofs.YtpdlohfdjiaegaaGreatDoor.Lx
open Go.RowKit
open Go.Lib (strCells strCells_length)
variable {n k a g:Nat}{w:World}
theorem mw {gs:List (Nat × Nat)}{f:Nat}{t:List UInt8}(h:gs[k]?=some (a,n)):bM f (gs.drop k) t=(t.drop f).take (a-f)++(List.replicate n 32++bM a (gs.drop (k+1)) t):=by
 obtain ⟨hl,he⟩:=zv.1 h;rw [Ad hl,he];rfl
theorem qi {gs:List (Nat × Nat)}(h:gs[k]?=some (a,n)):ki gs (k+1)=a:=by
 show (gs.getD k (0,0)).1=a
 rw [List.getD,h];rfl
theorem vP {gs:List (Nat × Nat)}{m:Nat}(hu:Ups 0 gs m) (h:gs[k]?=some (a,n)):ki gs k<=a:=by
 obtain ⟨hl,he⟩:=zv.1 h;have:=hu.drop k (by omega);rw [Ad hl,he] at this;have h1:=this.1;cases k with
 |zero=>exact zx _
 |succ k=>simpa using h1
theorem Tk.piece {w0:World}{g b:Nat}{bs:List UInt8}{W:World}(h:Tk w0 g b bs W) {text:List UInt8}{tb cap:Nat}(hr:w0.ownsRow 0 5 1 (.slice (some ⟨tb,0,none⟩) text.length cap) text.length (bc text)) (f m c q:Nat) (x y:Value) (hq:W.heap[q]?=some (.cells #[x,y] 175 (0,0))) (hm:f+m<=text.length) (hn:bs.length+m<=70368744177664) :
  Aa 113 #[.pointer (some ⟨b,0,none⟩),.slice (some ⟨tb,f,none⟩) m c] W fun e w'=>e=.returned (.tuple #[.int .i64 m,.nilIface])/\Hid (Tk w0 g b (bs++(text.drop f).take m) w'/\w'.heap[q]?=some (.cells #[x,y] 175 (0,0)))/\w'.cell? ⟨q,0,none⟩=some x/\w'.cell? ⟨q,1,none⟩=some y:=by
 refine (h.write ((text.drop f).take m) ⟨tb,f,none⟩ m c (by rw [zH,zN];omega) (kG hr rfl h.lo f m) hn).mono ?_;rintro e w' ⟨rfl,h1,h2⟩;have:=h2 q _ _ _ hq (by decide) (by decide);exact ⟨rfl,⟨h1,this⟩,aa this rfl,aa this rfl⟩
theorem Tk.builder {w0:World}{b:Nat}{bs:List UInt8}{W:World}(h:Tk w0 g b bs W) (hb:w0.heap.size+1<=b):Lib.IsBuilder 172 5 (w0.heap.size+1) b (Lib.byteCells bs) W:=by
 obtain ⟨v,h1,h2⟩:=h.bd;refine .inr ⟨hb,v,h1.blk,?_,ay h1.row h1.blk (by decide)⟩;have hne:=ay h1.row h.hb (by decide);have hr:=h1.row;refine ⟨by rw [Lib.byteCells_length];simp,?_⟩;rw [Lib.byteCells_length]
 rcases hr.2 with h3|⟨gg,cap,cur,rfl,_,h4⟩
 ·exact .inl h3
 ·have h5:=h2 gg rfl;refine .inr ⟨gg,cap,cur,rfl,?_,h4⟩
  rcases Nat.eq_or_lt_of_le h5 with h6|h6
  ·exfalso;apply hne;rw [h6];rfl
  ·exact h6
theorem yF {own:Nat->Nat}{i:Nat}{w W:World}{g:Nat}{s:St6}{tv gv:Value}(hg:W.heap[g]?=some (.cells (sk (!s.fresh) s.col s.wait tv gv) 167 (0,0))) (hlab:own g=i) (hn:Nf own w) (hb:Below w.heap.size w W) (hlt:g<w.heap.size):Af own i w ((W.setCell ⟨g,3,none⟩ (.slice none 0 0)).setCell ⟨g,4,none⟩ (.slice none 0 0)) g s.take:=by
 have hk:Kp (fun k=>k=g) w ((W.setCell ⟨g,3,none⟩ (.slice none 0 0)).setCell ⟨g,4,none⟩ (.slice none 0 0)):=((Kp.of_below hb).step (Kp.set W g 3 (.slice none 0 0)) (fun _ _ h=>h)).step (Kp.set _ g 4 (.slice none 0 0)) (fun _ _ h=>h);refine ⟨own,hn.below hk.size,hk.fr (fun k _ e=>by subst e;exact hlab) (fun _ _=>rfl),hlab,.slice none 0 0,.slice none 0 0,[],[],af (af hg 3 _) 4 _,⟨Ar _ _ _ _,fun k h=>by cases h⟩,⟨Ar _ _ _ _,fun k h=>by cases h⟩,zx _,rfl,eq _,fun x h=>by cases h⟩
theorem rE {B e sz:Nat}{v:Value}{xs:List Value}(h:w.ownsRow B e sz v n xs):w.ownsRow 0 e sz v n xs:=by
 refine ⟨h.1,?_⟩
 rcases h.2 with h1|⟨g,cap,cur,rfl,_,h3⟩
 ·exact .inl h1
 ·exact .inr ⟨g,cap,cur,rfl,zx _,h3⟩
theorem Tk.start {w1 w2:World}(hb1:Below ((w.alloc (.cells #[.pointer (some ⟨g,0,none⟩)] 111)).alloc (.cells #[.pointer none,.slice none 0 0] 172)).heap.size ((w.alloc (.cells #[.pointer (some ⟨g,0,none⟩)] 111)).alloc (.cells #[.pointer none,.slice none 0 0] 172)) w1)
  (hB:Lib.BuilderAt 172 5 (w.heap.size+1) (w.heap.size+1) (.pointer (some ⟨w.heap.size+1,0,none⟩)) [] w2) (hb2:Below (w.heap.size+1) w1 w2):Tk w g (w.heap.size+1) [] w2:=by
 have s1:(w.alloc (.cells #[.pointer (some ⟨g,0,none⟩)] 111)).heap.size=w.heap.size+1:=ge _ _;have hbW:Below w.heap.size w ((w.alloc (.cells #[.pointer (some ⟨g,0,none⟩)] 111)).alloc (.cells #[.pointer none,.slice none 0 0] 172)):=((gt _ w).alloc (eq _) _).alloc (by omega) _;have b1:((w.alloc (.cells #[.pointer (some ⟨g,0,none⟩)] 111)).alloc (.cells #[.pointer none,.slice none 0 0] 172)).heap[w.heap.size]?=some (.cells #[.pointer (some ⟨g,0,none⟩)] 111 (0,0)):=dW _ _ _ _ (ag _ _);obtain ⟨_,v,h1,h2,h3⟩:=hB;refine ⟨(hbW.trans (hb1.mono hbW.size)).trans (hb2.mono (by omega)),(hb2.block _ (by omega)).trans (ab b1 hb1),⟨v,⟨h1,rE h2⟩,fun k hk=>?_⟩,by omega⟩;have:=(h2.lt k hk).1;omega
theorem bq (own:Nat->Nat) (i g:Nat) (s:St6) (w:World) (h:SK own i w g s) (hn:Nf own w) (hb:s.out.length<=1073741824) :
  Aa 61 #[.pointer (some ⟨g,0,none⟩)] w fun e w'=>e=.returned (.string ⟨s.out.toArray⟩)/\Af own i w w' g s.take:=by
 have hlt:=h.len;have hlab:=h.lab;obtain ⟨tv,gv,text,gs,h1,h2,h3,h4,h5,h6,h7⟩:=h.ex;have hwl:=fX h4;rw [<-h5] at hwl;have hr2:=h2.1;have hr3:=h3.1;obtain ⟨p1,c1,e1,hc1,hm1⟩:=av hr2;obtain ⟨p2,c2,e2,hc2,hm2⟩:=av hr3;obtain ⟨fr,col,wait,out⟩:=s;simp only at *
 have HSZ:Hid (∀W,Below w.heap.size w W->Aa 112 #[.pointer (some ⟨g,0,none⟩)] W fun e w'=>e=.returned (.int .i64 (out.length:Nat))/\Below W.heap.size W w'):=by
  intro W hW;have:=rk g (!fr) col wait tv gv text.length (bc text) gs W ((hW.block g hlt).trans h1) (aE hr2 hW) (aE hr3 hW) (by omega) (by omega) (by omega);rw [show out.length=text.length+bI gs by omega];exact this
 have G3:Hid (∀W,Below w.heap.size w W->W.cell? ⟨g,3,none⟩=some tv/\W.cell? ⟨g,4,none⟩=some gv):=fun W hW=>⟨aa ((hW.block g hlt).trans h1) rfl,aa ((hW.block g hlt).trans h1) rfl⟩
 have hmf:=mkfn;subst e1 e2;have HR3:Hid (w.ownsRow 0 175 2 (.slice p2 gs.length c2) gs.length (aN eg gs)):=hr3;have HR2:Hid (w.ownsRow 0 5 1 (.slice p1 text.length c1) text.length (bc text)):=hr2;have HU:Hid (Ups 0 gs text.length/\out=bM 0 gs text/\∀x∈gs,x.1<text.length):=⟨h4,h5,h7⟩
 have HFIN:Hid (∀(W:World),Below w.heap.size w W->W.heap[w.heap.size]?=some (.cells #[.pointer (some ⟨g,0,none⟩)] 111 (0,0))->CallsD Tryz.prog 110 #[.pointer (some ⟨w.heap.size,0,none⟩)] .returning W fun e u' w'=>u'=.returning/\(e=.returned (.tuple #[])/\Af own i w w' g (St6.take ⟨fr,col,wait,out⟩))):=by
  intro W hW hh;have hgW:=(hW.block g hlt).trans h1;refine (tT .returning (!fr) col wait w.heap.size g _ _ W hgW hh ⟨_,_,_,rfl⟩ ⟨_,_,_,rfl⟩).mono ?_;rintro e u' w' ⟨rfl,rfl,rfl⟩;exact ⟨rfl,rfl,yF (s:=⟨fr,col,wait,out⟩) hgW hlab hn hW hlt⟩
 have hgl:gs.length<=1073741824:=by omega
 have HWL:Hid (out.length=text.length+bI gs/\gs.length<=bI gs):=⟨by omega,h6⟩;clear h h1 h2 h3 h4 h5 h6 h7 hr2 hr3 hwl hn hlab
 go_enter_defers Tryz.func61,Tryz.ntmps61
 go_wp2_with fail
 have s1:(w.alloc (.cells #[.pointer (some ⟨g,0,none⟩)] 111)).heap.size=w.heap.size+1:=ge _ _;have s2:((w.alloc (.cells #[.pointer (some ⟨g,0,none⟩)] 111)).alloc (.cells #[.pointer none,.slice none 0 0] 172)).heap.size=w.heap.size+1+1:=by rw [ge,s1]
 have hbW:Below w.heap.size w ((w.alloc (.cells #[.pointer (some ⟨g,0,none⟩)] 111)).alloc (.cells #[.pointer none,.slice none 0 0] 172)):=((gt _ w).alloc (eq _) _).alloc (by omega) _;have b2:((w.alloc (.cells #[.pointer (some ⟨g,0,none⟩)] 111)).alloc (.cells #[.pointer none,.slice none 0 0] 172)).heap[w.heap.size+1]?=some (.cells #[.pointer none,.slice none 0 0] 172 (0,0)):=by rw [<-s1];exact ag _ _
 refine (HSZ.out _ hbW).mono ?_;rintro e w1 ⟨rfl,hb1⟩;have HB1:Hid (∀w2,Lib.BuilderAt 172 5 (w.heap.size+1) (w.heap.size+1) (.pointer (some ⟨w.heap.size+1,0,none⟩)) [] w2->Below (w.heap.size+1) w1 w2->Tk w g (w.heap.size+1) [] w2):=fun w2 a b=>Tk.start hb1 a b
 have HG:Hid (Aa 111 #[.pointer (some ⟨w.heap.size+1,0,none⟩),.int .i64 out.length] w1 fun e w'=>e=.returned (.tuple #[])/\(Lib.BuilderAt 172 5 (w.heap.size+1) (w.heap.size+1) (.pointer (some ⟨w.heap.size+1,0,none⟩)) [] w'/\Below (w.heap.size+1) w1 w')):=
  za _ _ _ w1 (eq _) (ab b2 hb1) (by have:=hb1.size;omega) (by omega)
 clear s1 s2 hbW b2 hb1 HSZ
 go_wp2_with fail
 refine HG.out.mono ?_;rintro e w2 ⟨rfl,hB,hb2⟩;have HT:Hid (Tk w g (w.heap.size+1) [] w2):=HB1.out w2 hB hb2;clear HB1 HG hB hb2;have g4:=(G3.out w2 HT.out.lo).2;have g5:w2.cell? ⟨w.heap.size,0,none⟩=some (.pointer (some ⟨g,0,none⟩)):=aa HT.out.hb rfl
 go_wp2_with fail
 go_loopw [4,18] (fun f j wr=>∃k:Nat,k<=gs.length/\f=.int .i64 (ki gs k)/\j=.int .i64 k/\Hid (∃bs,Tk w g (w.heap.size+1) bs wr/\bs++bM (ki gs k) (gs.drop k) text=out)) (fun _ j _=>gs.length-(intOf j).toNat)
 case atStart=>exact ⟨0,by omega,rfl,rfl,[],HT.out,HU.out.2.1.symm⟩
 case round=>
  obtain ⟨k,hk,rfl,rfl,HI⟩:=hrel;clear HT g4 g5
  by_cases hlt:k<gs.length
  ·obtain ⟨⟨a,z⟩,hx⟩:∃x,gs[k]?=some x:=⟨gs[k],hH hlt⟩;obtain ⟨gb,gcap,he,hgc,x1,x2⟩:=jB HR3.out k (a,z) hx;injection he with e1 e2 e3
   subst e1;have hal:=HU.out.2.2 (a,z) (Ah hx);simp only at x1 x2 hal;have hfa:=vP HU.out.1 hx;have hfs:=qi hx
   obtain ⟨tb,rfl⟩:∃tb,p1=some ⟨tb,0,none⟩:=by
    rcases HR2.out.2 with ⟨h,h0⟩|⟨tb,cap,cur,h,_⟩
    ·omega
    ·injection h with h _ _;exact ⟨tb,h⟩
   obtain ⟨bs,hTk,hbs⟩:=HI.out;rw [mw hx] at hbs;have y1:=(hTk.lo.cell (p:=⟨gb,k*2,none⟩) (zy _ _ x1)).trans x1;have y2:=(hTk.lo.cell (p:=⟨gb,k*2+1,none⟩) (zy _ _ x2)).trans x2;have q1:(k:Int)<gs.length:=by omega
   obtain ⟨f,hf⟩:∃f,ki gs k=f:=⟨_,rfl⟩;rw [hf] at hfa hbs ⊢;obtain ⟨V,hV⟩:∃V,V=wr.alloc (.cells #[.int .i64 a,.int .i64 z] 175):=⟨_,rfl⟩;have hVq:V.heap[wr.heap.size]?=some (.cells #[.int .i64 a,.int .i64 z] 175 (0,0)):=by rw [hV];exact ag _ _
   have hTV:Tk w g (w.heap.size+1) bs V:=hTk.below (by rw [hV];exact (gt _ _).alloc (eq _) _)
   have hlen:out.length=bs.length+(a-f)+z+(bM a (gs.drop (k+1)) text).length:=by
    rw [<-hbs];simp only [zq,zH,zN,Bl];omega
   have HP:Hid (Aa 113 #[.pointer (some ⟨w.heap.size+1,0,none⟩),.slice (some ⟨tb,f,none⟩) (a-f) (c1-f)] V.drew fun e w'=>e=.returned (.tuple #[.int .i64 (a-f:Nat),.nilIface])/\Hid (Tk w g (w.heap.size+1) (bs++(text.drop f).take (a-f)) w'/\w'.heap[wr.heap.size]?=some (.cells #[.int .i64 a,.int .i64 z] 175 (0,0)))/\(w'.cell? ⟨w.heap.size,0,none⟩=some (.pointer (some ⟨g,0,none⟩))/\w'.cell? ⟨g,3,none⟩=some (.slice (some ⟨tb,0,none⟩) text.length c1)/\w'.cell? ⟨wr.heap.size,0,none⟩=some (.int .i64 a))/\w'.cell? ⟨wr.heap.size,1,none⟩=some (.int .i64 z)):=by
    refine (Tk.piece (W:=V.drew) (hTV.below (CX (gt _ _))) HR2.out f (a-f) (c1-f) wr.heap.size _ _ hVq (by omega) (by omega)).mono ?_;rintro e w' ⟨rfl,HK,k0,k1⟩;exact ⟨rfl,HK,⟨aa HK.out.1.hb rfl,(G3.out w' HK.out.1.lo).1,k0⟩,k1⟩
   have v1:V.cell? ⟨w.heap.size,0,none⟩=some (.pointer (some ⟨g,0,none⟩)):=aa hTV.hb rfl;have v2:=(G3.out V hTV.lo).1;have v3:V.cell? ⟨wr.heap.size,0,none⟩=some (.int .i64 a):=aa hVq rfl;have HBS:Hid (bs++(List.take (a-f) (List.drop f text)++(List.replicate z 32++bM a (List.drop (k+1) gs) text))=out/\out.length=bs.length+(a-f)+z+(bM a (gs.drop (k+1)) text).length/\ki gs (k+1)=a):=⟨hbs,hlen,hfs⟩;have HVV:Hid (V=wr.alloc (.cells #[.int .i64 a,.int .i64 z] 175)):=hV;clear hV hVq hTV hTk hbs hlen HI x1 x2 hx hf hfs e3
   go_wp2_with fail
   rw [<-HVV.out];have i1:(f:Int)<=a:=by omega
   have i2:(a:Int)<=c1:=by omega
   have i3:f<c1:=by omega
   have i4:a<=c1:=by omega
   have i5:¬(c1-f=0):=by omega
   have i6:(0:Int)<=f:=by omega
   have i7:¬(c1=f):=by omega
   go_region_held3 (fun w'=>w'.cell? ⟨w.heap.size,0,none⟩=some (.pointer (some ⟨g,0,none⟩))/\w'.cell? ⟨g,3,none⟩=some (.slice (some ⟨tb,0,none⟩) text.length c1)/\w'.cell? ⟨wr.heap.size,0,none⟩=some (.int .i64 a)) (first|assumption|(exact ⟨v1,v2,v3⟩)|go_keep) (first|(go_at_call 113;(try rw [zu i7]);refine HP.out.mono ?_;rintro e w3 ⟨rfl,HT3,z0,z1⟩))
   clear HP v1 v2 v3 z0 HVV;have hz:z<=1073741824:=by have:=HBS.out.2.1;omega
   go_wp2_with fail
   refine (uO z w3 hz).mono ?_;rintro e w4 ⟨rfl,hb4⟩;have HT4:Hid (Tk w g (w.heap.size+1) (bs++(text.drop f).take (a-f)) w4/\w4.heap[wr.heap.size]?=some (.cells #[.int .i64 a,.int .i64 z] 175 (0,0))):=⟨HT3.out.1.below hb4,ab HT3.out.2 hb4⟩
   have HW:Hid (Aa 114 #[.pointer (some ⟨w.heap.size+1,0,none⟩),.string (ic z)] w4 fun e w'=>e=.returned (.tuple #[.int .i64 z,.nilIface])/\Hid (Tk w g (w.heap.size+1) ((bs++(text.drop f).take (a-f))++List.replicate z 32) w')/\w'.cell? ⟨wr.heap.size,0,none⟩=some (.int .i64 a)):=by
    refine (HT4.out.1.wstr (ic z) (by rw [fQ,zq,zH];have:=HBS.out.2.1;omega)).mono ?_;rintro e w' ⟨rfl,h1,h2⟩;exact ⟨by rw [fQ],h1,aa (h2 _ _ _ _ HT4.out.2 (by decide) (by decide)) rfl⟩
   clear hb4 HT3 z1 HT4
   go_wp2_with fail
   refine HW.out.mono ?_;rintro e w5 ⟨rfl,HT5,u0⟩;clear HW
   go_wp2_with fail
   refine ⟨⟨k+1,hlt,by rw [HBS.out.2.2],by go_num,_,HT5.out,?_⟩,by simp [intOf];omega⟩;rw [HBS.out.2.2];have:=HBS.out.1;simp only [zJ] at this ⊢;exact this
  ·obtain rfl:k=gs.length:=by omega
   obtain ⟨bs,hTk,hbs⟩:=HI.out
   have hfl:ki gs gs.length<=text.length:=by
    have:=(HU.out.1.drop gs.length (eq _)).le
    split at this
    ·rename_i h0;rw [h0];exact zx _
    ·exact this
   rw [A5] at hbs;have q1:¬((gs.length:Int)<gs.length):=by omega
   obtain ⟨f,hf⟩:∃f,ki gs gs.length=f:=⟨_,rfl⟩;rw [hf] at hfl hbs ⊢;have HBS:Hid (bs++text.drop f=out):=hbs;have v1:wr.cell? ⟨w.heap.size,0,none⟩=some (.pointer (some ⟨g,0,none⟩)):=aa hTk.hb rfl;have v2:=(G3.out wr hTk.lo).1;have HTK:Hid (Tk w g (w.heap.size+1) bs wr):=hTk;clear hTk HI hbs hf
   have KEND:Hid (∀W,Tk w g (w.heap.size+1) out W->Aa 116 #[.pointer (some ⟨w.heap.size+1,0,none⟩)] W fun e w'=>e=.returned (.string ⟨out.toArray⟩)/\Hid (Below w.heap.size w w'/\w'.heap[w.heap.size]?=some (.cells #[.pointer (some ⟨g,0,none⟩)] 111 (0,0)))):=by
    intro W hW;have hsz:=ah hW.hb;refine (wo (w.heap.size+1) (w.heap.size+1) out W (hW.builder (eq _)) (by omega)).mono ?_;rintro e w' ⟨rfl,hb⟩;exact ⟨rfl,hW.lo.trans (hb.mono (by omega)),(hb.block _ (by omega)).trans hW.hb⟩
   rcases HR2.out.2 with ⟨h,h0⟩|⟨tb,cap,cur,h,_⟩
   ·injection h with h1 h2 h3
    subst h1;subst h3;obtain rfl:f=0:=by omega
    have KW:Hid (Aa 113 #[.pointer (some ⟨w.heap.size+1,0,none⟩),.slice none 0 0] wr fun e w'=>e=.returned (.tuple #[.int .i64 0,.nilIface])/\Hid (Tk w g (w.heap.size+1) out w')):=by
     refine HTK.out.write_none.mono ?_;rintro e w' ⟨rfl,h4,_⟩;have:bs++[]=out:=by rw [<-HBS.out,zI h0];rfl
     rw [this] at h4;exact ⟨rfl,h4⟩
    rw [h0] at v2
    go_wp2_with fail
    refine KW.out.mono ?_;rintro e w5 ⟨rfl,HT5⟩;clear v1 v2 KW
    go_wp2_with fail
    refine (KEND.out w5 HT5.out).mono ?_;rintro e w6 ⟨rfl,H6⟩
    go_wp2_with fail
    refine BV (f:=110) (args:=#[.pointer (some ⟨w.heap.size,0,none⟩)]) (by simp) (by simp [go_sem]) ?_;refine (HFIN.out w6 H6.out.1 H6.out.2).mono ?_;rintro e u' w'' ⟨rfl,rfl,hA⟩;exact ⟨_,C5 rfl _ _ _,rfl,hA⟩
   ·injection h with h1 h2 h3
    subst h1;clear h2 h3;have i1:(f:Int)<=text.length:=by omega
    have i2:(text.length:Int)<=c1:=by omega
    have i3:f<=c1:=by omega
    have hl2:bs.length+(text.length-f)<=1073741824:=by
     have:(bs++text.drop f).length=out.length:=by rw [HBS.out]
     rw [zq,zN] at this;omega
    by_cases hc:c1=f
    ·have KW:Hid (Aa 113 #[.pointer (some ⟨w.heap.size+1,0,none⟩),.slice (some ⟨tb,0,none⟩) (text.length-f) 0] wr fun e w'=>e=.returned (.tuple #[.int .i64 (text.length-f:Nat),.nilIface])/\Hid (Tk w g (w.heap.size+1) out w')):=by
      obtain rfl:f=text.length:=by omega
      refine (HTK.out.write [] ⟨tb,0,none⟩ (text.length-text.length) 0 (by simp) (fun j u h=>by simp [bc] at h) (by omega)).mono ?_;rintro e w' ⟨rfl,h4,_⟩;have h5:=HBS.out;rw [A5] at h5;rw [h5] at h4;exact ⟨rfl,h4⟩
     go_wp2_with fail
     refine KW.out.mono ?_;rintro e w5 ⟨rfl,HT5⟩;clear v1 v2 KW
     go_wp2_with fail
     refine (KEND.out w5 HT5.out).mono ?_;rintro e w6 ⟨rfl,H6⟩
     go_wp2_with fail
     refine BV (f:=110) (args:=#[.pointer (some ⟨w.heap.size,0,none⟩)]) (by simp) (by simp [go_sem]) ?_;refine (HFIN.out w6 H6.out.1 H6.out.2).mono ?_;rintro e u' w'' ⟨rfl,rfl,hA⟩;exact ⟨_,C5 rfl _ _ _,rfl,hA⟩
    ·have KW:Hid (Aa 113 #[.pointer (some ⟨w.heap.size+1,0,none⟩),.slice (some ⟨tb,f,none⟩) (text.length-f) (c1-f)] wr fun e w'=>e=.returned (.tuple #[.int .i64 (text.length-f:Nat),.nilIface])/\Hid (Tk w g (w.heap.size+1) out w')):=by
      have hsrc:=kG HR2.out rfl HTK.out.lo f (text.length-f);rw [Ak (by rw [zN];omega)] at hsrc;refine (HTK.out.write (text.drop f) ⟨tb,f,none⟩ (text.length-f) (c1-f) (by rw [zN]) hsrc (by omega)).mono ?_;rintro e w' ⟨rfl,h4,_⟩;rw [HBS.out] at h4;exact ⟨rfl,h4⟩
     go_wp2_with fail
     refine KW.out.mono ?_;rintro e w5 ⟨rfl,HT5⟩;clear v1 v2 KW
     go_wp2_with fail
     refine (KEND.out w5 HT5.out).mono ?_;rintro e w6 ⟨rfl,H6⟩
     go_wp2_with fail
     refine BV (f:=110) (args:=#[.pointer (some ⟨w.heap.size,0,none⟩)]) (by simp) (by simp [go_sem]) ?_;refine (HFIN.out w6 H6.out.1 H6.out.2).mono ?_;rintro e u' w'' ⟨rfl,rfl,hA⟩;exact ⟨_,C5 rfl _ _ _,rfl,hA⟩
def St6.blanks (s:St6) (n:Nat):St6:={ s with wait:=s.wait+n }
end Go.Proofs.YtpdlohfdjiaegaaGreatDoor.Lw
