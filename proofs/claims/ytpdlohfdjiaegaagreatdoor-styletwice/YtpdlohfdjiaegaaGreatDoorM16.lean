import Derived.Laws.AppendOwnNone
import Derived.Lib.RepeatB
import Derived.Test.YtpdlohfdjiaegaaGreatDoorM15
set_option linter.unusedVariables false
set_option linter.unusedSimpArgs false
set_option maxHeartbeats 1000000
namespace Go.Proofs.YtpdlohfdjiaegaaGreatDoor.Lw
open Go.Proofs.YtpdlohfdjiaegaaGreatDoor.Lx
open Go.RowKit
open Go.Lib (strCells strCells_length)
variable {w0 W w W':World}{g b i c d h:Nat}{bs:List UInt8}{tv gv:Value}
def St6.feed (s:St6) (c:Nat):St6:=⟨true,c,0,s.out++[10]⟩
theorem vV {own:Nat->Nat}{b:Bool}{col wait:Int}{tv0 gv0:Value}{text:List UInt8}{gs:List (Nat × Nat)}(H:Ga own i w0 g c d h (sk b col wait tv0 gv0) w text gs) (htv0:∃p n cap,tv0=.slice p n cap) (hgv0:∃p n cap,gv0=.slice p n cap) (hn:Nf own w0) (hlab:own g=i) (hg0:g<w0.heap.size)
  (u:FrameMode) (s:St6) (hu:Ups 0 gs text.length) (ho:s.out=bW 0 gs text) (hgs:gs.length<=bT gs/\∀x∈gs,x.1<text.length) :
  CallsD Tryz.prog 199 #[.agg #[.bool (!s.fresh),.int .i64 s.col,.int .i64 s.wait],.pointer (some ⟨c,0,none⟩),.pointer (some ⟨d,0,none⟩),.pointer (some ⟨h,0,none⟩)] u w fun e u' w'=>u'=u/\(e=.returned (.tuple #[])/\Af own i w0 w' g s):=by
 obtain ⟨tv,h1,h2,h3⟩:=H.hc;obtain ⟨gv,k1,k2,k3⟩:=H.hd;obtain ⟨p1,c1,e1,_,_⟩:=av h2;obtain ⟨p2,c2,e2,_,_⟩:=av k2;refine (Bh u b (!s.fresh) col wait s.col s.wait c d h g tv0 gv0 tv gv w H.hg h1 k1 H.hh htv0 hgv0 ⟨_,_,_,e1⟩ ⟨_,_,_,e2⟩).mono ?_;rintro e u' w' ⟨rfl,rfl,a1,a2⟩;exact ⟨rfl,rfl,H.fin hn hlab hg0 tv gv h2 h3 k2 k3 s a1 a2 hu ho hgs⟩
theorem nR {own:Nat->Nat}{w':World}{sv:Array Value}{text:List UInt8}{gs:List (Nat × Nat)}(hg:w.heap[g]?=some (.cells sv 167 (0,0))) (h1:w.ownsRow 0 5 1 tv text.length (bc text)/\∀k,tv.ownBlock=some k->own k=i) (h2:w.ownsRow 0 175 2 gv gs.length (aW eg gs)/\∀k,gv.ownBlock=some k->own k=i)
  (hB:(w'.heap[c]?=some (.cells #[tv] 164 (0,0))/\w'.heap[d]?=some (.cells #[gv] 165 (0,0))/\w'.heap[h]?=some (.cells #[.pointer (some ⟨g,0,none⟩)] 111 (0,0))/\w.heap.size<=c/\w.heap.size<=d/\w.heap.size<=h)/\Below w.heap.size w w'):Ga own i w g c d h sv w' text gs:=by
 obtain ⟨⟨b1,b2,b3,b4,b5,_⟩,hb⟩:=hB;exact ⟨ab hg hb,⟨tv,b1,aO h1.1 hb,fun k hk=>.inl (h1.2 k hk)⟩,⟨gv,b2,aO h2.1 hb,fun k hk=>.inl (h2.2 k hk)⟩,b3,Kp.of_below hb,b4,b5⟩
theorem gC (own:Nat->Nat) (i g:Nat) (s:St6) (c:Nat) (w:World) (h:SK own i w g s) (hn:Nf own w) (hb:s.out.length<=1073741824) :
  Da 162 #[.pointer (some ⟨g,0,none⟩),.int .i64 c] w fun e w'=>e=.returned (.tuple #[])/\Af own i w w' g (s.feed c):=by
 have hlt:=h.len;have hlab:=h.lab;obtain ⟨tv,gv,text,gs,h1,h2,h3,h4,h5,h6⟩:=h.ex;obtain ⟨p1,c1,e1,_,_⟩:=av h2.1;obtain ⟨p2,c2,e2,_,_⟩:=av h3.1;have hwl:=gX h4;rw [<-h5] at hwl;have h61:=h6.1;have HG:=jP g (!s.fresh) s.col s.wait tv gv w h1 ⟨_,_,_,e1⟩ ⟨_,_,_,e2⟩;have HS:Hid (∀(w':World) (c d h:Nat),((w'.heap[c]?=some (.cells #[tv] 164 (0,0))/\w'.heap[d]?=some (.cells #[gv] 165 (0,0))/\w'.heap[h]?=some (.cells #[.pointer (some ⟨g,0,none⟩)] 111 (0,0))/\w.heap.size<=c/\w.heap.size<=d/\w.heap.size<=h)/\Db w w')->Ga own i w g c d h (sk (!s.fresh) s.col s.wait tv gv) w' text gs):=fun w' c d h hB=>nR h1 h2 h3 hB
 have HE:Hid (∀(w':World) (cb d h:Nat) (u:FrameMode),Ga own i w g cb d h (sk (!s.fresh) s.col s.wait tv gv) w' (text++[10]) gs->CallsD Tryz.prog 199 #[.agg #[.bool false,.int .i64 c,.int .i64 0],.pointer (some ⟨cb,0,none⟩),.pointer (some ⟨d,0,none⟩),.pointer (some ⟨h,0,none⟩)] u w' fun e u' w'=>u'=u/\(e=.returned (.tuple #[])/\Af own i w w' g (s.feed c))):=fun w' cb d h u H=>
  vV H ⟨_,_,_,e1⟩ ⟨_,_,_,e2⟩ hn hlab hlt u (s.feed c) (h4.more (by simp)) (by show s.out++[10]=_;rw [h5,kj [10] h4]) ⟨h6.1,fun x hx=>by have:=h6.2 x hx;simp;omega⟩
 have HGH:Hid (Da 157 #[.pointer (some ⟨g,0,none⟩)] w fun e w'=>∃c d h,e=.returned (.tuple #[.func (.func 197) #[] #[.pointer (some ⟨d,0,none⟩),.pointer (some ⟨c,0,none⟩)],.func (.func 198) #[] #[.pointer (some ⟨c,0,none⟩)],.func (.func 199) #[] #[.pointer (some ⟨c,0,none⟩),.pointer (some ⟨d,0,none⟩),.pointer (some ⟨h,0,none⟩)]])/\Ga own i w g c d h (sk (!s.fresh) s.col s.wait tv gv) w' text gs):=by
  refine HG.mono ?_;rintro e w' ⟨c,d,h,rfl,hB⟩;exact ⟨c,d,h,rfl,HS.out _ _ _ _ hB⟩
 have HL:Hid (text.length+1<=70368744177664):=by show _<=_;omega
 clear HG HS hn hlab hlt h h1 h2 h3 h4 h5 h6 h61 hwl e1 e2 hb
 go_enter_defers Tryz.func162,Tryz.ntmps162
 go_wp2_with (go_at_call 157;refine HGH.out.mono ?_;rintro e w1 ⟨cb,d,h,rfl,H⟩)
 have HH:Hid (Ga own i w g cb d h (sk (!s.fresh) s.col s.wait tv gv) w1 text gs):=H;clear H;refine (HH.out.text ⟨#[10]⟩ HL.out).mono ?_;rintro e w2 ⟨rfl,H2⟩;have HD:Hid (Ga own i w g cb d h (sk (!s.fresh) s.col s.wait tv gv) w2 (text++[10]) gs):=H2;clear HH H2
 go_wp2_with fail
 refine leaves_cons (f:=199) (args:=#[.agg #[.bool false,.int .i64 c,.int .i64 0],.pointer (some ⟨cb,0,none⟩),.pointer (some ⟨d,0,none⟩),.pointer (some ⟨h,0,none⟩)]) (by simp) (by simp [go_sem]) ?_;refine (HE.out _ _ _ _ .returning HD.out).mono ?_;rintro e u' w'' ⟨rfl,rfl,hA⟩;exact ⟨_,results_none rfl _ _ _,rfl,hA⟩
def St6.text (s:St6) (t:ByteArray):St6:=if t.size=0 then s else ⟨false,(iK s.col s.wait t).toNat,0,s.out++((if s.fresh then List.replicate s.col 32 else [])++(List.replicate s.wait 32++t.data.toList))⟩
theorem yq {t:ByteArray}(h:t.size≠0):t.toList.isEmpty=false:=by
 rw [ByteArray.toList_eq];cases hd:t.data.toList with
 |nil=>exfalso;apply h;show t.data.size=0;rw [<-Array.length_toList,hd];rfl
 |cons a r=>rfl
theorem qM (col wait:Nat) (t:ByteArray):0<=iK col wait t/\iK col wait t<=col+wait+2*t.size:=by
 have h1:=kl t;have h2:=kl (aft t);have h3:=oy t;unfold iK
 split <;> omega
theorem rJ (g:Nat) (t:ByteArray) (w:World) (ht:t.size=0):Da 104 #[.pointer (some ⟨g,0,none⟩),.string t] w fun e w'=>e=.returned (.int .i64 0)/\w'=w:=by
 obtain rfl:t=⟨#[]⟩:=by
  have:t=ByteArray.empty:=ByteArray.size_eq_zero_iff.1 ht;exact this
 go_enter_defers Tryz.func104,Tryz.ntmps104
 go_wp2_with fail
 exact ⟨_,results_tmp rfl _ _ _,rfl,rfl⟩
theorem rI (own:Nat->Nat) (i g:Nat) (s:St6) (t:ByteArray) (w:World) (h:SK own i w g s) (hn:Nf own w) (hT:Tab w) (ht:t.size≠0) (hb:s.out.length+s.col+s.wait+t.size<=1073741824) :
  Da 104 #[.pointer (some ⟨g,0,none⟩),.string t] w fun e w'=>e=.returned (.int .i64 0)/\Af own i w w' g (s.text t):=by
 have hlt:=h.len;have hlab:=h.lab;obtain ⟨tv,gv,text,gs,h1,h2,h3,h4,h5,h6⟩:=h.ex;obtain ⟨p1,c1,e1,_,_⟩:=av h2.1;obtain ⟨p2,c2,e2,_,_⟩:=av h3.1;have hwl:=gX h4;rw [<-h5] at hwl;obtain ⟨fr,col,wait,out⟩:=s;simp only at *
 have HGH:Hid (Da 157 #[.pointer (some ⟨g,0,none⟩)] w fun e w'=>∃c d h,e=.returned (.tuple #[.func (.func 197) #[] #[.pointer (some ⟨d,0,none⟩),.pointer (some ⟨c,0,none⟩)],.func (.func 198) #[] #[.pointer (some ⟨c,0,none⟩)],.func (.func 199) #[] #[.pointer (some ⟨c,0,none⟩),.pointer (some ⟨d,0,none⟩),.pointer (some ⟨h,0,none⟩)]])/\Hid (Ga own i w g c d h (sk (!fr) col wait tv gv) w' text gs/\Tab w')/\w'.cell? ⟨g,0,none⟩=some (.bool (!fr))/\w'.cell? ⟨g,1,none⟩=some (.int .i64 col)/\w'.cell? ⟨g,2,none⟩=some (.int .i64 wait)):=by
  refine (jP g (!fr) col wait tv gv w h1 ⟨_,_,_,e1⟩ ⟨_,_,_,e2⟩).mono ?_;rintro e w' ⟨c,d,h,rfl,hB⟩;have hG:Ga own i w g c d h (sk (!fr) col wait tv gv) w' text gs:=nR h1 h2 h3 hB;exact ⟨c,d,h,rfl,⟨hG,hT.below hB.2⟩,aa hG.hg rfl,aa hG.hg rfl,aa hG.hg rfl⟩
 have hnb:=qM col wait t;obtain ⟨nc,hnc⟩:∃nc:Nat,iK col wait t=nc:=⟨(iK col wait t).toNat,by omega⟩
 have HBH:Hid (∀V,Tab V->Da 158 #[.agg #[.bool (!fr),.int .i64 col,.int .i64 wait],.string t] V fun e w'=>e=.returned (.agg #[.bool true,.int .i64 nc,.int .i64 0])/\Db V w'):=by
  intro V hV;have:=eQ (!fr) col wait t V hV (by omega) (by omega) (by omega) (by omega) (by omega);rw [hnc] at this;exact this
 have HE:Hid (∀(w':World) (cb d h:Nat) (u:FrameMode),Ga own i w g cb d h (sk (!fr) col wait tv gv) w' (text++t.data.toList) (cR (cR gs text.length (if fr then col else 0)) text.length wait)->CallsD Tryz.prog 199 #[.agg #[.bool true,.int .i64 nc,.int .i64 0],.pointer (some ⟨cb,0,none⟩),.pointer (some ⟨d,0,none⟩),.pointer (some ⟨h,0,none⟩)] u w' fun e u' w'=>u'=u/\(e=.returned (.tuple #[])/\Af own i w w' g (St6.text ⟨fr,col,wait,out⟩ t))):=by
  intro w' cb d h u H
  have hst:St6.text ⟨fr,col,wait,out⟩ t=⟨false,nc,0,out++((if fr then List.replicate col 32 else [])++(List.replicate wait 32++t.data.toList))⟩:=by
   unfold St6.text;rw [if_neg ht];simp only [hnc];rfl
  rw [hst]
  have hlt2:text.length<(text++t.data.toList).length:=by
   have:t.data.toList.length=t.size:=by rw [Array.length_toList];rfl
   rw [List.length_append,this];omega
  have hu2:Ups 0 (cR (cR gs text.length (if fr then col else 0)) text.length wait) text.length:=jg wait (jg _ h4);refine vV H ⟨_,_,_,e1⟩ ⟨_,_,_,e2⟩ hn hlab hlt u ⟨false,nc,0,_⟩ (hu2.more (by simp)) ?_ ⟨jL _ _ _ (jL _ _ _ h6.1),qN _ _ _ _ (qN _ _ _ _ (fun x hx=>by have:=h6.2 x hx;simp;omega) hlt2) hlt2⟩;show out++_=_;rw [kj _ hu2,je _ (jg _ h4),je _ h4,<-h5];cases fr
  ·simp
  ·simp only [if_true,List.append_assoc]
 have HL:Hid (gs.length<=1073741824/\(cR gs text.length (if fr then col else 0)).length<=1073741824/\text.length+t.size<=70368744177664/\col<=1073741824/\wait<=1073741824/\text.length<=1073741824):=by
  have:=jL gs text.length (if fr then col else 0) h6.1;rw [ko] at this;have h61:=h6.1;refine ⟨by omega,?_,by omega,by omega,by omega,by omega⟩;cases fr <;> simp at this ⊢ <;> omega
 have hte:t.toList.isEmpty=false:=yq ht;clear hn hlab hlt h h1 h2 h3 h4 h5 h6 hwl e1 e2 hb hT ht hnb hnc;cases fr
 ·go_enter_defers Tryz.func104,Tryz.ntmps104
  go_wp2_with (go_at_call 157;refine HGH.out.mono ?_;rintro e w1 ⟨cb,d,h,rfl,HG,g0,g1,g2⟩)
  refine (HBH.out w1 HG.out.2).mono ?_;rintro e w2 ⟨rfl,hb2⟩;have HG2:Hid (Ga own i w g cb d h (sk true col wait tv gv) w2 text gs):=HG.out.1.below hb2;have g0':w2.cell? ⟨g,0,none⟩=some (.bool true):=aa HG2.out.hg rfl;have g2':w2.cell? ⟨g,2,none⟩=some (.int .i64 wait):=aa HG2.out.hg rfl;clear HG g0 g1 g2 hb2
  go_wp2_with fail
  refine (HG2.out.blanks wait HL.out.1 (by have:=HL.out;omega) (by have:=HL.out;omega)).mono ?_;rintro e w3 ⟨rfl,H3⟩;have HG3:Hid (Ga own i w g cb d h (sk true col wait tv gv) w3 text (cR gs text.length wait)):=H3;clear HG2 H3 g0' g2'
  go_wp2_with fail
  refine (HG3.out.text t HL.out.2.2.1).mono ?_;rintro e w4 ⟨rfl,H4⟩;have HG4:Hid (Ga own i w g cb d h (sk true col wait tv gv) w4 (text++t.data.toList) (cR gs text.length wait)):=H4;clear HG3 H4
  go_wp2_with fail
  refine leaves_cons (f:=199) (args:=#[.agg #[.bool true,.int .i64 nc,.int .i64 0],.pointer (some ⟨cb,0,none⟩),.pointer (some ⟨d,0,none⟩),.pointer (some ⟨h,0,none⟩)]) (by simp) (by simp [go_sem]) ?_;refine (HE.out _ _ _ _ .returning HG4.out).mono ?_;rintro e u' w'' ⟨rfl,rfl,hA⟩;exact ⟨_,results_tmp rfl _ _ _,rfl,hA⟩
 ·go_enter_defers Tryz.func104,Tryz.ntmps104
  go_wp2_with (go_at_call 157;refine HGH.out.mono ?_;rintro e w1 ⟨cb,d,h,rfl,HG,g0,g1,g2⟩)
  refine (HBH.out w1 HG.out.2).mono ?_;rintro e w2 ⟨rfl,hb2⟩;have HG2:Hid (Ga own i w g cb d h (sk false col wait tv gv) w2 text gs):=HG.out.1.below hb2;have g0':w2.cell? ⟨g,0,none⟩=some (.bool false):=aa HG2.out.hg rfl;have g1':w2.cell? ⟨g,1,none⟩=some (.int .i64 col):=aa HG2.out.hg rfl;clear HG g0 g1 g2 hb2
  go_wp2_with fail
  refine (HG2.out.blanks col HL.out.1 (by have:=HL.out;omega) (by have:=HL.out;omega)).mono ?_;rintro e w3 ⟨rfl,H3⟩;have HG3:Hid (Ga own i w g cb d h (sk false col wait tv gv) w3 text (cR gs text.length col)):=H3;have g2':w3.cell? ⟨g,2,none⟩=some (.int .i64 wait):=aa HG3.out.hg rfl;clear HG2 H3 g0' g1'
  go_wp2_with fail
  refine (HG3.out.blanks wait HL.out.2.1 (by have:=HL.out;omega) (by have:=HL.out;omega)).mono ?_;rintro e w5 ⟨rfl,H5⟩;have HG5:Hid (Ga own i w g cb d h (sk false col wait tv gv) w5 text (cR (cR gs text.length col) text.length wait)):=H5;clear HG3 H5 g2'
  go_wp2_with fail
  refine (HG5.out.text t HL.out.2.2.1).mono ?_;rintro e w4 ⟨rfl,H4⟩;have HG4:Hid (Ga own i w g cb d h (sk false col wait tv gv) w4 (text++t.data.toList) (cR (cR gs text.length col) text.length wait)):=H4;clear HG5 H4
  go_wp2_with fail
  refine leaves_cons (f:=199) (args:=#[.agg #[.bool true,.int .i64 nc,.int .i64 0],.pointer (some ⟨cb,0,none⟩),.pointer (some ⟨d,0,none⟩),.pointer (some ⟨h,0,none⟩)]) (by simp) (by simp [go_sem]) ?_;refine (HE.out _ _ _ _ .returning HG4.out).mono ?_;rintro e u' w'' ⟨rfl,rfl,hA⟩;exact ⟨_,results_tmp rfl _ _ _,rfl,hA⟩
theorem ub (own:Nat->Nat) (i g:Nat) (s:St6) (t:ByteArray) (w:World) (h:SK own i w g s) (hn:Nf own w) (hT:Tab w) (hb:s.out.length+s.col+s.wait+t.size<=1073741824) :
  Da 104 #[.pointer (some ⟨g,0,none⟩),.string t] w fun e w'=>e=.returned (.int .i64 0)/\Af own i w w' g (s.text t):=by
 by_cases ht:t.size=0
 ·refine (rJ g t w ht).mono ?_;rintro e w' ⟨rfl,rfl⟩;have:s.text t=s:=if_pos ht;rw [this];exact ⟨rfl,Af.here h hn (Below.refl _ _)⟩
 ·exact rI own i g s t w h hn hT ht hb
theorem wb (own:Nat->Nat) (i g:Nat) (s:St6) (c:Nat) (w:World) (h:SK own i w g s) (hn:Nf own w) (hc:c<=1048576) (hb:s.out.length<=1073741824) :
  Da 161 #[.pointer (some ⟨g,0,none⟩),.int .i64 c] w fun e w'=>e=.returned (.int .i64 0)/\Af own i w w' g (s.feed c):=by
 have q1:decide ((c:Int)<0)=false:=by simp
 have q2:decide (1048576<(c:Int))=false:=by simp;omega
 have q3:¬(1048576<(c:Int)):=by omega
 have q4:¬(1048576<c):=by omega
 have HN:=gC own i g s c w h hn hb;clear h hn hb
 go_enter Tryz.func161,Tryz.ntmps161
 go_wp2_with (go_at_call 162;refine HN.mono ?_;rintro e w1 ⟨rfl,hA⟩)
 go_ret
 exact ⟨rfl,hA⟩
def St6.empty (s:St6):St6:=if s.fresh then s.feed s.col else s
theorem tm (own:Nat->Nat) (i g:Nat) (s:St6) (w:World) (h:SK own i w g s) (hn:Nf own w) (hb:s.out.length<=1073741824) :
  Da 108 #[.pointer (some ⟨g,0,none⟩)] w fun e w'=>e=.returned (.int .i64 0)/\Af own i w w' g s.empty:=by
 obtain ⟨tv,gv,text,gs,h1,_⟩:=h.ex;have HN:=gC own i g s s.col w h hn hb;obtain ⟨fr,col,wait,out⟩:=s;simp only at *;have g0:w.cell? ⟨g,0,none⟩=some (.bool (!fr)):=aa h1 rfl;have g1:w.cell? ⟨g,1,none⟩=some (.int .i64 col):=aa h1 rfl;cases fr
 ·have HE:Hid (Af own i w w g (St6.empty ⟨false,col,wait,out⟩)):=Af.here h hn (Below.refl _ _);clear h hn hb h1 HN
  go_enter Tryz.func108,Tryz.ntmps108
  go_wp2_with fail
  go_ret
  exact ⟨rfl,HE.out⟩
 ·clear h hn hb h1
  go_enter Tryz.func108,Tryz.ntmps108
  go_wp2_with (go_at_call 162;refine HN.mono ?_;rintro e w1 ⟨rfl,hA⟩)
  go_ret
  exact ⟨rfl,hA⟩
theorem mx (b:Nat) (w:World) (h0:w.cell? ⟨b,0,none⟩=some (.pointer (some ⟨b,0,none⟩))):Da 164 #[.pointer (some ⟨b,0,none⟩)] w fun e w'=>e=.returned (.tuple #[])/\w=w':=
 (Bv b w h0).mono fun e w' h=>⟨h.1,h.2.symm⟩
structure Bd (b:Nat) (v:Value) (bs:List UInt8) (w:World):Prop where
 blk:w.heap[b]?=some (.cells #[.pointer (some ⟨b,0,none⟩),v] 172 (0,0))
 row:w.ownsRow 0 5 1 v bs.length (bc bs)
def Bw (b:Nat) (v:Value) (bs:List UInt8) (w w':World):Prop:=∃v',Bd b v' bs w'/\(v'.ownBlock=v.ownBlock\/v'.ownBlock=some w.heap.size)/\Kp (fun k=>k=b\/some k=v.ownBlock) w w'
theorem Bd.put {b:Nat}{v v2:Value}{bs l:List UInt8}{w w2:World}(h:Bd b v bs w) (hg:w.grownBy w2 v.ownBlock) (ho:w2.ownsRow 0 5 1 v2 (bs.length+l.length) (bc bs++bc l)) (hat:v2.ownBlock=v.ownBlock\/v2.ownBlock=some w.heap.size):Bw b v (bs++l) w (w2.setCell ⟨b,1,none⟩ v2):=by
 have hk:=Kp.of_grown hg;have hne:=aA h.row h.blk (by decide);have hb2:=hk.blk h.blk (fun e=>hne e.symm);have hne2:=aA ho hb2 (by decide);refine ⟨v2,⟨af hb2 1 v2,?_⟩,hat,?_⟩
 ·rw [List.length_append,wT];exact (Kp.set w2 b 1 v2).row ho (fun k e1 e2=>hne2 (by rw [e1,e2]))
 ·exact (Kp.step (S:=fun k=>k=b\/some k=v.ownBlock) (Kp.refl _ _) hk (fun _ _ h=>.inr h)).step (Kp.set w2 b 1 v2) (fun _ _ h=>.inl h)
theorem Bq (b:Nat) (v:Value) (bs l:List UInt8) (ad:Addr) (m c:Nat) (w:World) (h:Bd b v bs w) (hl:l.length=m) (hsrc:∀j u,(bc l)[j]?=some u->w.cell? (ad.add j)=some u) (hn:bs.length+m<=70368744177664) :
  Da 113 #[.pointer (some ⟨b,0,none⟩),.slice (some ad) m c] w fun e w'=>e=.returned (.tuple #[.int .i64 m,.nilIface])/\Bw b v (bs++l) w w':=by
 obtain ⟨i0,hi,hz0,hz1,hz2⟩:=info_parts Tryz.info5;have c0:w.cell? ⟨b,0,none⟩=some (.pointer (some ⟨b,0,none⟩)):=aa h.blk rfl;have c1:w.cell? ⟨b,1,none⟩=some v:=aa h.blk rfl;have hbl:=ap h.blk;obtain ⟨p,cap,rfl,_,_⟩:=av h.row;have HH:Hid (Bd b (.slice p bs.length cap) bs w):=h;clear h
 go_enter Tryz.func113,Tryz.ntmps113
 go_wp2_with (first|(go_at_call 164;refine (mx b w c0).mono ?_;rintro e w1 ⟨rfl,rfl⟩)|(at_builtin;refine wpList_append_own_at (P:=Tryz.prog) (w:=w) rfl _ _ 164 rfl 0 5 i0 (.int .u8 0) 1 1 Tryz.underlying164 hi hz0 hz1 hz2 rfl (by decide) _ _ _ rfl HH.out.row ad m c (bc l) rfl ?c0 hsrc (By l) ?c3 ?c4 ?c5 ?_))
 case c0=>rw [BA,hl,Nat.mul_one]
 case c3=>unfold maxLen;omega
 case c4=>omega
 case c5=>omega
 intro v2 w2 ho2 hg2 _ hat;have HE:Hid (Bw b (.slice p bs.length cap) (bs++l) w (w2.setCell ⟨b,1,none⟩ v2)):=HH.out.put hg2 (by rw [hl];exact ho2) hat;have hb2:=(Kp.of_grown hg2).blk HH.out.blk (fun e=>aA HH.out.row HH.out.blk (by decide) e.symm);have d0:w2.cell? ⟨b,0,none⟩=some (.pointer (some ⟨b,0,none⟩)):=aa hb2 rfl;have d1:w2.cell? ⟨b,1,none⟩=some (.slice p bs.length cap):=aa hb2 rfl;have f1:w2.frozen? ⟨b,1,none⟩=false:=ak hb2;obtain ⟨p2,cap2,rfl,_,_⟩:=av ho2;clear ho2 hg2 hat hb2
 go_wp2_with fail
 go_ret2
 exact ⟨rfl,HE.out⟩
theorem oq (b:Nat) (v:Value) (bs:List UInt8) (w:World) (h:Bd b v bs w) :
  Da 113 #[.pointer (some ⟨b,0,none⟩),.slice none 0 0] w fun e w'=>e=.returned (.tuple #[.int .i64 0,.nilIface])/\Bw b v (bs++[]) w w':=by
 obtain ⟨i0,hi,hz0,hz1,hz2⟩:=info_parts Tryz.info5;have c0:w.cell? ⟨b,0,none⟩=some (.pointer (some ⟨b,0,none⟩)):=aa h.blk rfl;have c1:w.cell? ⟨b,1,none⟩=some v:=aa h.blk rfl;have hbl:=ap h.blk;have f1:w.frozen? ⟨b,1,none⟩=false:=ak h.blk;have HE:Hid (Bw b v (bs++[]) w (w.setCell ⟨b,1,none⟩ v)):=h.put ⟨rfl,rfl,rfl,Nat.le_refl _,fun _ _ _=>rfl⟩ (by simpa [bc] using h.row) (.inl rfl);obtain ⟨p,cap,rfl,_,_⟩:=av h.row;have HH:Hid (Bd b (.slice p bs.length cap) bs w):=h;clear h
 go_enter Tryz.func113,Tryz.ntmps113
 go_wp2_with (first|(go_at_call 164;refine (mx b w c0).mono ?_;rintro e w1 ⟨rfl,rfl⟩)|(at_builtin;refine wpList_append_own_none (P:=Tryz.prog) (w:=w) rfl _ _ 164 rfl 0 5 i0 1 Tryz.underlying164 hi _ _ _ rfl HH.out.row rfl ?_))
 go_ret2
 exact ⟨rfl,HE.out⟩
theorem Ck (b:Nat) (v:Value) (bs:List UInt8) (t:ByteArray) (w:World) (h:Bd b v bs w) (hn:bs.length+t.size<=70368744177664) :
  Da 114 #[.pointer (some ⟨b,0,none⟩),.string t] w fun e w'=>e=.returned (.tuple #[.int .i64 t.size,.nilIface])/\Bw b v (bs++t.data.toList) w w':=by
 obtain ⟨i0,hi,hz0,hz1,hz2⟩:=info_parts Tryz.info5;have c0:w.cell? ⟨b,0,none⟩=some (.pointer (some ⟨b,0,none⟩)):=aa h.blk rfl;have c1:w.cell? ⟨b,1,none⟩=some v:=aa h.blk rfl;have hbl:=ap h.blk;obtain ⟨p,cap,rfl,_,_⟩:=av h.row;have HH:Hid (Bd b (.slice p bs.length cap) bs w):=h;clear h
 go_enter Tryz.func114,Tryz.ntmps114
 go_wp2_with (first|(go_at_call 164;refine (mx b w c0).mono ?_;rintro e w1 ⟨rfl,rfl⟩)|(at_builtin;refine cy (P:=Tryz.prog) (w:=w) rfl _ _ 164 9 rfl 0 5 i0 Tryz.underlying164 Tryz.underlying9 hi hz0 hz1 hz2 _ _ _ rfl HH.out.row t rfl ?c3 ?c4 ?c5 ?_))
 case c3=>unfold maxLen;omega
 case c4=>omega
 case c5=>omega
 intro v2 w2 ho2 hg2 hat;have HE:Hid (Bw b (.slice p bs.length cap) (bs++t.data.toList) w (w2.setCell ⟨b,1,none⟩ v2)):=HH.out.put hg2 ho2 hat;have hb2:=(Kp.of_grown hg2).blk HH.out.blk (fun e=>aA HH.out.row HH.out.blk (by decide) e.symm);have d0:w2.cell? ⟨b,0,none⟩=some (.pointer (some ⟨b,0,none⟩)):=aa hb2 rfl;have d1:w2.cell? ⟨b,1,none⟩=some (.slice p bs.length cap):=aa hb2 rfl;have f1:w2.frozen? ⟨b,1,none⟩=false:=ak hb2;obtain ⟨p2,cap2,rfl,_,_⟩:=av ho2;clear ho2 hg2 hat hb2
 go_wp2_with fail
 go_ret2
 exact ⟨rfl,HE.out⟩
theorem wG (u:FrameMode) (b:Bool) (col wait:Int) (h g:Nat) (tv gv:Value) (w:World) (hg:w.heap[g]?=some (.cells (sk b col wait tv gv) 167 (0,0))) (hh:w.heap[h]?=some (.cells #[.pointer (some ⟨g,0,none⟩)] 111 (0,0))) (htv:∃p n cap,tv=.slice p n cap) (hgv:∃p n cap,gv=.slice p n cap) :
  CallsD Tryz.prog 110 #[.pointer (some ⟨h,0,none⟩)] u w fun e u' w'=>u'=u/\(e=.returned (.tuple #[])/\w'=(w.setCell ⟨g,3,none⟩ (.slice none 0 0)).setCell ⟨g,4,none⟩ (.slice none 0 0)):=by
 have g3:w.cell? ⟨g,3,none⟩=some tv:=aa hg rfl;have g4:w.cell? ⟨g,4,none⟩=some gv:=aa hg rfl;have f3:w.frozen? ⟨g,3,none⟩=false:=ak hg;have f4:w.frozen? ⟨g,4,none⟩=false:=ak hg;have h0:w.cell? ⟨h,0,none⟩=some (.pointer (some ⟨g,0,none⟩)):=aa hh rfl;obtain ⟨p1,n1,k1,rfl⟩:=htv;obtain ⟨p2,n2,k2,rfl⟩:=hgv
 go_enter_d Tryz.func110,Tryz.ntmps110
 go_wp2_with fail
 go_end0
 exact ⟨rfl,rfl⟩
theorem BF (g j:Nat):(⟨g,0,none⟩:Addr).add j=⟨g,j,none⟩:=by
 unfold Addr.add
 split <;> simp_all
theorem kO {gs:List (Nat × Nat)}(h:w.ownsRow 0 175 2 gv gs.length (aW eg gs)) (k:Nat) (x:Nat × Nat) (hk:gs[k]?=some x):∃tb cap,gv=.slice (some ⟨tb,0,none⟩) gs.length cap/\gs.length<=cap/\w.cell? ⟨tb,k*2,none⟩=some (.int .i64 x.1)/\w.cell? ⟨tb,k*2+1,none⟩=some (.int .i64 x.2):=by
 have hkl:=(List.getElem?_eq_some_iff.1 hk).1
 rcases h.2 with ⟨_,h0⟩|⟨tb,cap,cur,rfl,_,_,hc,_⟩
 ·omega
 ·have hcs:=h.cells (g:=tb) rfl;refine ⟨tb,cap,rfl,hc,?_,?_⟩
  ·have:=hcs (k*2+0) (.int .i64 x.1) (aH eg 2 wi gs k 0 x _ hk rfl);rw [BF] at this;exact this
  ·have:=hcs (k*2+1) (.int .i64 x.2) (aH eg 2 wi gs k 1 x _ hk rfl);rw [BF] at this;exact this
theorem rO (gs:List (Nat × Nat)) (k:Nat) (x:Nat × Nat) (hk:gs[k]?=some x):bT (gs.take (k+1))=bT (gs.take k)+x.2:=by
 induction gs generalizing k with
 |nil=>simp at hk
 |cons y r ih=>
  obtain ⟨a,n⟩:=y;cases k with
  |zero=>simp at hk;subst hk;simp [bT]
  |succ k=>simp only [List.take_succ_cons,bT];rw [ih k (by simpa using hk)];omega
theorem qd (gs:List (Nat × Nat)) (k:Nat):bT (gs.take k)<=bT gs:=by
 induction gs generalizing k with
 |nil=>simp
 |cons y r ih=>
  obtain ⟨a,n⟩:=y;cases k with
  |zero=>simp [bT]
  |succ k=>simp only [List.take_succ_cons,bT];have:=ih k;omega
theorem ut (g:Nat) (b:Bool) (col wait:Int) (tv gv:Value) (n:Nat) (xs:List Value) (gs:List (Nat × Nat)) (w:World) (hg:w.heap[g]?=some (.cells (sk b col wait tv gv) 167 (0,0))) (ht:w.ownsRow 0 5 1 tv n xs) (hr:w.ownsRow 0 175 2 gv gs.length (aW eg gs)) (hn:n<=1073741824) (hs:bT gs<=1073741824) (hl:gs.length<=1073741824) :
  Da 112 #[.pointer (some ⟨g,0,none⟩)] w fun e w'=>e=.returned (.int .i64 (n+bT gs:Nat))/\Below w.heap.size w w':=by
 have g3:w.cell? ⟨g,3,none⟩=some tv:=aa hg rfl;have g4:w.cell? ⟨g,4,none⟩=some gv:=aa hg rfl;obtain ⟨p1,c1,rfl,_,_⟩:=av ht;obtain ⟨p2,c2,rfl,_,_⟩:=av hr;have HR:Hid (w.ownsRow 0 175 2 (.slice p2 gs.length c2) gs.length (aW eg gs)):=hr;clear ht hr hg
 go_enter Tryz.func112,Tryz.ntmps112
 go_wp2_with fail
 go_loopw [3,16] (fun m i wr=>∃k:Nat,k<=gs.length/\m=.int .i64 (n+bT (gs.take k):Nat)/\i=.int .i64 k/\Below w.heap.size w wr) (fun _ i _=>gs.length-(intOf i).toNat)
 case atStart=>exact ⟨0,by omega,by simp [bT],rfl,Below.refl _ _⟩
 case round=>
  obtain ⟨k,hk,rfl,rfl,hb⟩:=hrel;have hsl:=qd gs k
  by_cases hlt:k<gs.length
  ·obtain ⟨x,hx⟩:∃x,gs[k]?=some x:=⟨gs[k],List.getElem?_eq_getElem hlt⟩;obtain ⟨tb,cap,he,hc,x1,x2⟩:=kO HR.out k x hx;injection he with e1 e2 e3
   subst e1;have y1:=(hb.cell (p:=⟨tb,k*2,none⟩) (World.block_lt_of_cell? _ _ x1)).trans x1;have y2:=(hb.cell (p:=⟨tb,k*2+1,none⟩) (World.block_lt_of_cell? _ _ x2)).trans x2;have hst:=rO gs k x hx;have hsl2:=qd gs (k+1);obtain ⟨a,z⟩:=x;simp only at y1 y2 hst;have q1:(k:Int)<gs.length:=by omega
   have HS:Hid (bT (gs.take (k+1))=bT (gs.take k)+z):=hst;have hz:bT (gs.take k)+z<=1073741824:=by omega
   clear x1 x2 hx hst hsl2 e3;obtain ⟨S,hS⟩:∃S,bT (gs.take k)=S:=⟨_,rfl⟩;rw [hS] at hsl hz HS ⊢;clear hS
   go_wp2_with fail
   exact ⟨⟨k+1,hlt,by rw [HS.out];go_num,by go_num,hb.alloc hb.size _⟩,by simp [intOf];omega⟩
  ·obtain rfl:k=gs.length:=by omega
   have HS:Hid (bT (gs.take gs.length)=bT gs):=by rw [List.take_length];rfl
   have q1:¬((gs.length:Int)<gs.length):=by omega
   obtain ⟨S,hS⟩:∃S,bT (gs.take gs.length)=S:=⟨_,rfl⟩;rw [hS] at hsl HS ⊢;clear hS;have HF:Hid ((n:Int)+(S:Int)=(n:Int)+(bT gs:Nat)):=by rw [HS.out];rfl
   clear HS
   go_wp2_with fail
   go_ret
   exact ⟨congrArg (fun z=>Ending.returned (.int .i64 z)) HF.out,hb⟩
theorem uI (n:Nat):Lib.repeatL [32] n=List.replicate n 32:=by
 induction n with
 |zero=>rfl
 |succ n ih=>show [32]++Lib.repeatL [32] n=_;rw [ih];rfl
def ja (n:Nat):ByteArray:=⟨(List.replicate n 32).toArray⟩
theorem gO (n:Nat):(ja n).size=n:=by show (List.replicate n (32:UInt8)).toArray.size=n;simp
theorem xR (n:Nat) (w:World) (hn:n<=1073741824):Da 115 #[.string ⟨#[32]⟩,.int .i64 n] w fun e w'=>e=.returned (.string (ja n))/\Below w.heap.size w w':=by
 refine (oY ⟨#[32]⟩ n w (by omega) (by show 1*n<=_;omega)).mono ?_;rintro e w' ⟨rfl,hb⟩;refine ⟨?_,hb⟩;show Ending.returned (.string ⟨(Lib.repeatL [32] n).toArray⟩)=_;rw [uI];rfl
structure Tk (w0:World) (g b:Nat) (bs:List UInt8) (W:World):Prop where
 lo:Below w0.heap.size w0 W
 hb:W.heap[w0.heap.size]?=some (.cells #[.pointer (some ⟨g,0,none⟩)] 111 (0,0))
 bd:∃v,Bd b v bs W/\∀k,v.ownBlock=some k->w0.heap.size<=k
 bl:w0.heap.size<=b
def Kt (W W':World):Prop:=∀(k:Nat) (cs:Array Value) (T:TypeId) (f:Nat × Nat),W.heap[k]?=some (.cells cs T f)->T≠172->T≠5->W'.heap[k]?=some (.cells cs T f)
theorem Tk.below (h:Tk w0 g b bs W) (hb:Below W.heap.size W W'):Tk w0 g b bs W':=by
 obtain ⟨v,⟨h1,h2⟩,h3⟩:=h.bd;exact ⟨h.lo.trans (hb.mono h.lo.size),ab h.hb hb,⟨v,⟨ab h1 hb,aO h2 hb⟩,h3⟩,h.bl⟩
theorem Tk.wrote {bs':List UInt8}{v:Value}(h:Tk w0 g b bs W) (hbd:Bd b v bs W) (hv:∀k,v.ownBlock=some k->w0.heap.size<=k) (hw:Bw b v bs' W W'):Tk w0 g b bs' W'/\Kt W W':=by
 obtain ⟨v',h1,h2,h3⟩:=hw
 have hne:∀{x:Array Value} {k:Nat} {T:TypeId} {f:Nat × Nat},W.heap[k]?=some (.cells x T f)->T≠172->T≠5->¬(k=b\/some k=v.ownBlock):=by
  intro x k T f hk t1 t2 hh
  rcases hh with hh|hh
  ·exact ik hk hbd.blk t1 hh
  ·exact aA hbd.row hk t2 hh.symm
 refine ⟨⟨?_,h3.blk h.hb (hne h.hb (by decide) (by decide)),⟨v',h1,?_⟩,h.bl⟩,fun k cs T f hk t1 t2=>h3.blk hk (hne hk t1 t2)⟩
 ·refine ⟨h3.os.trans h.lo.os,h3.tape.trans h.lo.tape,h3.output.trans h.lo.output,Nat.le_trans h.lo.size h3.size,fun k hk=>(h3.block k (Nat.lt_of_lt_of_le hk h.lo.size) ?_).trans (h.lo.block k hk)⟩;rintro (e|e)
  ·have:=h.bl;omega
  ·have:=hv k e.symm;omega
 ·intro k hk
  rcases h2 with h2|h2
  ·exact hv k (by rw [<-h2];exact hk)
  ·rw [h2] at hk;injection hk with hk;subst hk;exact h.lo.size
theorem Tk.write (h:Tk w0 g b bs W) (l:List UInt8) (ad:Addr) (m c:Nat) (hl:l.length=m) (hsrc:∀j u,(bc l)[j]?=some u->W.cell? (ad.add j)=some u) (hn:bs.length+m<=70368744177664) :
  Da 113 #[.pointer (some ⟨b,0,none⟩),.slice (some ad) m c] W fun e w'=>e=.returned (.tuple #[.int .i64 m,.nilIface])/\Tk w0 g b (bs++l) w'/\Kt W w':=by
 obtain ⟨v,h1,h2⟩:=h.bd;refine (Bq b v bs l ad m c W h1 hl hsrc hn).mono ?_;rintro e w' ⟨rfl,hw⟩;exact ⟨rfl,h.wrote h1 h2 hw⟩
theorem Tk.write_none (h:Tk w0 g b bs W) :
  Da 113 #[.pointer (some ⟨b,0,none⟩),.slice none 0 0] W fun e w'=>e=.returned (.tuple #[.int .i64 0,.nilIface])/\Tk w0 g b (bs++[]) w'/\Kt W w':=by
 obtain ⟨v,h1,h2⟩:=h.bd;refine (oq b v bs W h1).mono ?_;rintro e w' ⟨rfl,hw⟩;exact ⟨rfl,h.wrote h1 h2 hw⟩
theorem Tk.wstr (h:Tk w0 g b bs W) (t:ByteArray) (hn:bs.length+t.size<=70368744177664) :
  Da 114 #[.pointer (some ⟨b,0,none⟩),.string t] W fun e w'=>e=.returned (.tuple #[.int .i64 t.size,.nilIface])/\Tk w0 g b (bs++t.data.toList) w'/\Kt W w':=by
 obtain ⟨v,h1,h2⟩:=h.bd;refine (Ck b v bs t W h1 hn).mono ?_;rintro e w' ⟨rfl,hw⟩;exact ⟨rfl,h.wrote h1 h2 hw⟩
theorem mL {text:List UInt8}{tb cap:Nat}(hr:w0.ownsRow 0 5 1 tv text.length (bc text)) (he:tv=.slice (some ⟨tb,0,none⟩) text.length cap) (hb:Below w0.heap.size w0 W) (f m:Nat):∀j u,(bc ((text.drop f).take m))[j]?=some u->W.cell? ((⟨tb,f,none⟩:Addr).add j)=some u:=by
 intro j u hj
 have h1:(bc text)[f+j]?=some u:=by
  have:(bc ((text.drop f).take m))[j]?=((bc text).drop f |>.take m)[j]?:=by rw [zw,zv]
  rw [this] at hj
  have hjm:j<m:=by
   have:=(List.getElem?_eq_some_iff.1 hj).1;rw [List.length_take] at this;omega
  rw [List.getElem?_take,if_pos hjm,List.getElem?_drop] at hj;exact hj
 have h2:=hr.cells (g:=tb) (by rw [he];rfl) (f+j) u h1;rw [BF] at h2;have h3:=(hb.cell (p:=⟨tb,f+j,none⟩) (World.block_lt_of_cell? _ _ h2)).trans h2
 have h4:(⟨tb,f,none⟩:Addr).add j=⟨tb,f+j,none⟩:=by
  unfold Addr.add
  split <;> simp_all
 rw [h4];exact h3
end Go.Proofs.YtpdlohfdjiaegaaGreatDoor.Lw
