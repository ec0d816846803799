import Derived.Lib.Bytealg
import Derived.Lib.Walk
import Derived.Shelf.RegionOpenPlain
import Derived.Test.YtkigadnkclkopaaGreatDoorM05
set_option linter.unusedVariables false
set_option linter.unusedSimpArgs false
namespace Go.Proofs.YtkigadnkclkopaaGreatDoor.Lx
open Go.RowKit
theorem sign_byte:∀x∈signL,by8 x 0≠10∧tkBl (by8 x 0)=false∧tkDg (by8 x 0)=false∧by8 x 0≠34∧by8 x 0≠39∧by8 x 0≠123∧by8 x 0<128∧lt' (by8 x 0)=false:=by decide
theorem sg_byte {s:ByteArray}{a:Nat}(h:(sg s a).size≠0):∃x∈signL,by8 x 0=by8 s a:=by
 obtain ⟨g1,g2,g3⟩:=sg_in s a h
 exact ⟨_,g3,by rw [←g2,by8_ext' s a _ 0 (by omega),Nat.add_zero]⟩
theorem bgn_blank {s:ByteArray}{b:Nat}(h:by8 s b=10∨tkBl (by8 s b)=true):tkBgn s b=0:=by
 have hc:by8 s b=10∨by8 s b=32∨by8 s b=9∨by8 s b=13:=by
  rcases h with h|h
  ·exact .inl h
  ·unfold tkBl at h;simp at h;omega
 obtain ⟨e1,e2,e3⟩:=chr_asc s b (by omega)
 have hsg:(sg s b).size=0:=by
  apply Classical.byContradiction
  intro hn
  obtain ⟨x,hx,hy⟩:=sg_byte hn
  obtain ⟨y1,y2,_⟩:=sign_byte x hx
  rw [hy] at y1 y2
  rcases h with h|h
  ·exact y1 h
  ·rw [h] at y2;cases y2
 unfold tkBgn
 rw [e2,e3,if_neg (by rcases hc with h|h|h|h <;> rw [h] <;> decide),if_neg (by rcases hc with h|h|h|h <;> rw [h] <;> decide),if_neg (by omega),if_neg (by omega),if_neg (by omega),if_neg (by omega),if_neg (by omega)]
theorem bgn_what {s:ByteArray}{b:Nat}(h:tkBgn s b≠0):by8 s b≠10∧tkBl (by8 s b)=false:=by
 refine ⟨fun e=>h (bgn_blank (.inl e)),?_⟩
 cases e:tkBl (by8 s b) with
 |false=>rfl
 |true=>exact absurd (bgn_blank (.inr e)) h
theorem told_tok {s:ByteArray}{T:List Tk}{b f p k:Nat}(hT:Told s T b f) (hb:b<s.size) (hk:tkBgn s b=k) (h0:k≠0) (hp:tkEnd s b k=(p,0)) :
  ((p<s.size∨k=4∨k=5∨k=8)→Told s (T++[tkTok s k b p f]) p 0)∧(p=s.size→scn s=(T++[tkTok s k b p f],0,0)):=by
 obtain ⟨h1,h2⟩:=bgn_what (s:=s) (b:=b) (by rw [hk];exact h0)
 refine ⟨fun h=>?_,fun h=>?_⟩
 ·subst hk
  exact .tok hT hb h1 h2 h0 hp h
 ·rw [hT.scn,fnd_tok hb h1 h2 hk h0 hp,fnd_end s p 0 (by omega)]
theorem told_bad {s:ByteArray}{T:List Tk}{b f p k e:Nat}(hT:Told s T b f) (hb:b<s.size) (hk:tkBgn s b=k) (h0:k≠0) (hp:tkEnd s b k=(p,e)) (he:e≠0):scn s=(T,e,p):=by
 obtain ⟨h1,h2⟩:=bgn_what (s:=s) (b:=b) (by rw [hk];exact h0)
 rw [hT.scn,fnd_bad hb h1 h2 hk h0 hp he,List.append_nil]
theorem told_none {s:ByteArray}{T:List Tk}{b f:Nat}(hT:Told s T b f) (hb:b<s.size) (h1:by8 s b≠10) (h2:tkBl (by8 s b)=false) (hk:tkBgn s b=0):scn s=(T,100,b):=by
 rw [hT.scn,fnd_none hb h1 h2 hk,List.append_nil]
theorem not_early {s:ByteArray}{e a:Nat}(h:e≠101):¬Early s e a:=fun h1=>h h1.1
theorem tkEnd_row (s:ByteArray) (b k:Nat) (hk:k=1∨k=3):tkEnd s b k=run (gRow s b k) s.size b 0:=by
 unfold tkEnd
 rw [if_neg (by omega),if_neg (by omega),if_neg (by omega),if_neg (by omega),if_neg (by omega)]
theorem tkEnd_4 (s:ByteArray) (b:Nat):tkEnd s b 4=run (gQuo s b 34 false) s.size (b+1) 0:=by unfold tkEnd;rw [if_pos rfl]
theorem tkEnd_5 (s:ByteArray) (b:Nat):tkEnd s b 5=run (gQuo s b 39 true) s.size (b+1) 0:=by unfold tkEnd;rw [if_neg (by decide),if_pos rfl]
theorem tkEnd_7 (s:ByteArray) (b:Nat):tkEnd s b 7=run (gCom s b false) s.size b 0:=by unfold tkEnd;rw [if_neg (by decide),if_neg (by decide),if_pos rfl]
theorem tkEnd_8 (s:ByteArray) (b:Nat):tkEnd s b 8=run (gCom s b true) s.size b 0:=by unfold tkEnd;rw [if_neg (by decide),if_neg (by decide),if_neg (by decide),if_pos rfl]
theorem tkEnd_6 (s:ByteArray) (b:Nat):tkEnd s b 6=(b+(sg s b).size,0):=by unfold tkEnd;rw [if_neg (by decide),if_neg (by decide),if_neg (by decide),if_neg (by decide),if_pos rfl]
theorem row_more {s:ByteArray}{b p m k:Nat}(hk:k=1∨k=3) (hbp:b≤p) (h:Rch (gRow s b k) b 0 p m) (hp:p<s.size) (hc:¬((k=1∧(gd s p && pr' (dp s p))=false)∨(k=3∧tkDg (by8 s p)=false))) :
  (65535<p+dw s p-b→tkEnd s b k=(b,103))∧(¬65535<p+dw s p-b→Rch (gRow s b k) b 0 (p+dw s p) (m+1)):=by
 refine ⟨fun hf=>?_,fun hf=>.step h ?_⟩
 ·rw [tkEnd_row s b k hk,(h.same (gRow_on s b k) (by omega)).2.2]
  refine run_out (by omega) ?_
  unfold gRow
  rw [if_neg (by omega),if_neg hc,if_pos hf]
 ·unfold gRow
  rw [if_neg (by omega),if_neg hc,if_neg hf]
theorem row_done {s:ByteArray}{b p m k:Nat}(hk:k=1∨k=3) (hbp:b≤p) (h:Rch (gRow s b k) b 0 p m) (hp:p≤s.size) (hc:p<s.size→((k=1∧(gd s p && pr' (dp s p))=false)∨(k=3∧tkDg (by8 s p)=false))):tkEnd s b k=(p,0):=by
 rw [tkEnd_row s b k hk,(h.same (gRow_on s b k) (by omega)).2.2]
 refine run_out hp ?_
 unfold gRow
 by_cases h1:s.size≤p
 ·rw [if_pos h1]
 ·rw [if_neg h1,if_pos (hc (by omega))]
theorem name_on {s:ByteArray}{b p:Nat}(h:MS s b p 1) (hp:p<s.size) (hc:(gd s p && pr' (dp s p))=true):tkBgn s b=1∧(65535<p+dw s p-b→tkEnd s b 1=(b,103))∧(¬65535<p+dw s p-b→MS s b (p+dw s p) 1):=by
 cases h with
 |name h1 h2 h3=>
  have:=row_more (.inl rfl) (by omega) h3 hp (by rintro (⟨_,h⟩|⟨h,_⟩);rw [hc] at h;cases h;omega)
  exact ⟨h2,this.1,fun hf=>.name (by omega) h2 (this.2 hf)⟩
theorem name_off {s:ByteArray}{b p:Nat}(h:MS s b p 1) (hp:p≤s.size) (hc:p<s.size→(gd s p && pr' (dp s p))=false):tkBgn s b=1∧tkEnd s b 1=(p,0):=by
 cases h with
 |name h1 h2 h3=>exact ⟨h2,row_done (.inl rfl) (by omega) h3 hp (fun hx=>.inl ⟨rfl,hc hx⟩)⟩
theorem num_on {s:ByteArray}{b p:Nat}(h:MS s b p 2) (hp:p<s.size) (hc:tkDg (by8 s p)=true):tkBgn s b=3∧(65535<p+dw s p-b→tkEnd s b 3=(b,103))∧(¬65535<p+dw s p-b→MS s b (p+dw s p) 2):=by
 cases h with
 |num h1 h2 h3=>
  have:=row_more (.inr rfl) (by omega) h3 hp (by rintro (⟨h,_⟩|⟨_,h⟩);omega;rw [hc] at h;cases h)
  exact ⟨h2,this.1,fun hf=>.num (by omega) h2 (this.2 hf)⟩
theorem num_off {s:ByteArray}{b p:Nat}(h:MS s b p 2) (hp:p≤s.size) (hc:p<s.size→tkDg (by8 s p)=false):tkBgn s b=3∧tkEnd s b 3=(p,0):=by
 cases h with
 |num h1 h2 h3=>exact ⟨h2,row_done (.inr rfl) (by omega) h3 hp (fun hx=>.inr ⟨rfl,hc hx⟩)⟩
theorem sg_ext {s:ByteArray}{b q:Nat}(hq:q≤s.size) (h2:b+2≤q∨q=s.size) (hb:b≤q):sg (s.extract b q) 0=sg s b:=by
 unfold sg
 rw [find_congr signL (fun x hx=>?_)]
 have hx2:x.size≤2:=by rcases sign_ten x hx with h|⟨h,_⟩ <;> omega
 have hz:=size_ext s b q hq
 unfold pre
 rw [decide_eq_decide,hz,Nat.zero_add]
 constructor
 ·rintro ⟨g1,g2⟩
  exact ⟨by omega,by rw [ext_ext s b q 0 x.size hq (by omega) (Nat.zero_le _),Nat.add_zero] at g2;exact g2⟩
 ·rintro ⟨g1,g2⟩
  have g3:x.size≤q-b:=by omega
  exact ⟨g3,by rw [ext_ext s b q 0 x.size hq (by omega) (Nat.zero_le _),Nat.add_zero];exact g2⟩
def twoSl:ByteArray:=⟨#[47,47]⟩
theorem sign_47:∀x∈signL,by8 x 0=47→x.size=1:=by decide
theorem sign_slash:twoSl∉signL:=fun h=>by
 have:=sign_47 _ h rfl
 cases this
theorem two_bytes {s:ByteArray}{b q:Nat}(hq:q≤s.size) (hb:b≤q):s.extract b q=twoSl↔(q=b+2∧by8 s b=47∧by8 s (b+1)=47):=by
 have hz:=size_ext s b q hq
 have ht:twoSl.size=2:=rfl
 constructor
 ·intro h
  have h1:q-b=2:=by rw [←hz,h,ht]
  have e0:=by8_ext' s b q 0 (by omega)
  have e1:=by8_ext' s b q 1 (by omega)
  rw [h] at e0 e1
  exact ⟨by omega,by rw [Nat.add_zero] at e0;rw [←e0];rfl,by rw [←e1];rfl⟩
 ·rintro ⟨h1,h2,h3⟩
  refine by8_ext _ _ (by rw [hz,ht];omega) (fun j hj=>?_)
  rw [hz] at hj
  rw [by8_ext' s b q j (by omega)]
  rcases (show j=0∨j=1 by omega) with rfl|rfl
  ·rw [Nat.add_zero,h2];rfl
  ·rw [h3];rfl
theorem sign_bgn {s:ByteArray}{b:Nat}(h:(sg s b).size≠0) (hn:¬(by8 s b=47∧b+1<s.size∧by8 s (b+1)=47)):tkBgn s b=6:=by
 obtain ⟨x,hx,hy⟩:=sg_byte h
 obtain ⟨y1,y2,y3,y4,y5,y6,y7,y8⟩:=sign_byte x hx
 rw [hy] at y1 y2 y3 y4 y5 y6 y7 y8
 obtain ⟨e1,e2,e3⟩:=chr_asc s b y7
 unfold tkBgn
 rw [e2,e3,Bool.true_and,if_neg (by rw [y8];decide),if_neg (by rw [y3];decide),if_neg y4,if_neg y5,if_neg hn,if_neg y6,if_pos h]
theorem sign_line {s:ByteArray}{b p:Nat}(h:MS s b p 3) (hp:p<s.size) (hl:s.extract b (p+dw s p)=twoSl):MS s b (p+dw s p) 4∧¬65535<p+dw s p-b:=by
 obtain ⟨d1,d2,d3⟩:=dw_facts s p hp
 cases h with
 |sign h1 h2 h3=>
  obtain ⟨e1,e2,e3⟩:=(two_bytes d3 (by omega)).1 hl
  have hp1:p=b+1:=by omega
  have hd:dw s p=1:=by omega
  have hk:tkBgn s b=7:=by
   obtain ⟨c1,c2,c3⟩:=chr_asc s b (by omega)
   unfold tkBgn
   rw [c2,c3,e2,Bool.true_and,if_neg (by decide),if_neg (by decide),if_neg (by decide),if_neg (by decide),if_pos ⟨rfl,by omega,e3⟩]
  have r0:gCom s b false b 0=.on 1:=by
   unfold gCom
   rw [if_neg (by omega),if_neg (by rw [e2];simp),if_neg (by omega),if_neg (by simp)]
  have r1:gCom s b false (b+1) 1=.on 1:=by
   unfold gCom
   rw [if_neg (by omega),if_neg (by rw [e3];simp),if_neg (by omega),if_neg (by simp)]
  refine ⟨?_,by omega⟩
  rw [hd,hp1]
  exact .line (by omega) hk (.step (.step .refl r0) r1)
theorem sign_on {s:ByteArray}{b p:Nat}(h:MS s b p 3) (hp:p<s.size) (hs:p-b<(sg (s.extract b (p+dw s p)) 0).size):MS s b (p+dw s p) 3∧¬65535<p+dw s p-b:=by
 obtain ⟨d1,d2,d3⟩:=dw_facts s p hp
 cases h with
 |sign h1 h2 h3=>
  have h4:=sg_two (s.extract b (p+dw s p)) 0
  have hp1:p=b+1:=by omega
  obtain ⟨g1,g2,g3⟩:=sg_in (s.extract b (p+dw s p)) 0 (by omega)
  have h5:(sg (s.extract b (p+dw s p)) 0).size=2:=by omega
  obtain ⟨_,a2⟩:=sign_asc _ g3
  rw [h5] at a2 g1 g2
  have e1:by8 s p<128:=by
   have h7:=by8_ext' (s.extract b (p+dw s p)) 0 (0+2) 1 (by omega)
   rw [g2,by8_ext' s b _ (0+1) (by omega)] at h7
   rw [show b+(0+1)=p by omega] at h7
   rw [←h7];exact a2
  have hd:=(chr_asc s p e1).1
  exact ⟨.sign (by omega) d3 (by rw [h5];omega),by omega⟩
theorem sign_off {s:ByteArray}{b p:Nat}(h:MS s b p 3) (hp:p≤s.size) (hl:p<s.size→s.extract b (p+dw s p)≠twoSl) (hs:p<s.size→¬p-b<(sg (s.extract b (p+dw s p)) 0).size):tkBgn s b=6∧tkEnd s b 6=(p,0):=by
 cases h with
 |sign h1 h2 h3=>
  have hsz:(sg s b).size=p-b:=by
   by_cases hlt:p<s.size
   ·obtain ⟨d1,d2,d3⟩:=dw_facts s p hlt
    have h4:=sg_ext (s:=s) (b:=b) (q:=p+dw s p) d3 (.inl (by omega)) (by omega)
    have h5:=hs hlt
    rw [h4] at h5
    by_cases h6:b+2≤p
    ·rw [←sg_ext (s:=s) (b:=b) (q:=p) h2 (.inl h6) (by omega)];exact h3
    ·have h7:(sg s b).size≠0:=by
      intro e
      have h8:(sg (s.extract b p) 0).size=1:=by omega
      obtain ⟨g1,g2,g3⟩:=sg_in (s.extract b p) 0 (by omega)
      rw [h8] at g1 g2
      have hpre:pre s b (sg (s.extract b p) 0)=true:=by
       unfold pre
       refine decide_eq_true ⟨by omega,?_⟩
       rw [h8,←g2,ext_ext s b p 0 (0+1) h2 (by omega) (by omega)]
       rfl
      have h9:(signL.find? (pre s b)).isSome=true:=List.find?_isSome.2 ⟨_,g3,hpre⟩
      obtain ⟨x,hx⟩:=Option.isSome_iff_exists.1 h9
      have hxm:=List.mem_of_find?_eq_some hx
      unfold sg at e
      rw [hx] at e
      have e':x.size=0:=e
      rcases sign_ten x hxm with h|⟨h,_⟩ <;> omega
     omega
   ·rw [←sg_ext (s:=s) (b:=b) (q:=p) h2 (.inr (by omega)) (by omega)];exact h3
  have hk:tkBgn s b=6:=by
   refine sign_bgn (by omega) ?_
   rintro ⟨e1,e2,e3⟩
   by_cases h6:b+2≤p
   ·obtain ⟨g1,g2,g3⟩:=sg_in s b (by omega)
    have h8:=sg_two s b
    have h9:(sg s b).size=2:=by omega
    rw [h9] at g2
    refine sign_slash ?_
    rw [←(two_bytes (s:=s) (b:=b) (q:=b+2) (by omega) (by omega)).2 ⟨rfl,e1,e3⟩,g2]
    exact g3
   ·have hlt:p<s.size:=by omega
    have hp1:p=b+1:=by omega
    refine hl hlt ((two_bytes (dw_facts s p hlt).2.2 (by omega)).2 ⟨?_,e1,e3⟩)
    have:=(chr_asc s p (by rw [hp1];omega)).1
    omega
  refine ⟨hk,?_⟩
  rw [tkEnd_6,hsz,show b+(p-b)=p by omega]
theorem com_to {s:ByteArray}{b:Nat}{o:Bool}{p m:Nat}(h:Rch (gCom s b o) b 0 p m):∀n,p+n≤s.size→p+n≤b+65535→(∀j,p≤j→j<p+n→(o=false→by8 s j≠10)∧(o=true→by8 s j≠125))→∃m',Rch (gCom s b o) b 0 (p+n) m'
 |0,_,_,_=>⟨m,h⟩
 |n+1,h1,h2,h3=>by
  obtain ⟨m',h4⟩:=com_to h n (by omega) (by omega) (fun j j1 j2=>h3 j j1 (by omega))
  obtain ⟨x1,x2⟩:=h3 (p+n) (by omega) (by omega)
  refine ⟨m'+1,?_⟩
  rw [show p+(n+1)=(p+n)+1 by omega]
  refine .step h4 ?_
  unfold gCom
  rw [if_neg (by omega),if_neg (fun h=>x1 h.1 h.2),if_neg (by omega),if_neg (fun h=>x2 h.1 h.2)]
theorem com_more {s:ByteArray}{b:Nat}{o:Bool}{p m:Nat}(hb:b≤p) (hl:p≤b+65535) (h:Rch (gCom s b o) b 0 p m) (hp:p<s.size) (hc:(o=false→by8 s p≠10)∧(o=true→by8 s p≠125)) :
  (65535<p+dw s p-b→run (gCom s b o) s.size b 0=(b,103))∧(¬65535<p+dw s p-b→∃m',Rch (gCom s b o) b 0 (p+dw s p) m'):=by
 obtain ⟨d1,d2,d3⟩:=dw_facts s p hp
 have hj:∀j,p≤j→j<p+dw s p→(o=false→by8 s j≠10)∧(o=true→by8 s j≠125):=fun j j1 j2=>by
  by_cases e:j=p
  ·rw [e];exact hc
  ·have:=(dec_inner s p (j-p) (by omega) (by omega)).2
   rw [show p+(j-p)=j by omega] at this
   exact ⟨fun _=>by omega,fun _=>by omega⟩
 refine ⟨fun hf=>?_,fun hf=>com_to h (dw s p) d3 (by omega) hj⟩
 obtain ⟨m',h4⟩:=com_to h (b+65535-p) (by omega) (by omega) (fun j j1 j2=>hj j j1 (by omega))
 rw [show p+(b+65535-p)=b+65535 by omega] at h4
 rw [(h4.same (gCom_on s b o) (by omega)).2.2]
 obtain ⟨x1,x2⟩:=hj (b+65535) (by omega) (by omega)
 refine run_out (by omega) ?_
 unfold gCom
 rw [if_neg (by omega),if_neg (fun h=>x1 h.1 h.2),if_pos (by omega)]
theorem line_on {s:ByteArray}{b p:Nat}(h:MS s b p 4) (hp:p<s.size) (h10:by8 s p≠10):tkBgn s b=7∧(65535<p+dw s p-b→tkEnd s b 7=(b,103))∧(¬65535<p+dw s p-b→MS s b (p+dw s p) 4):=by
 have hl:=h.len
 cases h with
 |line h1 h2 h3=>
  obtain ⟨c1,c2⟩:=com_more hl.1 hl.2 h3 hp ⟨fun _=>h10,fun h=>by cases h⟩
  exact ⟨h2,fun hf=>by rw [tkEnd_7];exact c1 hf,fun hf=>by obtain ⟨m',h4⟩:=c2 hf;exact .line (by omega) h2 h4⟩
theorem line_off {s:ByteArray}{b p:Nat}(h:MS s b p 4) (hp:p≤s.size) (h10:p<s.size→by8 s p=10):tkBgn s b=7∧tkEnd s b 7=(p,0):=by
 cases h with
 |line h1 h2 h3=>
  refine ⟨h2,?_⟩
  rw [tkEnd_7,(h3.same (gCom_on s b false) (by omega)).2.2]
  refine run_out hp ?_
  unfold gCom
  by_cases h5:s.size≤p
  ·rw [if_pos h5];rfl
  ·rw [if_neg h5,if_pos ⟨rfl,h10 (by omega)⟩]
theorem block_on {s:ByteArray}{b p:Nat}(h:MS s b p 5) (hp:p<s.size) (hc:by8 s p≠125):tkBgn s b=8∧(65535<p+dw s p-b→tkEnd s b 8=(b,103))∧(¬65535<p+dw s p-b→MS s b (p+dw s p) 5):=by
 have hl:=h.len
 cases h with
 |block h1 h2 h3=>
  obtain ⟨c1,c2⟩:=com_more hl.1 hl.2 h3 hp ⟨fun h=>(by cases h),fun _=>hc⟩
  exact ⟨h2,fun hf=>by rw [tkEnd_8];exact c1 hf,fun hf=>by obtain ⟨m',h4⟩:=c2 hf;exact .block (by omega) h2 h4⟩
theorem block_last {s:ByteArray}{b p:Nat}(h:MS s b p 5) (hp:p<s.size) (hc:by8 s p=125):tkBgn s b=8∧(65535<p+dw s p-b→tkEnd s b 8=(b,103))∧(¬65535<p+dw s p-b→tkEnd s b 8=(p+dw s p,0)):=by
 cases h with
 |block h1 h2 h3=>
  have hd:=(chr_asc s p (by omega)).1
  refine ⟨h2,fun hf=>?_,fun hf=>?_⟩
  ·rw [tkEnd_8,(h3.same (gCom_on s b true) (by omega)).2.2]
   refine run_out (by omega) ?_
   unfold gCom
   rw [if_neg (by omega),if_neg (by simp),if_pos (by omega)]
  ·rw [tkEnd_8,(h3.same (gCom_on s b true) (by omega)).2.2,hd]
   refine run_out (by omega) ?_
   unfold gCom
   rw [if_neg (by omega),if_neg (by simp),if_neg (by omega),if_pos ⟨rfl,hc⟩]
theorem block_open {s:ByteArray}{b:Nat}(h:MS s b s.size 5):tkBgn s b=8∧tkEnd s b 8=(b,101):=by
 cases h with
 |block h1 h2 h3=>
  refine ⟨h2,?_⟩
  rw [tkEnd_8,(h3.same (gCom_on s b true) (by omega)).2.2]
  refine run_out (Nat.le_refl _) ?_
  unfold gCom
  rw [if_pos (Nat.le_refl _),if_pos rfl]
theorem quo_ten {s:ByteArray}{f q:Nat}{o:Bool}{a m p k:Nat}(h:Rch (gQuo s f q o) a m p k) (ha:∀j,f≤j→j<a→by8 s j≠10):∀j,f≤j→j<p→by8 s j≠10:=by
 refine h.inv (fun d=>∀j,f≤j→j<d→by8 s j≠10) ?_ ha
 intro d j n hI hx i i1 i2
 obtain ⟨x1,x2,rfl⟩:=quo_on_lt hx
 rcases Nat.lt_or_ge i d with h5|h5
 ·exact hI i i1 h5
 ·exact chr_ten x2 h5 i2
theorem lf_early {s:ByteArray}{b p:Nat}(hb:b≤p) (hp:p<s.size) (h10:by8 s p=10) (hc:by8 s b≠123):¬Early s 101 b:=by
 rintro ⟨_,h|h⟩
 ·exact hc h
 ·exact h ⟨p,hb,hp,h10⟩
theorem text_open {s:ByteArray}{b p:Nat}(h:MS s b p 6) (hp:p≤s.size) (h10:p<s.size→by8 s p=10):tkBgn s b=4∧tkEnd s b 4=(b,101)∧(p<s.size→¬Early s 101 b)∧(p=s.size→Early s 101 b):=by
 cases h with
 |text h1 h2 h3=>
  have e34:=(bgn_byte s b).1 h2
  refine ⟨h2,?_,fun hx=>lf_early (by omega) hx (h10 hx) (by omega),fun hx=>⟨rfl,.inr ?_⟩⟩
  ·rw [tkEnd_4,(h3.same (gQuo_on s b 34 false) (by omega)).2.2]
   refine run_out hp ?_
   unfold gQuo
   rw [if_pos (by by_cases h5:s.size≤p;exact .inl h5;exact .inr (h10 (by omega)))]
  ·rintro ⟨j,j1,j2,j3⟩
   exact quo_ten h3 (fun j j1 j2=>by rw [show j=b by omega];omega) j j1 (by omega) j3
theorem text_long {s:ByteArray}{b p:Nat}(h:MS s b p 6) (hp:p<s.size) (h10:by8 s p≠10) (hf:65535<p+dw s p-b):tkBgn s b=4∧tkEnd s b 4=(b,103):=by
 cases h with
 |text h1 h2 h3=>
  refine ⟨h2,?_⟩
  rw [tkEnd_4,(h3.same (gQuo_on s b 34 false) (by omega)).2.2]
  refine run_out (by omega) ?_
  unfold gQuo
  rw [if_neg (by omega),if_pos hf]
theorem text_ctl {s:ByteArray}{b p:Nat}(h:MS s b p 6) (hp:p<s.size) (h10:by8 s p≠10) (hf:¬65535<p+dw s p-b) (hc:tkCtl s p=true):tkBgn s b=4∧tkEnd s b 4=(p,102):=by
 cases h with
 |text h1 h2 h3=>
  refine ⟨h2,?_⟩
  have hq:by8 s p≠34:=by
   intro e
   unfold tkCtl at hc
   rw [(chr_asc s p (by omega)).2.1,e] at hc
   simp at hc
  rw [tkEnd_4,(h3.same (gQuo_on s b 34 false) (by omega)).2.2]
  refine run_out (by omega) ?_
  unfold gQuo
  rw [if_neg (by omega),if_neg hf,if_neg (fun h=>hq h.1),if_pos (.inl hc)]
theorem text_last {s:ByteArray}{b p:Nat}(h:MS s b p 6) (hp:p<s.size) (hq:by8 s p=34) (hf:¬65535<p+dw s p-b):tkBgn s b=4∧tkEnd s b 4=(p+dw s p,0):=by
 cases h with
 |text h1 h2 h3=>
  refine ⟨h2,?_⟩
  rw [tkEnd_4,(h3.same (gQuo_on s b 34 false) (by omega)).2.2,(chr_asc s p (by omega)).1]
  refine run_out (by omega) ?_
  unfold gQuo
  rw [if_neg (by omega),if_neg hf,if_pos ⟨hq,.inl rfl⟩]
theorem text_on {s:ByteArray}{b p:Nat}(h:MS s b p 6) (hp:p<s.size) (h10:by8 s p≠10) (hf:¬65535<p+dw s p-b) (hc:tkCtl s p=false) (hq:by8 s p≠34):MS s b (p+dw s p) 6:=by
 cases h with
 |text h1 h2 h3=>
  refine .text (by omega) h2 (.step h3 ?_)
  unfold gQuo
  rw [if_neg (by omega),if_neg hf,if_neg (fun h=>hq h.1),if_neg (by rintro (h|⟨h,_⟩);rw [hc] at h;cases h;cases h)]
theorem char_open {s:ByteArray}{b p k:Nat}(h:MS s b p k) (hk:k=7∨k=8) (hp:p≤s.size) (h10:p<s.size→by8 s p=10):tkBgn s b=5∧tkEnd s b 5=(b,101)∧(p<s.size→¬Early s 101 b)∧(p=s.size→Early s 101 b):=by
 have key:∀m,b<p→tkBgn s b=5→Rch (gQuo s b 39 true) (b+1) 0 p m→tkBgn s b=5∧tkEnd s b 5=(b,101)∧(p<s.size→¬Early s 101 b)∧(p=s.size→Early s 101 b):=fun m h1 h2 h3=>by
  have e39:=(bgn_byte s b).2.1 h2
  refine ⟨h2,?_,fun hx=>lf_early (by omega) hx (h10 hx) (by omega),fun hx=>⟨rfl,.inr ?_⟩⟩
  ·rw [tkEnd_5,(h3.same (gQuo_on s b 39 true) (by omega)).2.2]
   refine run_out hp ?_
   unfold gQuo
   rw [if_pos (by by_cases h5:s.size≤p;exact .inl h5;exact .inr (h10 (by omega)))]
  ·rintro ⟨j,j1,j2,j3⟩
   exact quo_ten h3 (fun j j1 j2=>by rw [show j=b by omega];omega) j j1 (by omega) j3
 cases h with
 |char h1 h2=>exact key 0 (by omega) h2 (by rw [h1];exact .refl)
 |quote h1 h2 h3=>exact key 1 (by omega) h2 h3
 |none _=>omega
 |name _ _ _=>omega
 |num _ _ _=>omega
 |sign _ _ _=>omega
 |line _ _ _=>omega
 |block _ _ _=>omega
 |text _ _ _=>omega
theorem char_bad {s:ByteArray}{b p:Nat}(h:MS s b p 7) (hp:p<s.size) (h10:by8 s p≠10) (hc:tkCtl s p=true∨by8 s p=39):tkBgn s b=5∧tkEnd s b 5=(p,102):=by
 cases h with
 |char h1 h2=>
  refine ⟨h2,?_⟩
  obtain ⟨d1,d2,d3⟩:=dw_facts s p hp
  subst h1
  rw [tkEnd_5]
  refine run_out (by omega) ?_
  unfold gQuo
  rw [if_neg (by omega),if_neg (by omega),if_neg (by simp),if_pos (by rcases hc with h|h;exact .inl h;exact .inr ⟨rfl,.inr h⟩)]
theorem char_on {s:ByteArray}{b p:Nat}(h:MS s b p 7) (hp:p<s.size) (h10:by8 s p≠10) (hc:tkCtl s p=false) (hq:by8 s p≠39):MS s b (p+dw s p) 8∧¬65535<p+dw s p-b:=by
 cases h with
 |char h1 h2=>
  obtain ⟨d1,d2,d3⟩:=dw_facts s p hp
  subst h1
  refine ⟨.quote (by omega) h2 (.step .refl ?_),by omega⟩
  unfold gQuo
  rw [if_neg (by omega),if_neg (by omega),if_neg (by simp),if_neg (by rintro (h|⟨_,h|h⟩);rw [hc] at h;cases h;cases h;exact hq h)]
theorem quote_bad {s:ByteArray}{b p:Nat}(h:MS s b p 8) (hp:p<s.size) (h10:by8 s p≠10) (hq:by8 s p≠39):tkBgn s b=5∧tkEnd s b 5=(p,102):=by
 cases h with
 |quote h1 h2 h3=>
  refine ⟨h2,?_⟩
  obtain ⟨d1,d2,d3⟩:=dw_facts s p hp
  have h4:p≤b+5:=by
   cases h3 with
   |step h5 h6=>
    cases h5 with
    |refl=>
     obtain ⟨x1,_,rfl⟩:=quo_on_lt h6
     have:=(dw_facts s (b+1) x1).2.1
     omega
  rw [tkEnd_5,(h3.same (gQuo_on s b 39 true) (by omega)).2.2]
  refine run_out (by omega) ?_
  unfold gQuo
  rw [if_neg (by omega),if_neg (by omega),if_neg (fun h=>hq h.1),if_pos (.inr ⟨rfl,.inl rfl⟩)]
theorem quote_last {s:ByteArray}{b p:Nat}(h:MS s b p 8) (hp:p<s.size) (hq:by8 s p=39):tkBgn s b=5∧tkEnd s b 5=(p+dw s p,0)∧¬65535<p+dw s p-b:=by
 cases h with
 |quote h1 h2 h3=>
  obtain ⟨d1,d2,d3⟩:=dw_facts s p hp
  have h4:p≤b+5:=by
   cases h3 with
   |step h5 h6=>
    cases h5 with
    |refl=>
     obtain ⟨x1,_,rfl⟩:=quo_on_lt h6
     have:=(dw_facts s (b+1) x1).2.1
     omega
  refine ⟨h2,?_,by omega⟩
  rw [tkEnd_5,(h3.same (gQuo_on s b 39 true) (by omega)).2.2,(chr_asc s p (by omega)).1]
  refine run_out (by omega) ?_
  unfold gQuo
  rw [if_neg (by omega),if_neg (by omega),if_pos ⟨hq,.inr rfl⟩]
def bgK (s:ByteArray) (p:Nat):Nat:=
 if (gd s p && lt' (dp s p))=true then 1 else if tkDg (by8 s p)=true then 2 else if by8 s p=34 then 6 else if by8 s p=39 then 7 else if by8 s p=123 then 5 else if (sg s p).size≠0 then 3 else 0
theorem bgK_none {s:ByteArray}{p:Nat}(hp:p<s.size) (h:bgK s p=0):tkBgn s p=0:=by
 unfold bgK at h
 unfold tkBgn
 by_cases c1:(gd s p && lt' (dp s p))=true
 ·rw [if_pos c1] at h;cases h
 ·rw [if_neg c1] at h
  by_cases c2:tkDg (by8 s p)=true
  ·rw [if_pos c2] at h;cases h
  ·rw [if_neg c2] at h
   by_cases c3:by8 s p=34
   ·rw [if_pos c3] at h;cases h
   ·rw [if_neg c3] at h
    by_cases c4:by8 s p=39
    ·rw [if_pos c4] at h;cases h
    ·rw [if_neg c4] at h
     by_cases c5:by8 s p=123
     ·rw [if_pos c5] at h;cases h
     ·rw [if_neg c5] at h
      by_cases c6:(sg s p).size≠0
      ·rw [if_pos c6] at h;cases h
      ·have c8:by8 s p≠47:=by
        intro h47
        apply c6
        have hpre:pre s p ⟨#[47]⟩=true:=by
         unfold pre
         refine decide_eq_true ⟨by show p+1≤_;omega,?_⟩
         refine by8_ext _ _ (by rw [size_ext s p _ (by show p+1≤_;omega)];show p+1-p=1;omega) (fun j hj=>?_)
         rw [size_ext s p _ (by show p+1≤_;omega)] at hj
         have hj':j<p+1-p:=hj
         obtain rfl:j=0:=by omega
         rw [by8_ext' s p _ 0 (by show p+0<p+1;omega),Nat.add_zero,h47]
         rfl
        have h9:(signL.find? (pre s p)).isSome=true:=List.find?_isSome.2 ⟨_,by unfold signL;repeat (first|exact List.mem_cons_self ..|apply List.mem_cons_of_mem),hpre⟩
        obtain ⟨x,hx⟩:=Option.isSome_iff_exists.1 h9
        have hxm:=List.mem_of_find?_eq_some hx
        unfold sg
        rw [hx]
        show x.size≠0
        rcases sign_ten x hxm with h8|⟨h8,_⟩ <;> omega
       rw [if_neg c1,if_neg c2,if_neg c3,if_neg c4,if_neg (fun h=>c8 h.1),if_neg c5,if_neg c6]
theorem bgK_ms {s:ByteArray}{p k:Nat}(hp:p<s.size) (h:bgK s p=k) (h0:k≠0):MS s p (p+dw s p) k∧¬65535<p+dw s p-p:=by
 obtain ⟨d1,d2,d3⟩:=dw_facts s p hp
 refine ⟨?_,by omega⟩
 unfold bgK at h
 by_cases c1:(gd s p && lt' (dp s p))=true
 ·rw [if_pos c1] at h
  subst h
  refine .name (by omega) (by unfold tkBgn;rw [if_pos c1]) (.step .refl ?_)
  rw [Bool.and_eq_true] at c1
  unfold gRow
  rw [if_neg (by omega),if_neg (by rintro (⟨_,h⟩|⟨h,_⟩);rw [c1.1,pr_of_lt c1.2] at h;cases h;cases h),if_neg (by omega)]
 ·rw [if_neg c1] at h
  by_cases c2:tkDg (by8 s p)=true
  ·rw [if_pos c2] at h
   subst h
   refine .num (by omega) (by unfold tkBgn;rw [if_neg c1,if_pos c2]) (.step .refl ?_)
   unfold gRow
   rw [if_neg (by omega),if_neg (by rintro (⟨h,_⟩|⟨_,h⟩);cases h;rw [c2] at h;cases h),if_neg (by omega)]
  ·rw [if_neg c2] at h
   by_cases c3:by8 s p=34
   ·rw [if_pos c3] at h
    subst h
    rw [(chr_asc s p (by omega)).1]
    exact .text (by omega) (by unfold tkBgn;rw [if_neg c1,if_neg c2,if_pos c3]) .refl
   ·rw [if_neg c3] at h
    by_cases c4:by8 s p=39
    ·rw [if_pos c4] at h
     subst h
     rw [(chr_asc s p (by omega)).1]
     exact .char rfl (by unfold tkBgn;rw [if_neg c1,if_neg c2,if_neg c3,if_pos c4])
    ·rw [if_neg c4] at h
     by_cases c5:by8 s p=123
     ·rw [if_pos c5] at h
      subst h
      rw [(chr_asc s p (by omega)).1]
      refine .block (by omega) (by unfold tkBgn;rw [if_neg c1,if_neg c2,if_neg c3,if_neg c4,if_neg (by omega),if_pos c5]) (.step .refl ?_)
      unfold gCom
      rw [if_neg (by omega),if_neg (by simp),if_neg (by omega),if_neg (by omega)]
     ·rw [if_neg c5] at h
      by_cases c6:(sg s p).size≠0
      ·rw [if_pos c6] at h
       subst h
       obtain ⟨x,hx,hy⟩:=sg_byte c6
       have h7:=(sign_byte x hx).2.2.2.2.2.2.1
       rw [hy] at h7
       have hd:=(chr_asc s p h7).1
       obtain ⟨y,y1,y2,y3⟩:=sign_one x hx
       rw [hd]
       refine .sign (by omega) (by omega) ?_
       have hz:=size_ext s p (p+1) (by omega)
       have hpre:pre (s.extract p (p+1)) 0 y=true:=by
        unfold pre
        refine decide_eq_true ⟨by omega,?_⟩
        rw [Nat.zero_add,y2]
        refine by8_ext _ _ (by rw [size_ext _ 0 1 (by omega),y2]) (fun j hj=>?_)
        rw [size_ext _ 0 1 (by omega)] at hj
        obtain rfl:j=0:=by omega
        rw [by8_ext' _ 0 1 0 (by omega),by8_ext' s p _ (0+0) (by omega),y3,hy]
        rfl
       have h9:(signL.find? (pre (s.extract p (p+1)) 0)).isSome=true:=List.find?_isSome.2 ⟨_,y1,hpre⟩
       obtain ⟨u,hu⟩:=Option.isSome_iff_exists.1 h9
       have hum:=List.mem_of_find?_eq_some hu
       have hup:=List.find?_some hu
       unfold pre at hup
       have hup2:=(of_decide_eq_true hup).1
       have:(sg (s.extract p (p+1)) 0).size=u.size:=by unfold sg;rw [hu];rfl
       rw [this]
       rcases sign_ten u hum with h8|⟨h8,_⟩ <;> omega
      ·rw [if_neg c6] at h
       exact absurd h.symm h0
theorem opn_once {s:ByteArray}{m m':Nat}(h1:1≤m) (h2:m<m') (h3:m'≤s.size) (ho:opn (s.extract (s.size-m) s.size)=true) (ho':opn (s.extract (s.size-m') s.size)=true):False:=by
 have z:=size_ext s (s.size-m) s.size (Nat.le_refl _)
 have z':=size_ext s (s.size-m') s.size (Nat.le_refl _)
 have a:=opn_first _ (by omega) ho
 have b:=(opn_bytes _ (by omega) ho').2.2 (m' - m) (by omega) (by omega)
 rw [by8_ext' s _ _ 0 (by omega)] at a
 rw [by8_ext' s _ _ (m' - m) (by omega)] at b
 rw [show s.size-m'+(m' - m)=s.size-m+0 by omega] at b
 exact a b
theorem wh_is {s:ByteArray}{m:Nat}(h1:1≤m) (h3:m≤3) (hm:m≤s.size) (ho:opn (s.extract (s.size-m) s.size)=true):wh s=s.size-m:=by
 rcases wh_facts s with ⟨_,h⟩|⟨m',g1,g2,g3,g4,g5⟩
 ·rw [h m h1 h3 hm] at ho;cases ho
 ·rcases Nat.lt_trichotomy m m' with h|h|h
  ·exact (opn_once h1 h g3 ho g5).elim
  ·rw [h];exact g4
  ·exact (opn_once g1 h hm g5 ho).elim
theorem wh_all {s:ByteArray}(h:∀m,1≤m→m≤3→m≤s.size→opn (s.extract (s.size-m) s.size)=false):wh s=s.size:=by
 rcases wh_facts s with ⟨h1,_⟩|⟨m',g1,g2,g3,g4,g5⟩
 ·exact h1
 ·rw [h m' g1 g2 g3] at g5;cases g5
theorem tail_second (a c:ByteArray) (m:Nat) (hm:m≤c.size):(a++c).extract ((a++c).size-m) (a++c).size=c.extract (c.size-m) c.size:=by
 have h:=ext_second a c (c.size-m) c.size (Nat.le_refl _)
 rw [←h,size_app,show a.size+c.size-m=a.size+(c.size-m) by omega]
theorem opn_less {t c:ByteArray}(h0:0<t.size) (h:opn (t++c)=true):opn t=true:=by
 have key:∀X,goB (t++c) X=true→opn t=true:=fun X hX=>by
  unfold goB at hX
  rw [Bool.and_eq_true,app_assoc] at hX
  have h2:=of_decide_eq_true hX.2
  rw [size_app] at h2
  exact opn_of t (c++X) h0 (by omega)
 unfold opn at h
 rw [Bool.or_eq_true] at h
 rcases h with h|h
 ·exact key _ h
 ·exact key _ h
def opE (S:ByteArray):ByteArray:=S.extract (wh S) S.size
theorem opE_size (S:ByteArray):(opE S).size=S.size-wh S:=size_ext S _ _ (Nat.le_refl _)
theorem whl_opE (S x:ByteArray):S++x=whl S++(opE S++x):=whl_with S x
theorem wh_join (S x:ByteArray):wh (S++x)=wh S+wh (opE S++x):=by
 have hz:=whl_size S
 have ho:=opE_size S
 have hw:=wh_bd S
 rw [whl_opE S x]
 obtain ⟨c,hc⟩:∃c,opE S++x=c:=⟨_,rfl⟩
 rw [hc]
 have hcz:=size_app (whl S) c
 rcases wh_facts c with ⟨h1,h2⟩|⟨m,m1,m3,mz,h3,h4⟩
 ·rw [h1]
  rw [wh_all (s:=whl S++c) ?_]
  ·omega
  ·intro m m1 m3 mz
   by_cases hm:m≤c.size
   ·rw [tail_second (whl S) c m hm];exact h2 m m1 m3 hm
   ·cases ho':opn ((whl S++c).extract ((whl S++c).size-m) (whl S++c).size) with
    |false=>rfl
    |true=>
     exfalso
     have e:=ext_app_tail (whl S) c ((whl S).size-(m-c.size)) (by omega)
     rw [show (whl S).size-(m-c.size)=(whl S++c).size-m by omega] at e
     rw [←e] at ho'
     have tz:=size_ext (whl S) ((whl S++c).size-m) (whl S).size (Nat.le_refl _)
     have hlt:0<((whl S).extract ((whl S++c).size-m) (whl S).size).size:=by omega
     rcases wh_facts S with ⟨f1,f2⟩|⟨m0,n1,n3,nz,f3,f4⟩
     ·have e2:whl S=S:=by unfold whl;rw [f1];exact extract_all S
      have h5:=opn_less hlt ho'
      rw [e2] at h5 mz hcz
      rw [show (S++c).size-m=S.size-(m-c.size) by omega] at h5
      rw [f2 (m-c.size) (by omega) (by omega) (by omega)] at h5
      cases h5
     ·have hoz:0<(opE S).size:=by omega
      have e3:opE S=S.extract (S.size-m0) S.size:=by unfold opE;rw [f3]
      have h6:=opn_first (opE S) hoz (by rw [e3];exact f4)
      have hcz2:c.size=(opE S).size+x.size:=by rw [←hc,size_app]
      obtain ⟨X,hX⟩:∃X,(whl S).extract ((whl S++c).size-m) (whl S).size=X:=⟨_,rfl⟩
      rw [hX] at ho' hlt
      have hXz:=size_app X c
      have h7:=(opn_bytes (X++c) (by omega) ho').2.2 (X.size+0) (by omega) (by omega)
      rw [by8_second,←hc,by8_first _ _ 0 hoz] at h7
      exact h6 h7
 ·rw [wh_is m1 m3 (by omega) (by rw [tail_second (whl S) c m mz];exact h4),h3]
  omega
theorem ext_both (a c:ByteArray) (n:Nat) (h:n≤c.size):(a++c).extract 0 (a.size+n)=a++c.extract 0 n:=by
 have hz:=size_app a c
 have h1:=size_ext (a++c) 0 (a.size+n) (by omega)
 have h2:=size_ext c 0 n h
 refine by8_ext _ _ (by rw [h1,size_app,h2];omega) (fun j hj=>?_)
 rw [h1] at hj
 rw [by8_head _ _ j (by omega),by8_app,by8_app]
 by_cases h3:j<a.size
 ·rw [if_pos h3,if_pos h3]
 ·rw [if_neg h3,if_neg h3,by8_head c n _ (by omega)]
theorem whl_join (S x:ByteArray):whl (S++x)=whl S++whl (opE S++x):=by
 have h:=wh_join S x
 show (S++x).extract 0 (wh (S++x))=_
 rw [h,whl_opE S x,←whl_size S,ext_both _ _ _ (wh_bd _).1]
 rfl
theorem app_empty (s:ByteArray):s++ByteArray.empty=s:=by8_ext _ _ (by rw [size_app];rfl) (fun j hj=>by rw [size_app] at hj;rw [by8_app,if_pos (by simpa using hj)])
theorem bgs_join (S x:ByteArray):Bgs (whl S) (whl (opE S++x)) (whl S).size:=by
 refine ⟨Nat.le_refl _,fun i hi=>?_,fun i h1 h2=>by omega⟩
 rw [whl_size] at hi
 have h1:=dec_whole (S++x) ByteArray.empty i (by rw [wh_join];omega)
 rw [app_empty] at h1
 have h2:=dec_whole S x i hi
 rw [←whl_join]
 exact h1.symm.trans h2
theorem bgs_open (S:ByteArray):Bgs (whl S) (opE S) (whl S).size:=by
 have:=bgs_whl S ByteArray.empty
 rw [app_empty] at this
 exact this
theorem opE_join (S x:ByteArray):opE (S++x)=opE (opE S++x):=by
 have h:=wh_join S x
 have hw:=wh_bd (opE S++x)
 show (S++x).extract (wh (S++x)) (S++x).size=(opE S++x).extract (wh (opE S++x)) (opE S++x).size
 rw [h,whl_opE S x,←whl_size S,size_app (whl S),ext_second (whl S) (opE S++x) _ _ (Nat.le_refl _)]
structure St (S:ByteArray) (T:List Tk) (k b f:Nat):Prop where
 told:Told (whl S) T b f
 ms:MS (whl S) b (whl S).size k
theorem St.zero:St ByteArray.empty [] 0 0 0:=by
 have e:whl ByteArray.empty=ByteArray.empty:=by
  have h:=wh_bd ByteArray.empty
  have hz:ByteArray.empty.size=0:=rfl
  refine by8_ext _ _ (by rw [whl_size,hz];omega) (fun j hj=>by rw [whl_size] at hj;omega)
 refine ⟨.nil,.none ?_⟩
 rw [e]
 rfl
theorem St.feed {S:ByteArray}{T:List Tk}{k b f:Nat}(h:St S T k b f) (x:ByteArray):Told (whl (S++x)) T b f∧MS (whl (S++x)) b (whl S).size k:=by
 rw [whl_join]
 exact ⟨h.told.more (bgs_join S x),h.ms.more (bgs_join S x) (Nat.le_refl _)⟩
theorem St.close {S:ByteArray}{T:List Tk}{k b f:Nat}(h:St S T k b f):Told S T b f∧MS S b (whl S).size k:=by
 have e:=whl_opE S ByteArray.empty
 rw [app_empty,app_empty] at e
 have h1:=h.told.more (bgs_open S)
 have h2:=h.ms.more (bgs_open S) (Nat.le_refl _)
 rw [←e] at h1 h2
 exact ⟨h1,h2⟩
theorem pL_first (s c:ByteArray) (a:Nat) (h:a≤s.size):pL (s++c) a=pL s a∧pC (s++c) a=pC s a:=by
 unfold pL pC
 rw [ext_first s c 0 a h]
 exact ⟨rfl,rfl⟩
theorem tv_first (s c:ByteArray) (t:Tk) (h1:t.a≤s.size) (h2:t.e≤s.size):tv (s++c) t=tv s t:=by
 unfold tv
 rw [ext_first s c _ _ h2,(pL_first s c _ h1).1,(pL_first s c _ h1).2]
theorem ixb:∀l:List UInt8,(Lib.indexByte l 10=-1∧∀k:Nat,k<l.length→l[k]?≠some (10:UInt8))∨∃j:Nat,Lib.indexByte l 10=(j:Int)∧j<l.length∧l[j]?=some (10:UInt8)∧∀k,k<j→l[k]?≠some (10:UInt8)
 |[]=>.inl ⟨rfl,fun k h=>by simp at h⟩
 |b :: l=>by
  unfold Lib.indexByte
  by_cases hb:b=10
  ·exact .inr ⟨0,by simp [hb],by simp,by simp [hb],fun k h=>by omega⟩
  ·have hb':(b == (10:UInt8))=false:=by simpa using hb
   rw [hb']
   rcases ixb l with ⟨h1,h2⟩|⟨j,h1,h2,h3,h4⟩
   ·left
    refine ⟨by simp [h1],fun k hk=>?_⟩
    cases k with
    |zero=>simpa using hb
    |succ k=>simp only [List.getElem?_cons_succ];exact h2 k (by simpa using hk)
   ·right
    refine ⟨j+1,?_,by simp;omega,by simpa using h3,fun k hk=>?_⟩
    ·have:¬((j:Int)=-1):=by omega
     simp [h1,this]
    ·cases k with
     |zero=>simpa using hb
     |succ k=>simp only [List.getElem?_cons_succ];exact h4 k (by omega)
theorem by8_list (s:ByteArray) (k:Nat) (h:k<s.size):by8 s k=10↔s.data.toList[k]?=some (10:UInt8):=by
 have hz:k<s.data.size:=h
 have e:s.get! k=s.data.toList[k]?.getD default:=by
  show s.data[k]! = _
  rw [Array.getElem!_eq_getD,Array.getD_eq_getD_getElem?,Array.getElem?_toList]
 unfold by8
 rw [e,Array.getElem?_toList,Array.getElem?_eq_getElem hz]
 simp
 constructor
 ·intro h;exact UInt8.toNat_inj.1 h
 ·intro h;rw [h];rfl
def nlI (r:ByteArray):Int:=if nl r 0<r.size then (nl r 0:Int) else -1
theorem index_nl (r:ByteArray):Lib.indexByte r.data.toList 10=nlI r:=by
 have hz:r.data.toList.length=r.size:=by simp
 rcases ixb r.data.toList with ⟨h1,h2⟩|⟨j,h1,h2,h3,h4⟩
 ·have e:nl r 0=r.size:=nl_eq r 0 r.size (Nat.zero_le _) (Nat.le_refl _) (fun k _ hk=>fun hc=>h2 k (by omega) ((by8_list r k hk).1 hc)) (.inl rfl)
  rw [h1];unfold nlI;rw [if_neg (by omega)]
 ·have e:nl r 0=j:=nl_eq r 0 j (Nat.zero_le _) (by omega) (fun k _ hk=>fun hc=>h4 k hk ((by8_list r k (by omega)).1 hc)) (.inr ((by8_list r j (by omega)).2 h3))
  rw [h1];unfold nlI;rw [if_pos (by omega),e]
set_option maxRecDepth 100000 in
set_option maxHeartbeats 400000 in
theorem ixbyte_any (s:ByteArray) (w:World) :
  Calls Tryz.prog 172 #[.string s,.int .u8 10] w fun e w'=>e=.returned (.int .i64 (nlI s))∧w'=w:=by
 go_enter Tryz.func172,Tryz.ntmps172
 go_wp2
 rw [run_callFunc_extern Tryz.func190 (by kernel_rfl) (by kernel_rfl) (by kernel_rfl) (e:=Extern.BytealgIndexByte.indexByte) (by kernel_rfl),Lib.run_indexByteString]
 simp only [Result.andThen]
 rw [Oper.upon_value]
 go_wp2
 go_ret
 exact ⟨by rw [←index_nl];rfl,rfl⟩
set_option maxRecDepth 100000 in
set_option maxHeartbeats 1000000 in
theorem index_any (s:ByteArray) (w:World) :
  Calls Tryz.prog 191 #[.string s,.string ⟨#[10]⟩] w fun e w'=>e=.returned (.int .i64 (nlI s))∧w'=w:=by
 go_enter Tryz.func191,Tryz.ntmps191
 go_wp2_with (go_at_call 172;refine (ixbyte_any _ _).mono ?_;rintro e w' ⟨rfl,rfl⟩)
 ·have h:([(10:UInt8)] == s.toList)=true:=by assumption
  have e:s.data.toList=[10]:=by rw [←Lib.toList_data];exact (beq_iff_eq.1 h).symm
  have e2:nlI s=0:=by rw [←index_nl,e];rfl
  go_ret
  exact ⟨by rw [e2];rfl,rfl⟩
 ·go_ret
  exact ⟨rfl,rfl⟩
def cutL (r:ByteArray):ByteArray:=r.extract 0 (nl r 0)
def cutR (r:ByteArray):ByteArray:=if nl r 0<r.size then r.extract (nl r 0+1) r.size else ⟨#[]⟩
def cutB (r:ByteArray):Bool:=decide (nl r 0<r.size)
set_option maxHeartbeats 1000000 in
theorem slcut_any (s:ByteArray) (w:World) (hs:s.size≤maxLen) :
  Calls Tryz.prog 173 #[.string s,.string ⟨#[10]⟩] w fun e w'=>e=.returned (.tuple #[.string (cutL s),.string (cutR s),.bool (cutB s)])∧Below w.heap.size w w':=by
 unfold maxLen at hs
 have hn:=nl_facts s 0 (Nat.zero_le _)
 by_cases h:nl s 0<s.size
 ·have Hi:Hid (nlI s=(nl s 0:Int)):=by show _=_;unfold nlI;rw [if_pos h]
  have HL:Hid (cutL s=s.extract 0 (nl s 0)):=rfl
  have HR:Hid (cutR s=s.extract (nl s 0+1) s.size):=by show _=_;unfold cutR;rw [if_pos h]
  have HB:Hid (cutB s=true):=by show _=_;unfold cutB;simp [h]
  obtain ⟨n,hn'⟩:∃n,nl s 0=n:=⟨_,rfl⟩
  rw [hn'] at Hi HL HR hn h
  clear hn'
  go_enter Tryz.func173,Tryz.ntmps173
  go_wp2_with (go_at_call 191;refine (index_any _ _).mono ?_;rintro e w' ⟨rfl,rfl⟩;rw [Hi.out])
  go_region
  go_wp2
  go_ret3
  exact ⟨by rw [HL.out,HR.out,HB.out];rfl,(Below.refl _ _).drew⟩
 ·have Hi:Hid (nlI s=-1):=by show _=_;unfold nlI;rw [if_neg h]
  have HL:Hid (cutL s=s):=by show _=_;unfold cutL;rw [show nl s 0=s.size by omega,extract_all]
  have HR:Hid (cutR s=⟨#[]⟩):=by show _=_;unfold cutR;rw [if_neg h]
  have HB:Hid (cutB s=false):=by show _=_;unfold cutB;simp [h]
  clear hn h
  go_enter Tryz.func173,Tryz.ntmps173
  go_wp2_with (go_at_call 191;refine (index_any _ _).mono ?_;rintro e w' ⟨rfl,rfl⟩;rw [Hi.out])
  go_ret3
  exact ⟨by rw [HL.out,HR.out,HB.out];rfl,Below.refl _ _⟩
set_option maxHeartbeats 1000000 in
theorem cut_any (s:ByteArray) (w:World) (hs:s.size≤maxLen) :
  Calls Tryz.prog 144 #[.string s,.string ⟨#[10]⟩] w fun e w'=>e=.returned (.tuple #[.string (cutL s),.string (cutR s),.bool (cutB s)])∧Below w.heap.size w w':=by
 go_enter Tryz.func144,Tryz.ntmps144
 go_wp2_with (go_at_call 173;refine (slcut_any _ _ hs).mono ?_;rintro e w' ⟨rfl,hb⟩)
 go_ret3
 exact ⟨rfl,hb⟩
set_option maxHeartbeats 1000000 in
theorem lines_any (s:ByteArray) (w:World) :
  Calls Tryz.prog 117 #[.string s] w fun e w'=>e=.returned (.func (.func 143) #[] #[.pointer (some ⟨w.heap.size,0,none⟩)])∧w'=w.alloc (.cells #[.string s] 9):=by
 have hmf:∀(fn:Fn) (first cap:Array Value) (w:World),(Instr.makeFunc fn first cap).run Tryz.prog w=.ok (.func fn first cap) w:=fun _ _ _ _=>rfl
 go_enter Tryz.func117,Tryz.ntmps117
 go_wp2
 go_ret
 exact ⟨rfl,rfl⟩
end Go.Proofs.YtkigadnkclkopaaGreatDoor.Lx
