import Derived.Test.YtkigadnkclkopaaGreatDoorM04
set_option linter.unusedVariables false
set_option linter.unusedSimpArgs false
namespace Go.Proofs.YtkigadnkclkopaaGreatDoor.Lx
open Go.RowKit
theorem run_upto {g g':Nat→Nat→Rd}{z z' y:Nat}(hg:GoesOn g z) (hg':GoesOn g' z') (hy:y≤z') (hout:∀b m p,g b m=.out p 0→b≤p) (h:∀b k,b<y→g' b k=g b k) (p:Nat) (hp:p<y) :
  ∀(d a m:Nat),z-a≤d→a≤z→run g z a m=(p,0)→a≤p∧run g' z' a m=(p,0)
 |d,a,m,hd,ha,hr=>by
  cases e:g a m with
  |out q r=>
   rw [run_out ha e] at hr
   cases hr
   have h1:=hout a m p e
   exact ⟨h1,run_out (by omega) (by rw [h a m (by omega)];exact e)⟩
  |on n=>
   obtain ⟨h3,h4⟩:=hg a m n e
   rw [run_on hg ha e] at hr
   cases d with
   |zero=>omega
   |succ d=>
    obtain ⟨h5,h6⟩:=run_upto hg hg' hy hout h p hp d (a+n) (m+1) (by omega) h4 hr
    exact ⟨by omega,by rw [run_on hg' (by omega) (by rw [h a m (by omega)];exact e)];exact h6⟩
theorem row_out (s:ByteArray) (f k b m p:Nat) (h:gRow s f k b m=.out p 0):b≤p:=by
 unfold gRow at h
 repeat' split at h
 all_goals cases h
 all_goals exact Nat.le_refl _
theorem quo_out (s:ByteArray) (f q:Nat) (o:Bool) (b m p:Nat) (h:gQuo s f q o b m=.out p 0):b≤p:=by
 unfold gQuo at h
 repeat' split at h
 all_goals cases h
 all_goals omega
theorem com_out (s:ByteArray) (f:Nat) (o:Bool) (b m p:Nat) (h:gCom s f o b m=.out p 0):b≤p:=by
 unfold gCom at h
 repeat' split at h
 all_goals cases h
 all_goals omega
structure Bgs (b c:ByteArray) (y:Nat):Prop where
 le:y≤b.size
 same:∀i,i<y→Utf8.decode (b++c) i=Utf8.decode b i
 none:∀i,y≤i→i<b.size→tkBgn b i=0
theorem Bgs.chr {b c:ByteArray}{y:Nat}(h:Bgs b c y) (i:Nat) (hi:i<y):gd (b++c) i=gd b i∧dp (b++c) i=dp b i∧dw (b++c) i=dw b i:=by
 unfold gd dp dw
 rw [h.same i hi]
 exact ⟨rfl,rfl,rfl⟩
theorem Bgs.bgn {b c:ByteArray}{y:Nat}(h:Bgs b c y) (i:Nat) (hi:i<y) (h1:i+1<b.size):sg (b++c) i=sg b i∧tkBgn (b++c) i=tkBgn b i:=by
 have hz:=size_app b c
 have hs:sg (b++c) i=sg b i:=by
  unfold sg
  rw [find_congr signL (fun x hx=>?_)]
  have hx2:i+x.size≤b.size:=by rcases sign_ten x hx with h|⟨h,_⟩ <;> omega
  rw [pre_in (by omega),pre_in hx2,ext_first b c _ _ hx2]
 obtain ⟨g1,g2,g3⟩:=h.chr i hi
 refine ⟨hs,?_⟩
 unfold tkBgn
 rw [g1,g2,by8_first b c i (by omega),by8_first b c (i+1) h1,hs]
 have:(by8 b i=47∧i+1<(b++c).size∧by8 b (i+1)=47)↔(by8 b i=47∧i+1<b.size∧by8 b (i+1)=47):=by rw [hz];constructor <;> rintro ⟨h1,h2,h3⟩ <;> exact ⟨h1,by omega,h3⟩
 simp only [this]
theorem Bgs.fin {b c:ByteArray}{y:Nat}(h:Bgs b c y) (i k p:Nat) (hi:i<y) (h1:i+1<b.size) (hp:p<y) (he:tkEnd b i k=(p,0)):tkEnd (b++c) i k=(p,0):=by
 have hz:=size_app b c
 have hl:=h.le
 have hQ:∀q o,run (gQuo b i q o) b.size (i+1) 0=(p,0)→run (gQuo (b++c) i q o) (b++c).size (i+1) 0=(p,0):=fun q o hr=>
  (run_upto (gQuo_on b i q o) (gQuo_on (b++c) i q o) (y:=y) (by omega) (quo_out b i q o) (fun d m hd=>by
   obtain ⟨g1,g2,g3⟩:=h.chr d hd
   unfold gQuo tkCtl
   rw [g1,g2,g3,by8_first b c d (by omega)]
   by_cases h2:by8 b d=10
   ·rw [if_pos (.inr h2),if_pos (.inr h2)]
   ·rw [if_neg (show ¬((b++c).size≤d∨by8 b d=10) by omega),if_neg (show ¬(b.size≤d∨by8 b d=10) by omega)]) p hp _ (i+1) 0 (Nat.le_refl _) (by omega) hr).2
 have hC:∀o,run (gCom b i o) b.size i 0=(p,0)→run (gCom (b++c) i o) (b++c).size i 0=(p,0):=fun o hr=>
  (run_upto (gCom_on b i o) (gCom_on (b++c) i o) (y:=y) (by omega) (com_out b i o) (fun d m hd=>by
   unfold gCom
   rw [if_neg (show ¬(b++c).size≤d by omega),if_neg (show ¬b.size≤d by omega),by8_first b c d (by omega)]) p hp _ i 0 (Nat.le_refl _) (by omega) hr).2
 have hR:run (gRow b i k) b.size i 0=(p,0)→run (gRow (b++c) i k) (b++c).size i 0=(p,0):=fun hr=>
  (run_upto (gRow_on b i k) (gRow_on (b++c) i k) (y:=y) (by omega) (row_out b i k) (fun d m hd=>by
   obtain ⟨g1,g2,g3⟩:=h.chr d hd
   unfold gRow
   rw [if_neg (show ¬(b++c).size≤d by omega),if_neg (show ¬b.size≤d by omega),g1,g2,g3,by8_first b c d (by omega)]) p hp _ i 0 (Nat.le_refl _) (by omega) hr).2
 unfold tkEnd at he ⊢
 rw [(h.bgn i hi h1).1]
 by_cases k4:k=4
 ·rw [if_pos k4] at he ⊢;exact hQ _ _ he
 ·rw [if_neg k4] at he ⊢
  by_cases k5:k=5
  ·rw [if_pos k5] at he ⊢;exact hQ _ _ he
  ·rw [if_neg k5] at he ⊢
   by_cases k7:k=7
   ·rw [if_pos k7] at he ⊢;exact hC _ he
   ·rw [if_neg k7] at he ⊢
    by_cases k8:k=8
    ·rw [if_pos k8] at he ⊢;exact hC _ he
    ·rw [if_neg k8] at he ⊢
     by_cases k6:k=6
     ·rw [if_pos k6] at he ⊢;exact he
     ·rw [if_neg k6] at he ⊢;exact hR he
theorem opn_bytes (t:ByteArray) (h0:0<t.size) (h:opn t=true):gd t 0=false∧128≤by8 t 0∧∀j,1≤j→j<t.size→by8 t j / 64=2:=by
 have hx:∃x,gd (t++x) 0=true∧t.size<dw (t++x) 0:=by
  unfold opn at h
  rw [Bool.or_eq_true] at h
  rcases h with h|h <;> (unfold goB at h;rw [Bool.and_eq_true] at h;exact ⟨_,h.1,of_decide_eq_true h.2⟩)
 obtain ⟨x,h1,h2⟩:=hx
 have hob:∀j,j<t.size→ob (t++x) j=ob t j:=fun j hj=>by rw [ob_app,if_pos hj]
 have hct:∀j,j<t.size→ct (ob (t++x) j)=true→by8 t j / 64=2:=fun j hj hc=>by
  rw [hob j hj] at hc
  unfold ob at hc
  rw [if_pos hj] at hc
  simpa [ct] using hc
 have hb0:by8 (t++x) 0=by8 t 0:=by rw [by8_app,if_pos h0]
 have hD:Utf8.decode (t++x) 0=D (by8 t 0) (ob (t++x) 1) (ob (t++x) 2) (ob (t++x) 3):=by rw [decode_eq,hb0]
 refine ⟨?_,?_⟩
 ·cases hg:gd t 0 with
  |false=>rfl
  |true=>
   have h3:=(gd_iff t 0).1 hg
   rw [decode_eq] at h3
   have hn:∀j,ob t j=ob (t++x) j∨ob t j=none:=fun j=>by
    by_cases hj:j<t.size
    ·exact .inl (hob j hj).symm
    ·right;unfold ob;rw [if_neg hj]
   have h4:=D_more (by8 t 0) (hn 1) (hn 2) (hn 3) h3
   have h5:=(dw_facts t 0 h0).2.2
   have h6:dw (t++x) 0=dw t 0:=by unfold dw;rw [hD,decode_eq t 0];exact congrArg Prod.snd h4
   omega
 ·have h3:dw (t++x) 0=(D (by8 t 0) (ob (t++x) 1) (ob (t++x) 2) (ob (t++x) 3)).2:=by unfold dw;rw [hD]
  have h4:=D_le4 (by8 t 0) (ob (t++x) 1) (ob (t++x) 2) (ob (t++x) 3)
  rcases one3 (dw (t++x) 0) (by omega) (by omega) with e|e|e
  ·have h5:=(D_w2 _ _ _ _).1 (h3.symm.trans e)
   exact ⟨by omega,fun j hj1 hj=>by omega⟩
  ·have h5:=(D_w3 _ _ _ _).1 (h3.symm.trans e)
   refine ⟨by omega,fun j hj1 hj=>?_⟩
   obtain rfl:j=1:=by omega
   exact hct 1 hj h5.2.1
  ·have h5:=(D_w4 _ _ _ _).1 (h3.symm.trans e)
   refine ⟨by omega,fun j hj1 hj=>?_⟩
   rcases (show j=1∨j=2 by omega) with rfl|rfl
   ·exact hct 1 hj h5.2.1
   ·exact hct 2 hj h5.2.2.1
theorem run_ahead {g g':Nat→Nat→Rd}{z z' y:Nat}(hg:GoesOn g z) (hg':GoesOn g' z') (hy:z≤z') (h:∀b k,b<y→g' b k=g b k) (I:Nat→Prop) (p e:Nat)
  (hI:∀b m n,I b→g b m=.on n→b<y∧I (b+n)) (hO:∀b m,I b→g b m=.out p e→b<y) :
  ∀(d a m:Nat),z-a≤d→a≤z→I a→run g z a m=(p,e)→run g' z' a m=(p,e)
 |d,a,m,hd,ha,hi,hr=>by
  cases e':g a m with
  |out q r=>
   rw [run_out ha e'] at hr
   cases hr
   exact run_out (by omega) (by rw [h a m (hO a m hi e')];exact e')
  |on n=>
   obtain ⟨h3,h4⟩:=hg a m n e'
   obtain ⟨h5,h6⟩:=hI a m n hi e'
   rw [run_on hg ha e'] at hr
   cases d with
   |zero=>omega
   |succ d=>
    rw [run_on hg' (by omega) (by rw [h a m h5];exact e')]
    exact run_ahead hg hg' hy h I p e hI hO d (a+n) (m+1) (by omega) h4 h6 hr
theorem quo_same {b c:ByteArray}(h:Bgs b c b.size) (f q:Nat) (o:Bool) (d m:Nat) (hd:d<b.size):gQuo (b++c) f q o d m=gQuo b f q o d m:=by
 have hz:=size_app b c
 obtain ⟨g1,g2,g3⟩:=h.chr d hd
 unfold gQuo tkCtl
 rw [g1,g2,g3,by8_first b c d (by omega)]
 by_cases h2:by8 b d=10
 ·rw [if_pos (.inr h2),if_pos (.inr h2)]
 ·rw [if_neg (show ¬((b++c).size≤d∨by8 b d=10) by omega),if_neg (show ¬(b.size≤d∨by8 b d=10) by omega)]
theorem com_same (b c:ByteArray) (f:Nat) (o:Bool) (d m:Nat) (hd:d<b.size):gCom (b++c) f o d m=gCom b f o d m:=by
 have hz:=size_app b c
 unfold gCom
 rw [if_neg (show ¬(b++c).size≤d by omega),if_neg (show ¬b.size≤d by omega),by8_first b c d (by omega)]
theorem row_same {b c:ByteArray}(h:Bgs b c b.size) (f k:Nat) (d m:Nat) (hd:d<b.size):gRow (b++c) f k d m=gRow b f k d m:=by
 have hz:=size_app b c
 obtain ⟨g1,g2,g3⟩:=h.chr d hd
 unfold gRow
 rw [if_neg (show ¬(b++c).size≤d by omega),if_neg (show ¬b.size≤d by omega),g1,g2,g3,by8_first b c d (by omega)]
theorem quo_on_lt {b:ByteArray}{f q:Nat}{o:Bool}{d m n:Nat}(h:gQuo b f q o d m=.on n):d<b.size∧by8 b d≠10∧n=dw b d:=by
 unfold gQuo at h
 split at h
 ·cases h
 ·rename_i h1
  split at h
  ·cases h
  ·split at h
   ·cases h
   ·split at h
    ·cases h
    ·cases h;exact ⟨by omega,by omega,rfl⟩
theorem com_on_lt {b:ByteArray}{f:Nat}{o:Bool}{d m n:Nat}(h:gCom b f o d m=.on n):d<b.size:=by
 unfold gCom at h
 split at h
 ·split at h <;> cases h
 ·omega
theorem row_on_lt {b:ByteArray}{f k:Nat}{d m n:Nat}(h:gRow b f k d m=.on n):d<b.size:=by
 unfold gRow at h
 split at h
 ·cases h
 ·omega
theorem quo_sure {b c:ByteArray}(h:Bgs b c b.size) (f q:Nat) (o:Bool) (p e:Nat) (hf:f<b.size) (h10:by8 b f≠10) (he:e≠101∨∃j,f≤j∧j<b.size∧by8 b j=10)
  (hr:run (gQuo b f q o) b.size (f+1) 0=(p,e)):run (gQuo (b++c) f q o) (b++c).size (f+1) 0=(p,e):=by
 have hz:=size_app b c
 refine run_ahead (gQuo_on b f q o) (gQuo_on (b++c) f q o) (y:=b.size) (by omega) (fun d k hd=>quo_same h f q o d k hd) (fun d=>f<d∧∀j,f≤j→j<d→by8 b j≠10) p e ?_ ?_ _ (f+1) 0 (Nat.le_refl _) (by omega) ⟨by omega,fun j j1 j2=>by rw [show j=f by omega];exact h10⟩ hr
 ·rintro d m n ⟨hd,hI⟩ hx
  obtain ⟨h1,h2,rfl⟩:=quo_on_lt hx
  refine ⟨h1,by omega,fun j j1 j2=>?_⟩
  rcases Nat.lt_or_ge j d with h3|h3
  ·exact hI j j1 h3
  ·by_cases h4:j=d
   ·rw [h4];exact h2
   ·have:=(dec_inner b d (j-d) (by omega) (by omega)).2
    rw [show d+(j-d)=j by omega] at this
    omega
 ·rintro d m ⟨hd,hI⟩ hx
  apply Classical.byContradiction
  intro hn
  unfold gQuo at hx
  rw [if_pos (.inl (by omega))] at hx
  cases hx
  rcases he with he|⟨j,j1,j2,j3⟩
  ·exact he rfl
  ·exact hI j j1 (by omega) j3
theorem com_sure (b c:ByteArray) (f:Nat) (o:Bool) (p e:Nat) (hf:f<b.size) (he:e=103∨(e=0∧(o=true∨p<b.size))) (hr:run (gCom b f o) b.size f 0=(p,e)):run (gCom (b++c) f o) (b++c).size f 0=(p,e):=by
 have hz:=size_app b c
 refine run_ahead (gCom_on b f o) (gCom_on (b++c) f o) (y:=b.size) (by omega) (fun d k hd=>com_same b c f o d k hd) (fun d=>True) p e (fun d m n _ hx=>⟨com_on_lt hx,trivial⟩) ?_ _ f 0 (Nat.le_refl _) (by omega) trivial hr
 intro d m _ hx
 apply Classical.byContradiction
 intro hn
 unfold gCom at hx
 rw [if_pos (by omega)] at hx
 by_cases ho:o=true
 ·rw [if_pos ho] at hx
  cases hx
  rcases he with he|⟨he,_⟩
  ·cases he
  ·cases he
 ·rw [if_neg ho] at hx
  cases hx
  rcases he with he|⟨_,he|he⟩
  ·cases he
  ·exact ho he
  ·omega
theorem row_sure {b c:ByteArray}(h:Bgs b c b.size) (f k:Nat) (p e:Nat) (hf:f<b.size) (he:e=103∨p<b.size) (hr:run (gRow b f k) b.size f 0=(p,e)):run (gRow (b++c) f k) (b++c).size f 0=(p,e):=by
 have hz:=size_app b c
 refine run_ahead (gRow_on b f k) (gRow_on (b++c) f k) (y:=b.size) (by omega) (fun d m hd=>row_same h f k d m hd) (fun d=>True) p e (fun d m n _ hx=>⟨row_on_lt hx,trivial⟩) ?_ _ f 0 (Nat.le_refl _) (by omega) trivial hr
 intro d m _ hx
 apply Classical.byContradiction
 intro hn
 unfold gRow at hx
 rw [if_pos (by omega)] at hx
 cases hx
 rcases he with he|he
 ·cases he
 ·omega
theorem sign_one:∀x∈signL,∃y∈signL,y.size=1∧by8 y 0=by8 x 0:=by decide
theorem sg_none (b c:ByteArray) (i:Nat) (hi:i<b.size) (h:(sg b i).size=0):(sg (b++c) i).size=0:=by
 apply Classical.byContradiction
 intro hne
 obtain ⟨g1,g2,g3⟩:=sg_in (b++c) i hne
 obtain ⟨y,y1,y2,y3⟩:=sign_one _ g3
 have hz:0<(sg (b++c) i).size:=by omega
 have e1:by8 y 0=by8 b i:=by
  rw [y3,←g2,by8_ext' (b++c) i _ 0 (by omega),Nat.add_zero,by8_first b c i hi]
 have hp:pre b i y=true:=by
  unfold pre
  refine decide_eq_true ⟨by omega,?_⟩
  refine by8_ext _ _ (by rw [size_ext b i _ (by omega)];omega) (fun j hj=>?_)
  rw [size_ext b i _ (by omega)] at hj
  obtain rfl:j=0:=by omega
  rw [by8_ext' b i _ 0 (by omega),Nat.add_zero,e1]
 have:(signL.find? (pre b i)).isSome=true:=List.find?_isSome.2 ⟨y,y1,hp⟩
 obtain ⟨x,hx⟩:=Option.isSome_iff_exists.1 this
 have hxm:=List.mem_of_find?_eq_some hx
 unfold sg at h
 rw [hx] at h
 have h9:x.size=0:=h
 rcases sign_ten x hxm with h8|⟨h8,_⟩ <;> omega
theorem bgn_sure {b c:ByteArray}(h:Bgs b c b.size) (i:Nat) (hi:i<b.size) (hk:i+1<b.size∨(tkBgn b i≠6∧tkBgn b i≠7)):tkBgn (b++c) i=tkBgn b i:=by
 by_cases h1:i+1<b.size
 ·exact (h.bgn i hi h1).2
 ·rcases hk with hk|⟨hk6,hk7⟩
  ·exact absurd hk h1
  ·obtain ⟨g1,g2,g3⟩:=h.chr i hi
   unfold tkBgn at hk6 hk7 ⊢
   rw [g1,g2,by8_first b c i hi]
   by_cases c1:(gd b i && lt' (dp b i))=true
   ·rw [if_pos c1,if_pos c1]
   ·rw [if_neg c1] at hk6 hk7 ⊢
    rw [if_neg c1]
    by_cases c2:tkDg (by8 b i)=true
    ·rw [if_pos c2,if_pos c2]
    ·rw [if_neg c2] at hk6 hk7 ⊢
     rw [if_neg c2]
     by_cases c3:by8 b i=34
     ·rw [if_pos c3,if_pos c3]
     ·rw [if_neg c3] at hk6 hk7 ⊢
      rw [if_neg c3]
      by_cases c4:by8 b i=39
      ·rw [if_pos c4,if_pos c4]
      ·rw [if_neg c4] at hk6 hk7 ⊢
       rw [if_neg c4]
       have c5:¬(by8 b i=47∧i+1<b.size∧by8 b (i+1)=47):=fun h=>h1 h.2.1
       rw [if_neg c5] at hk6 hk7 ⊢
       by_cases c6:by8 b i=123
       ·rw [if_neg (fun h=>by omega),if_pos c6,if_pos c6]
       ·rw [if_neg c6] at hk6 hk7 ⊢
        have c7:¬(sg b i).size≠0:=fun h=>hk6 (if_pos h)
        rw [if_neg c7]
        have c8:by8 b i≠47:=by
         intro h47
         apply c7
         have hp:pre b i ⟨#[47]⟩=true:=by
          unfold pre
          refine decide_eq_true ⟨by show i+1≤_;omega,?_⟩
          refine by8_ext _ _ (by rw [size_ext b i _ (by show i+1≤_;omega)];show i+1-i=1;omega) (fun j hj=>?_)
          rw [size_ext b i _ (by show i+1≤_;omega)] at hj
          have hj':j<i+1-i:=hj
          obtain rfl:j=0:=by omega
          rw [by8_ext' b i _ 0 (by show i+0<i+1;omega),Nat.add_zero,h47]
          rfl
         have:(signL.find? (pre b i)).isSome=true:=List.find?_isSome.2 ⟨_,by unfold signL;repeat (first|exact List.mem_cons_self ..|apply List.mem_cons_of_mem),hp⟩
         obtain ⟨x,hx⟩:=Option.isSome_iff_exists.1 this
         have hxm:=List.mem_of_find?_eq_some hx
         unfold sg
         rw [hx]
         show x.size≠0
         rcases sign_ten x hxm with h8|⟨h8,_⟩ <;> omega
        rw [if_neg (fun h=>c8 h.1),if_neg c6,if_neg (by rw [sg_none b c i hi (by omega)];simp)]
def lfAt (s:ByteArray) (a:Nat):Prop:=∃j,a≤j∧j<s.size∧by8 s j=10
def Early (s:ByteArray) (e a:Nat):Prop:=e=101∧(by8 s a=123∨¬lfAt s a)
def sureK (s:ByteArray) (t:Tk):Prop:=t.k=4∨t.k=5∨t.k=8∨(t.k=7∧lfAt s t.e)∨(t.k≠7∧t.e<s.size)
theorem com_err (b:ByteArray) (f:Nat) (o:Bool) (p e:Nat) (hf:f≤b.size) (hr:run (gCom b f o) b.size f 0=(p,e)):e=0∨e=103∨(e=101∧o=true):=by
 have:=run_ind (gCom_on b f o) (fun _ _=>True) (fun r=>r.2=0∨r.2=103∨(r.2=101∧o=true)) (by
  intro b' m' x e hb' hI hx
  unfold gCom at hx
  split at hx
  ·by_cases ho:o=true
   ·rw [if_pos ho] at hx;cases hx;exact .inr (.inr ⟨rfl,ho⟩)
   ·rw [if_neg ho] at hx;cases hx;exact .inl rfl
  ·split at hx
   ·cases hx;exact .inl rfl
   ·split at hx
    ·cases hx;exact .inr (.inl rfl)
    ·split at hx
     ·cases hx;exact .inl rfl
     ·cases hx) (by intros;trivial) _ f 0 (Nat.le_refl _) hf trivial
 rw [hr] at this
 exact this
theorem row_err (b:ByteArray) (f k:Nat) (p e:Nat) (hf:f≤b.size) (hr:run (gRow b f k) b.size f 0=(p,e)):e=0∨e=103:=by
 have:=run_ind (gRow_on b f k) (fun _ _=>True) (fun r=>r.2=0∨r.2=103) (by
  intro b' m' x e hb' hI hx
  unfold gRow at hx
  split at hx
  ·cases hx;exact .inl rfl
  ·split at hx
   ·cases hx;exact .inl rfl
   ·split at hx
    ·cases hx;exact .inr rfl
    ·cases hx) (by intros;trivial) _ f 0 (Nat.le_refl _) hf trivial
 rw [hr] at this
 exact this
theorem bgn_byte (b:ByteArray) (i:Nat):(tkBgn b i=4→by8 b i=34)∧(tkBgn b i=5→by8 b i=39)∧(tkBgn b i=8→by8 b i=123)∧(tkBgn b i=7→i+1<b.size):=by
 unfold tkBgn
 repeat' split
 all_goals (refine ⟨fun h=>?_,fun h=>?_,fun h=>?_,fun h=>?_⟩ <;> first|(cases h;done)|assumption|(rename_i h1;exact h1.2.1))
theorem tok_sure {b c:ByteArray}(h:Bgs b c b.size) (i p:Nat) (hi:i<b.size) (h3:tkBgn b i≠0) (hp:tkEnd b i (tkBgn b i)=(p,0)) (hs:p<b.size∨tkBgn b i=4∨tkBgn b i=5∨tkBgn b i=8) :
  tkBgn (b++c) i=tkBgn b i∧tkEnd (b++c) i (tkBgn b i)=(p,0):=by
 have h5:=tkEnd_ok b i (tkBgn b i) p hi rfl h3 hp
 rcases hs with hs|hs
 ·exact ⟨(h.bgn i hi (by omega)).2,h.fin i _ p hi (by omega) hs hp⟩
 ·obtain ⟨e4,e5,e8,e7⟩:=bgn_byte b i
  refine ⟨bgn_sure h i hi (.inr (by omega)),?_⟩
  rcases hs with hs|hs|hs
  ·have:=e4 hs
   rw [hs] at hp ⊢
   unfold tkEnd at hp ⊢
   rw [if_pos rfl] at hp ⊢
   exact quo_sure h i 34 false p 0 hi (by omega) (.inl (by decide)) hp
  ·have:=e5 hs
   rw [hs] at hp ⊢
   unfold tkEnd at hp ⊢
   rw [if_neg (by decide),if_pos rfl] at hp ⊢
   exact quo_sure h i 39 true p 0 hi (by omega) (.inl (by decide)) hp
  ·rw [hs] at hp ⊢
   unfold tkEnd at hp ⊢
   rw [if_neg (by decide),if_neg (by decide),if_neg (by decide),if_pos rfl] at hp ⊢
   exact com_sure b c i true p 0 hi (.inr ⟨rfl,.inl rfl⟩) hp
theorem err_sure {b c:ByteArray}(h:Bgs b c b.size) (i q e:Nat) (hi:i<b.size) (h3:tkBgn b i≠0) (hp:tkEnd b i (tkBgn b i)=(q,e)) (he:e≠0) (hn:¬Early b e q) :
  tkBgn (b++c) i=tkBgn b i∧tkEnd (b++c) i (tkBgn b i)=(q,e):=by
 obtain ⟨e4,e5,e8,e7⟩:=bgn_byte b i
 have hq:=end_err (p:=q) (e:=e) hi hp he
 obtain ⟨k,hk⟩:∃k,tkBgn b i=k:=⟨_,rfl⟩
 rw [hk] at hp e4 e5 e8 e7 h3 ⊢
 have hk6:k≠6:=by
  intro e
  rw [e] at hp
  unfold tkEnd at hp
  rw [if_neg (by decide),if_neg (by decide),if_neg (by decide),if_neg (by decide),if_pos rfl] at hp
  cases hp
  exact he rfl
 refine ⟨by rw [←hk];exact bgn_sure h i hi (by
  by_cases h7:k=7
  ·exact .inl (e7 h7)
  ·exact .inr (by rw [hk];exact ⟨hk6,h7⟩)),?_⟩
 have hQ:by8 b i≠10→by8 b i≠123→e≠101∨∃j,i≤j∧j<b.size∧by8 b j=10:=by
  intro _ h123
  by_cases h1:e=101
  ·right
   have hqi:q=i:=by
    rcases hq with ⟨h9,_⟩|⟨h9,_⟩
    ·exact h9
    ·omega
   apply Classical.byContradiction
   intro h2
   exact hn ⟨h1,.inr (by rw [hqi];exact h2)⟩
  ·exact .inl h1
 unfold tkEnd at hp ⊢
 by_cases k4:k=4
 ·have:=e4 k4
  rw [if_pos k4] at hp ⊢
  exact quo_sure h i 34 false q e hi (by omega) (hQ (by omega) (by omega)) hp
 ·rw [if_neg k4] at hp ⊢
  by_cases k5:k=5
  ·have:=e5 k5
   rw [if_pos k5] at hp ⊢
   exact quo_sure h i 39 true q e hi (by omega) (hQ (by omega) (by omega)) hp
  ·rw [if_neg k5] at hp ⊢
   by_cases k7:k=7
   ·rw [if_pos k7] at hp ⊢
    rcases com_err b i false q e (by omega) hp with h1|h1|⟨_,h1⟩
    ·exact absurd h1 he
    ·exact com_sure b c i false q e hi (.inl h1) hp
    ·cases h1
   ·rw [if_neg k7] at hp ⊢
    by_cases k8:k=8
    ·rw [if_pos k8] at hp ⊢
     rcases com_err b i true q e (by omega) hp with h1|h1|⟨h1,_⟩
     ·exact absurd h1 he
     ·exact com_sure b c i true q e hi (.inl h1) hp
     ·exfalso
      have hqi:q=i:=by
       rcases hq with ⟨h9,_⟩|⟨h9,_⟩
       ·exact h9
       ·omega
      exact hn ⟨h1,.inl (by rw [hqi];exact e8 k8)⟩
    ·rw [if_neg k8] at hp ⊢
     rw [if_neg hk6] at hp ⊢
     rcases row_err b i k q e (by omega) hp with h1|h1
     ·exact absurd h1 he
     ·exact row_sure h i k q e hi (.inl h1) hp
theorem fnd_sure {b c:ByteArray}(h:Bgs b c b.size):∀(d i f:Nat),b.size-i≤d →
  ((fnd b i f).2.1≠0→¬Early b (fnd b i f).2.1 (fnd b i f).2.2→fnd (b++c) i f=fnd b i f) ∧
  ((fnd b i f).2.1≠0→∃r,(fnd (b++c) i f).1=(fnd b i f).1++r) ∧
  ((fnd b i f).2.1=0→(∀t,(fnd b i f).1.getLast?=some t→sureK b t)→∃r,(fnd (b++c) i f).1=(fnd b i f).1++r)
 |d,i,f,hd=>by
  have hz:=size_app b c
  by_cases hi:i<b.size
  ·cases d with
   |zero=>omega
   |succ d=>
    have hS:=fnd_step (b++c) i f (by omega)
    rw [by8_first b c i hi] at hS
    rw [fnd_step b i f hi]
    by_cases h1:by8 b i=10
    ·rw [if_pos h1] at hS ⊢
     rw [hS];exact fnd_sure h d (i+1) (f+1) (by omega)
    ·rw [if_neg h1] at hS ⊢
     by_cases h2:tkBl (by8 b i)=true
     ·rw [if_pos h2] at hS ⊢
      rw [hS];exact fnd_sure h d (i+1) f (by omega)
     ·rw [if_neg h2] at hS ⊢
      by_cases h3:tkBgn b i=0
      ·rw [if_pos h3]
       have e:=bgn_sure (c:=c) h i hi (.inr (by omega))
       rw [e,if_pos h3] at hS
       refine ⟨fun _ _=>hS,fun _=>⟨[],by rw [hS];rfl⟩,fun h=>by cases h⟩
      ·rw [if_neg h3]
       by_cases h4:(tkEnd b i (tkBgn b i)).2≠0
       ·rw [if_pos h4]
        refine ⟨fun _ hn=>?_,fun _=>⟨_,rfl⟩,fun h=>absurd h h4⟩
        obtain ⟨x1,x2⟩:=err_sure (c:=c) h i (tkEnd b i (tkBgn b i)).1 (tkEnd b i (tkBgn b i)).2 hi h3 rfl h4 hn
        rw [x1,if_neg h3,x2] at hS
        dsimp only at hS
        rw [if_pos h4] at hS
        exact hS
       ·rw [if_neg h4]
        obtain ⟨p,hp⟩:∃p,tkEnd b i (tkBgn b i)=(p,0):=⟨_,Prod.ext rfl (by simpa using h4)⟩
        have h5:=tkEnd_ok b i (tkBgn b i) p hi rfl h3 hp
        rw [hp]
        obtain ⟨i1,i2,i3⟩:=fnd_sure h d p 0 (by omega)
        have key:(p<b.size∨tkBgn b i=4∨tkBgn b i=5∨tkBgn b i=8)→fnd (b++c) i f=(tkTok b (tkBgn b i) i p f :: (fnd (b++c) p 0).1,(fnd (b++c) p 0).2):=by
         intro hs
         obtain ⟨x1,x2⟩:=tok_sure (c:=c) h i p hi h3 hp hs
         rw [x1,if_neg h3,x2,if_neg (by simp),tok_first b c _ i p f h5.2] at hS
         exact hS
        have hE:(fnd b p 0).2.1≠0→p<b.size:=by
         intro h0
         apply Classical.byContradiction
         intro h9
         rw [fnd_end b p 0 (by omega)] at h0
         exact h0 rfl
        refine ⟨fun h0 hn=>?_,fun h0=>?_,fun h0 hl=>?_⟩
        ·rw [key (.inl (hE h0)),i1 h0 hn]
        ·obtain ⟨r,hr⟩:=i2 h0
         exact ⟨r,by rw [key (.inl (hE h0)),hr];rfl⟩
        ·have hs:p<b.size∨tkBgn b i=4∨tkBgn b i=5∨tkBgn b i=8:=by
          cases hr:(fnd b p 0).1 with
          |cons t l=>
           have h6:=fnd_toks b _ p 0 (Nat.le_refl _) t (by rw [hr];exact List.mem_cons_self ..)
           exact .inl (by omega)
          |nil=>
           have ht:=hl (tkTok b (tkBgn b i) i p f) (by show List.getLast? (_ :: (fnd b p 0).1)=_;rw [hr];rfl)
           unfold sureK tkTok at ht
           simp only at ht
           by_cases k7:tkBgn b i=7
           ·left
            have hk:¬(tkBgn b i=1∧ky (b.extract i p)=true):=fun h=>by omega
            rw [if_neg hk,if_pos k7] at ht
            rcases ht with ht|ht|ht|⟨_,j,j1,j2,j3⟩|⟨ht,_⟩
            ·omega
            ·omega
            ·omega
            ·apply Classical.byContradiction
             intro h9
             have:=tkTrim_gap b p j j1 (by omega)
             rw [j3] at this
             exact absurd this (by decide)
            ·exact absurd k7 ht
           ·rw [if_neg k7] at ht
            by_cases hk:tkBgn b i=1∧ky (b.extract i p)=true
            ·rw [if_pos hk] at ht
             omega
            ·rw [if_neg hk] at ht
             omega
         obtain ⟨r,hr⟩:=i3 h0 (fun t ht=>hl t (by
          show List.getLast? (_ :: (fnd b p 0).1)=_
          rw [List.getLast?_cons,ht];rfl))
         exact ⟨r,by rw [key hs,hr];rfl⟩
  ·rw [fnd_end b i f (by omega)]
   exact ⟨fun h=>absurd rfl h,fun h=>absurd rfl h,fun _ _=>⟨_,rfl⟩⟩
def whl (b:ByteArray):ByteArray:=b.extract 0 (wh b)
theorem whl_size (b:ByteArray):(whl b).size=wh b:=by unfold whl;rw [size_ext b 0 _ (wh_bd b).1];omega
theorem whl_app (b:ByteArray):b=whl b++b.extract (wh b) b.size:=by
 have hz:=(wh_bd b).1
 refine by8_ext _ _ (by rw [size_app,whl_size,size_ext b _ _ (Nat.le_refl _)];omega) (fun j hj=>?_)
 rw [by8_app,whl_size]
 split
 ·unfold whl;rw [by8_head b _ j (by assumption)]
 ·rw [by8_ext' b _ b.size _ (by omega)];congr 1;omega
theorem app_assoc (a b c:ByteArray):(a++b)++c=a++(b++c):=by
 refine by8_ext _ _ (by simp only [size_app];omega) (fun j hj=>?_)
 simp only [by8_app,size_app]
 by_cases h1:j<a.size
 ·rw [if_pos (by omega),if_pos h1,if_pos h1]
 ·rw [if_neg h1]
  by_cases h2:j<a.size+b.size
  ·rw [if_pos h2,if_neg h1,if_pos (by omega)]
  ·rw [if_neg h2]
   rw [if_neg (show ¬j-a.size<b.size by omega),show j-(a.size+b.size)=j-a.size-b.size by omega,if_neg h1]
theorem bgs_whl (b c:ByteArray):Bgs (whl b) (b.extract (wh b) b.size++c) (whl b).size:=by
 refine ⟨Nat.le_refl _,fun i hi=>?_,fun i h1 h2=>by omega⟩
 rw [whl_size] at hi
 rw [←app_assoc,←whl_app]
 exact dec_whole b c i hi
theorem whl_with (b c:ByteArray):b++c=whl b++(b.extract (wh b) b.size++c):=by rw [←app_assoc,←whl_app]
theorem err_first (b c:ByteArray) (h0:(scn (whl b)).2.1≠0) (hn:¬Early (whl b) (scn (whl b)).2.1 (scn (whl b)).2.2):scn (b++c)=scn (whl b):=by
 rw [whl_with b c]
 exact (fnd_sure (bgs_whl b c) (whl b).size 0 0 (by omega)).1 h0 hn
inductive Rch (g:Nat→Nat→Rd) (a m:Nat):Nat→Nat→Prop
 |refl:Rch g a m a m
 |step {p k n:Nat}:Rch g a m p k→g p k=.on n→Rch g a m (p+n) (k+1)
theorem Rch.same {g:Nat→Nat→Rd}{z a m p k:Nat}(h:Rch g a m p k) (hg:GoesOn g z) (ha:a≤z):a≤p∧p≤z∧run g z a m=run g z p k:=by
 induction h with
 |refl=>exact ⟨Nat.le_refl _,ha,rfl⟩
 |step _ h2 ih=>
  obtain ⟨i1,i2,i3⟩:=ih
  obtain ⟨h3,h4⟩:=hg _ _ _ h2
  exact ⟨by omega,h4,i3.trans (run_on hg i2 h2)⟩
theorem Rch.more {g g':Nat→Nat→Rd}{z y a m p k:Nat}(h:Rch g a m p k) (hg:GoesOn g z) (hp:p≤y) (hs:∀b j,b<y→g' b j=g b j):Rch g' a m p k:=by
 induction h with
 |refl=>exact .refl
 |step _ h2 ih=>
  obtain ⟨h3,h4⟩:=hg _ _ _ h2
  exact .step (ih (by omega)) (by rw [hs _ _ (by omega)];exact h2)
theorem Rch.inv {g:Nat→Nat→Rd}{a m p k:Nat}(I:Nat→Prop) (hI:∀b j n,I b→g b j=.on n→I (b+n)) (h:Rch g a m p k) (ha:I a):I p:=by
 induction h with
 |refl=>exact ha
 |step _ h2 ih=>exact hI _ _ _ ih h2
theorem row_lim {s:ByteArray}{f k b j n:Nat}(h:gRow s f k b j=.on n):b+n≤f+65535:=by
 unfold gRow at h
 split at h
 ·cases h
 ·split at h
  ·cases h
  ·split at h
   ·cases h
   ·cases h;omega
theorem quo_lim {s:ByteArray}{f q:Nat}{o:Bool}{b j n:Nat}(h:gQuo s f q o b j=.on n):b+n≤f+65535:=by
 unfold gQuo at h
 split at h
 ·cases h
 ·split at h
  ·cases h
  ·split at h
   ·cases h
   ·split at h
    ·cases h
    ·cases h;omega
theorem com_lim {s:ByteArray}{f:Nat}{o:Bool}{b j n:Nat}(h:gCom s f o b j=.on n):b+n≤f+65535∧n=1∧(o=false→by8 s b≠10):=by
 unfold gCom at h
 split at h
 ·split at h <;> cases h
 ·split at h
  ·cases h
  ·rename_i h9
   split at h
   ·cases h
   ·split at h
    ·cases h
    ·cases h;exact ⟨by omega,rfl,fun ho h10=>h9 ⟨ho,h10⟩⟩
theorem bgn_le8 (s:ByteArray) (b:Nat):tkBgn s b≤8:=by
 unfold tkBgn
 repeat' split
 all_goals decide
theorem chr_ten {s:ByteArray}{p j:Nat}(h10:by8 s p≠10) (h1:p≤j) (h2:j<p+dw s p):by8 s j≠10:=by
 by_cases e:j=p
 ·rw [e];exact h10
 ·have:=(dec_inner s p (j-p) (by omega) (by omega)).2
  rw [show p+(j-p)=j by omega] at this
  omega
inductive MS (s:ByteArray) (b p:Nat):Nat→Prop
 |none:b=p→MS s b p 0
 |name {m:Nat}:b<p→tkBgn s b=1→Rch (gRow s b 1) b 0 p m→MS s b p 1
 |num {m:Nat}:b<p→tkBgn s b=3→Rch (gRow s b 3) b 0 p m→MS s b p 2
 |sign:b<p→p≤s.size→(sg (s.extract b p) 0).size=p-b→MS s b p 3
 |line {m:Nat}:b+1<p→tkBgn s b=7→Rch (gCom s b false) b 0 p m→MS s b p 4
 |block {m:Nat}:b<p→tkBgn s b=8→Rch (gCom s b true) b 0 p m→MS s b p 5
 |text {m:Nat}:b<p→tkBgn s b=4→Rch (gQuo s b 34 false) (b+1) 0 p m→MS s b p 6
 |char:p=b+1→tkBgn s b=5→MS s b p 7
 |quote:b+1<p→tkBgn s b=5→Rch (gQuo s b 39 true) (b+1) 0 p 1→MS s b p 8
theorem MS.more {s c:ByteArray}{b p k:Nat}(h:MS s b p k) (hB:Bgs s c s.size) (hp:p≤s.size):MS (s++c) b p k:=by
 have hb:∀kk,b<p→tkBgn s b=kk→kk≠6→kk≠7→tkBgn (s++c) b=kk:=fun kk h1 h2 h3 h4=>by
  rw [bgn_sure hB b (by omega) (.inr (by rw [h2];exact ⟨h3,h4⟩)),h2]
 cases h with
 |none h=>exact .none h
 |name h1 h2 h3=>exact .name h1 (hb _ h1 h2 (by decide) (by decide)) (h3.more (gRow_on s b 1) hp (fun d j hd=>row_same hB b 1 d j hd))
 |num h1 h2 h3=>exact .num h1 (hb _ h1 h2 (by decide) (by decide)) (h3.more (gRow_on s b 3) hp (fun d j hd=>row_same hB b 3 d j hd))
 |sign h1 h2 h3=>exact .sign h1 (by rw [size_app];omega) (by rw [ext_first s c b p hp];exact h3)
 |line h1 h2 h3=>exact .line h1 (by rw [bgn_sure hB b (by omega) (.inl (by omega)),h2]) (h3.more (gCom_on s b false) hp (fun d j hd=>com_same s c b false d j hd))
 |block h1 h2 h3=>exact .block h1 (hb _ h1 h2 (by decide) (by decide)) (h3.more (gCom_on s b true) hp (fun d j hd=>com_same s c b true d j hd))
 |text h1 h2 h3=>exact .text h1 (hb _ h1 h2 (by decide) (by decide)) (h3.more (gQuo_on s b 34 false) hp (fun d j hd=>quo_same hB b 34 false d j hd))
 |char h1 h2=>exact .char h1 (hb _ (by omega) h2 (by decide) (by decide))
 |quote h1 h2 h3=>exact .quote h1 (hb _ (by omega) h2 (by decide) (by decide)) (h3.more (gQuo_on s b 39 true) hp (fun d j hd=>quo_same hB b 39 true d j hd))
theorem MS.len {s:ByteArray}{b p k:Nat}(h:MS s b p k):b≤p∧p≤b+65535:=by
 cases h with
 |none h=>omega
 |name h1 h2 h3=>exact ⟨by omega,h3.inv (fun d=>d≤b+65535) (fun _ _ _ _ hx=>row_lim hx) (by omega)⟩
 |num h1 h2 h3=>exact ⟨by omega,h3.inv (fun d=>d≤b+65535) (fun _ _ _ _ hx=>row_lim hx) (by omega)⟩
 |sign h1 h2 h3=>have:=sg_two (s.extract b p) 0;exact ⟨by omega,by omega⟩
 |line h1 h2 h3=>exact ⟨by omega,h3.inv (fun d=>d≤b+65535) (fun _ _ _ _ hx=>(com_lim hx).1) (by omega)⟩
 |block h1 h2 h3=>exact ⟨by omega,h3.inv (fun d=>d≤b+65535) (fun _ _ _ _ hx=>(com_lim hx).1) (by omega)⟩
 |text h1 h2 h3=>exact ⟨by omega,h3.inv (fun d=>d≤b+65535) (fun _ _ _ _ hx=>quo_lim hx) (by omega)⟩
 |char h1 h2=>omega
 |quote h1 h2 h3=>exact ⟨by omega,h3.inv (fun d=>d≤b+65535) (fun _ _ _ _ hx=>quo_lim hx) (by omega)⟩
inductive Told (s:ByteArray):List Tk→Nat→Nat→Prop
 |nil:Told s [] 0 0
 |feed {T:List Tk} {b f:Nat}:Told s T b f→b<s.size→by8 s b=10→Told s T (b+1) (f+1)
 |blank {T:List Tk} {b f:Nat}:Told s T b f→b<s.size→by8 s b≠10→tkBl (by8 s b)=true→Told s T (b+1) f
 |tok {T:List Tk} {b f p:Nat}:Told s T b f→b<s.size→by8 s b≠10→tkBl (by8 s b)=false→tkBgn s b≠0→tkEnd s b (tkBgn s b)=(p,0)→(p<s.size∨tkBgn s b=4∨tkBgn s b=5∨tkBgn s b=8)→Told s (T++[tkTok s (tkBgn s b) b p f]) p 0
theorem fnd_tok {s:ByteArray}{b p f k:Nat}(hb:b<s.size) (h1:by8 s b≠10) (h2:tkBl (by8 s b)=false) (hk:tkBgn s b=k) (h3:k≠0) (hp:tkEnd s b k=(p,0)):fnd s b f=(tkTok s k b p f :: (fnd s p 0).1,(fnd s p 0).2):=by
 rw [fnd_step s b f hb,if_neg h1,if_neg (by rw [h2];decide),hk,if_neg h3,hp,if_neg (by simp)]
theorem fnd_bad {s:ByteArray}{b p f k e:Nat}(hb:b<s.size) (h1:by8 s b≠10) (h2:tkBl (by8 s b)=false) (hk:tkBgn s b=k) (h3:k≠0) (hp:tkEnd s b k=(p,e)) (he:e≠0):fnd s b f=([],e,p):=by
 rw [fnd_step s b f hb,if_neg h1,if_neg (by rw [h2];decide),hk,if_neg h3,hp,if_pos (by simpa using he)]
theorem fnd_none {s:ByteArray}{b f:Nat}(hb:b<s.size) (h1:by8 s b≠10) (h2:tkBl (by8 s b)=false) (hk:tkBgn s b=0):fnd s b f=([],100,b):=by
 rw [fnd_step s b f hb,if_neg h1,if_neg (by rw [h2];decide),if_pos hk]
theorem Told.scn {s:ByteArray}{T:List Tk}{b f:Nat}(h:Told s T b f):scn s=(T++(fnd s b f).1,(fnd s b f).2):=by
 induction h with
 |nil=>rfl
 |feed _ h1 h2 ih=>rw [ih,fnd_step s _ _ h1,if_pos h2]
 |blank _ h1 h2 h3 ih=>rw [ih,fnd_step s _ _ h1,if_neg h2,if_pos h3]
 |tok _ h1 h2 h3 h4 h5 _ ih=>rw [ih,fnd_tok h1 h2 h3 rfl h4 h5,List.append_assoc];rfl
theorem Told.more {s c:ByteArray}{T:List Tk}{b f:Nat}(h:Told s T b f) (hB:Bgs s c s.size):Told (s++c) T b f:=by
 have hz:=size_app s c
 induction h with
 |nil=>exact .nil
 |feed _ h1 h2 ih=>exact .feed ih (by omega) (by rw [by8_first s c _ h1];exact h2)
 |blank _ h1 h2 h3 ih=>exact .blank ih (by omega) (by rw [by8_first s c _ h1];exact h2) (by rw [by8_first s c _ h1];exact h3)
 |tok _ h1 h2 h3 h4 h5 h6 ih=>
  obtain ⟨e1,e2⟩:=tok_sure hB _ _ h1 h4 h5 h6
  have h7:=tkEnd_ok s _ _ _ h1 rfl h4 h5
  have:=Told.tok ih (by omega) (by rw [by8_first s c _ h1];exact h2) (by rw [by8_first s c _ h1];exact h3) (by rw [e1];exact h4) (by rw [e1];exact e2) (by rw [e1];rcases h6 with h|h;exact .inl (by omega);exact .inr h)
  rw [e1,tok_first s c _ _ _ _ h7.2] at this
  exact this
theorem Told.bds {s:ByteArray}{T:List Tk}{b f:Nat}(h:Told s T b f):bd s b∧b≤s.size∧T.length≤b∧f≤b∧∀t∈T,t.a<t.e∧t.e≤b∧t.k≤8∧bd s t.a:=by
 induction h with
 |nil=>exact ⟨bd_zero s,Nat.zero_le _,Nat.le_refl _,Nat.le_refl _,fun t ht=>by cases ht⟩
 |feed _ h1 h2 ih=>
  obtain ⟨i1,i2,i3,i4,i5⟩:=ih
  exact ⟨(bd_asc s _ h1 (by omega)).2,h1,by omega,by omega,fun t ht=>⟨(i5 t ht).1,by have:=(i5 t ht).2.1;omega,(i5 t ht).2.2⟩⟩
 |blank _ h1 h2 h3 ih=>
  obtain ⟨i1,i2,i3,i4,i5⟩:=ih
  exact ⟨(bd_asc s _ h1 (bl_asc h3)).2,h1,by omega,by omega,fun t ht=>⟨(i5 t ht).1,by have:=(i5 t ht).2.1;omega,(i5 t ht).2.2⟩⟩
 | @tok T b f p _ h1 h2 h3 h4 h5 h6 ih=>
  obtain ⟨i1,i2,i3,i4,i5⟩:=ih
  have h7:=tkEnd_ok s _ _ _ h1 rfl h4 h5
  refine ⟨end_bd i1 h1 rfl h4 h5,h7.2,by rw [List.length_append];show T.length+1≤p;omega,Nat.zero_le _,fun t ht=>?_⟩
  rcases List.mem_append.1 ht with ht|ht
  ·exact ⟨(i5 t ht).1,by have:=(i5 t ht).2.1;omega,(i5 t ht).2.2⟩
  ·rw [List.mem_singleton.1 ht]
   refine ⟨?_,?_,?_,i1⟩
   ·show b<if tkBgn s b=7 then tkTrim s p else p
    split
    ·exact tkTrim_ge s b h3 p h7.1
    ·exact h7.1
   ·show (if tkBgn s b=7 then tkTrim s p else p)≤p
    split
    ·exact tkTrim_le s p
    ·exact Nat.le_refl _
   ·show (if tkBgn s b=1∧ky (s.extract b p)=true then 2 else tkBgn s b)≤8
    split
    ·decide
    ·exact bgn_le8 s b
end Go.Proofs.YtkigadnkclkopaaGreatDoor.Lx
