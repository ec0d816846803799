import Derived.Test.YtpdlohfdjiaegaaGreatDoorM05
set_option linter.unusedVariables false
set_option linter.unusedSimpArgs false
namespace Go.Proofs.YtpdlohfdjiaegaaGreatDoor.Lx
open Go.RowKit
theorem ext_whole (T:ByteArray):T.extract 0 T.size=T:=by
 have z:=size_ext T 0 T.size (Nat.le_refl _)
 exact by8_ext _ _ (by rw [z];omega) (fun i hi=>by rw [by8_ext' T 0 T.size i (by omega),Nat.zero_add])
theorem ext_pre (T R:ByteArray):(T++R).extract 0 T.size=T:=by rw [ext_first T R 0 T.size (Nat.le_refl _),ext_whole]
theorem dec_in (T R:ByteArray) (i:Nat) (hi:i<T.size) (hd:i+dw (T++R) i≤T.size):Utf8.decode T i=Utf8.decode (T++R) i:=by
 have h:=dec_mid (T++R) 0 T.size i (Nat.zero_le _) (by rw [size_app];omega) (by omega) (by rw [Nat.zero_add];exact hd)
 rw [ext_pre,Nat.zero_add] at h
 exact h
theorem chr_swap (T R0 R1:ByteArray) (h:ct (ob R1 0)=false) (i:Nat) (hi:i<T.size) (hd:i+dw (T++R0) i≤T.size):gd (T++R1) i=gd (T++R0) i∧dp (T++R1) i=dp (T++R0) i∧dw (T++R1) i=dw (T++R0) i:=by
 have e:Utf8.decode (T++R1) i=Utf8.decode (T++R0) i:=(dec_first T R1 h i hi).trans (dec_in T R0 i hi hd)
 unfold gd dp dw
 rw [e]
 exact ⟨rfl,rfl,rfl⟩
theorem by8_swap (T R0 R1:ByteArray) (i:Nat) (hi:i<T.size):by8 (T++R1) i=by8 (T++R0) i:=by rw [by8_first T R1 i hi,by8_first T R0 i hi]
theorem run_swap {g g':Nat→Nat→Rd}{z z' P:Nat}(hg:GoesOn g z) (hg':GoesOn g' z') (hP:P≤z') (hge:∀b m p,g b m=.out p 0→b≤p)
  (h1:∀b m,b≤P→g b m=.out P 0→g' b m=.out P 0) (h2:∀b m n,g b m=.on n→b+n≤P→g' b m=.on n) :
  ∀(d a m:Nat),z-a≤d→a≤z→run g z a m=(P,0)→a≤P∧run g' z' a m=(P,0)
 |d,a,m,hd,ha,h=>by
  cases e:g a m with
  |out p q=>
   rw [run_out ha e] at h
   injection h with hp hq
   subst hp hq
   have hap:=hge a m p e
   exact ⟨hap,run_out (by omega) (h1 a m hap e)⟩
  |on n=>
   obtain ⟨h3,h4⟩:=hg a m n e
   rw [run_on hg ha e] at h
   cases d with
   |zero=>omega
   |succ d=>
    obtain ⟨h5,h6⟩:=run_swap hg hg' hP hge h1 h2 d (a+n) (m+1) (by omega) h4 h
    have e':=h2 a m n e h5
    exact ⟨by omega,by rw [run_on hg' (by omega) e'];exact h6⟩
structure Fol (k:Nat) (T R:ByteArray):Prop where
 nc:ct (ob R 0)=false
 f1:k=1→0<R.size→by8 R 0<128∧pr' (by8 R 0:Nat)=false
 f3:k=3→0<R.size→tkDg (by8 R 0)=false
 f6:k=6→T.size=1→0<R.size→(∀x∈signL,x.size=2→by8 x 0=by8 T 0→by8 x 1≠by8 R 0)∧¬(by8 T 0=47∧by8 R 0=47)
 f7:k=7→0<R.size→by8 R 0=10
theorem bgn_k (s:ByteArray) (a:Nat):tkBgn s a=0∨tkBgn s a=1∨tkBgn s a=3∨tkBgn s a=4∨tkBgn s a=5∨tkBgn s a=6∨tkBgn s a=7∨tkBgn s a=8:=by
 unfold tkBgn
 repeat' split
 all_goals simp
theorem sign_tail:∀x∈signL.drop 4,x.size=1:=by decide
theorem sign_two (x:ByteArray) (hx:x∈signL) (h:x.size=2):x∈signL.take 4:=by
 rw [←List.take_append_drop 4 signL] at hx
 rcases List.mem_append.1 hx with h1|h1
 ·exact h1
 ·have:=sign_tail x h1;omega
theorem sign_head:∀x∈signL.take 4,x.size=2:=by decide
theorem sign_sizes:∀x∈signL,x.size=1∨x.size=2:=by decide
theorem find_two {f:ByteArray→Bool}{y:ByteArray}(h:signL.find? f=some y) (hy:y.size=1):∀x∈signL,x.size=2→f x=false:=by
 intro x hx h2
 rw [←List.take_append_drop 4 signL,List.find?_append] at h
 cases hc:(signL.take 4).find? f with
 |none=>
  have:=List.find?_eq_none.1 hc x (sign_two x hx h2)
  simpa using this
 |some z=>
  rw [hc] at h
  cases h
  have:=sign_head y (List.mem_of_find?_eq_some hc)
  omega
theorem pre_inT (T R:ByteArray) (x:ByteArray) (h:x.size≤T.size):pre (T++R) 0 x=pre T 0 x:=by
 unfold pre
 rw [Nat.zero_add,ext_first T R 0 x.size h]
 apply decide_eq_decide.2
 rw [size_app]
 constructor
 ·exact fun h'=>⟨h,h'.2⟩
 ·exact fun h'=>⟨by omega,h'.2⟩
theorem sg_swap (T R0 R1:ByteArray) (hT:0<T.size) (h:(sg (T++R0) 0).size=T.size) (hF:Fol 6 T R1):sg (T++R1) 0=sg (T++R0) 0:=by
 unfold sg
 have hs:sg (T++R0) 0=T:=by
  obtain ⟨h1,h2,_⟩:=sg_in (T++R0) 0 (by omega)
  rw [h,Nat.zero_add,ext_pre] at h2
  exact h2.symm
 have hTs:T∈signL:=by rw [←hs];exact (sg_in (T++R0) 0 (by omega)).2.2
 have hf:signL.find? (pre (T++R0) 0)=some T:=by
  unfold sg at hs
  cases hc:signL.find? (pre (T++R0) 0) with
  |none=>rw [hc] at hs;exfalso;rw [←hs] at hT;exact absurd hT (by decide)
  |some y=>rw [hc] at hs;exact congrArg some hs
 rw [find_congr (g:=pre (T++R0) 0)]
 intro x hx
 rcases Nat.lt_or_ge T.size x.size with hlt|hge
 ·have h2:x.size=2:=by rcases sign_sizes x hx with e|e <;> omega
  have h1:T.size=1:=by omega
  rw [find_two hf h1 x hx h2]
  unfold pre
  apply decide_eq_false
  rintro ⟨a1,a2⟩
  rw [size_app] at a1
  have b0:by8 x 0=by8 T 0:=by
   rw [←a2,by8_ext' _ 0 _ 0 (by omega),Nat.zero_add,by8_first T R1 0 (by omega)]
  have b1:by8 x 1=by8 R1 0:=by
   rw [←a2,by8_ext' _ 0 _ 1 (by omega),by8_app,if_neg (by omega),h1]
  exact (hF.f6 rfl h1 (by omega)).1 x hx h2 b0 b1
 ·rw [pre_inT T R1 x hge,pre_inT T R0 x hge]
theorem end_swap (T R0 R1:ByteArray) (k:Nat) (hT:0<T.size) (hb:tkBgn (T++R0) 0=k) (h0:k≠0) (he:tkEnd (T++R0) 0 k=(T.size,0)) (hF:Fol k T R1):tkEnd (T++R1) 0 k=(T.size,0):=by
 have z0:(T++R0).size=T.size+R0.size:=size_app _ _
 have z1:(T++R1).size=T.size+R1.size:=size_app _ _
 have quo:∀q o,q<128→run (gQuo (T++R0) 0 q o) (T++R0).size (0+1) 0=(T.size,0)→run (gQuo (T++R1) 0 q o) (T++R1).size (0+1) 0=(T.size,0):=by
  intro q o hq h
  refine (run_swap (gQuo_on _ _ _ _) (gQuo_on _ _ _ _) (by omega) (fun b m p=>quo_out _ _ _ _ b m p) ?_ ?_ _ 1 0 (Nat.le_refl _) (by omega) h).2
  ·intro b m hbP hg
   unfold gQuo at hg ⊢
   split at hg
   ·first|exact absurd (Rd.out.inj hg).2 (by decide)|cases hg
   ·rename_i h1
    split at hg
    ·first|exact absurd (Rd.out.inj hg).2 (by decide)|cases hg
    ·rename_i h2
     split at hg
     ·rename_i h3
      injection hg with hp _
      have hbT:b<T.size:=by omega
      have c0:=chr_asc (T++R0) b (by rw [h3.1];exact hq)
      have e8:=by8_swap T R0 R1 b hbT
      have c1:=chr_asc (T++R1) b (by rw [e8,h3.1];exact hq)
      rw [c0.1] at h2
      rw [if_neg (by rw [e8];omega),c1.1,if_neg h2,e8,if_pos h3,hp]
     ·split at hg
      ·first|exact absurd (Rd.out.inj hg).2 (by decide)|cases hg
      ·first|exact absurd (Rd.out.inj hg).2 (by decide)|cases hg
  ·intro b m n hg hbn
   unfold gQuo at hg ⊢
   split at hg
   ·cases hg
   ·rename_i h1
    split at hg
    ·cases hg
    ·rename_i h2
     split at hg
     ·cases hg
     ·rename_i h3
      split at hg
      ·cases hg
      ·rename_i h4
       injection hg with hn
       have hn1:1≤n:=by
        have:=gQuo_on (T++R0) 0 q o b m n (by unfold gQuo;rw [if_neg h1,if_neg h2,if_neg h3,if_neg h4,hn])
        exact this.1
       have hbT:b<T.size:=by omega
       have e8:=by8_swap T R0 R1 b hbT
       obtain ⟨d1,d2,d3⟩:=chr_swap T R0 R1 hF.nc b hbT (by rw [hn];exact hbn)
       have ec:tkCtl (T++R1) b=tkCtl (T++R0) b:=by unfold tkCtl;rw [d1,d2]
       rw [if_neg (by rw [e8];omega),d3,if_neg h2,e8,if_neg h3,ec,if_neg h4,hn]
 have com:∀o,(o=false→0<R1.size→by8 R1 0=10)→run (gCom (T++R0) 0 o) (T++R0).size 0 0=(T.size,0)→run (gCom (T++R1) 0 o) (T++R1).size 0 0=(T.size,0):=by
  intro o ho h
  refine (run_swap (gCom_on _ _ _) (gCom_on _ _ _) (by omega) (fun b m p=>com_out _ _ _ b m p) ?_ ?_ _ 0 0 (Nat.le_refl _) (by omega) h).2
  ·intro b m hbP hg
   unfold gCom at hg ⊢
   by_cases hbT:b=T.size
   ·have ho2:o=false:=by
     cases o with
     |false=>rfl
     |true=>
      exfalso
      split at hg
      ·simp at hg
      ·simp at hg
       split at hg
       ·exact absurd (Rd.out.inj hg).2 (by decide)
       ·split at hg
        ·have:=(Rd.out.inj hg).1;omega
        ·cases hg
    subst ho2
    rw [hbT]
    by_cases hR:R1.size=0
    ·rw [if_pos (by omega)];rfl
    ·have e8:by8 (T++R1) T.size=10:=by rw [by8_app,if_neg (Nat.lt_irrefl _),Nat.sub_self];exact ho rfl (by omega)
     rw [if_neg (by omega),if_pos ⟨rfl,e8⟩]
   ·have hbl:b<T.size:=by omega
    have e8:=by8_swap T R0 R1 b hbl
    rw [if_neg (by omega)] at hg ⊢
    rw [e8]
    exact hg
  ·intro b m n hg hbn
   unfold gCom at hg ⊢
   split at hg
   ·split at hg <;> cases hg
   ·split at hg
    ·cases hg
    ·split at hg
     ·cases hg
     ·split at hg
      ·cases hg
      ·rename_i h1 h2 h3 h4
       injection hg with hn
       have e8:=by8_swap T R0 R1 b (by omega)
       rw [if_neg (by omega),e8,if_neg h2,if_neg h3,if_neg h4,hn]
 have row:(k=1∨k=3)→run (gRow (T++R0) 0 k) (T++R0).size 0 0=(T.size,0)→run (gRow (T++R1) 0 k) (T++R1).size 0 0=(T.size,0):=by
  intro hk h
  refine (run_swap (gRow_on _ _ _) (gRow_on _ _ _) (by omega) (fun b m p=>row_out _ _ _ b m p) ?_ ?_ _ 0 0 (Nat.le_refl _) (by omega) h).2
  ·intro b m hbP hg
   have hbT:b=T.size:=by
    unfold gRow at hg
    split at hg
    ·injection hg
    ·split at hg
     ·injection hg
     ·split at hg
      ·first|exact absurd (Rd.out.inj hg).2 (by decide)|cases hg
      ·first|exact absurd (Rd.out.inj hg).2 (by decide)|cases hg
   rw [hbT]
   unfold gRow
   by_cases hR:R1.size=0
   ·rw [if_pos (by omega)]
   ·have e8:by8 (T++R1) T.size=by8 R1 0:=by rw [by8_app,if_neg (by omega),Nat.sub_self]
    rw [if_neg (by omega),if_pos ?_]
    rcases hk with rfl|rfl
    ·obtain ⟨f1,f2⟩:=hF.f1 rfl (by omega)
     obtain ⟨c1,c2,c3⟩:=chr_asc (T++R1) T.size (by rw [e8];exact f1)
     refine .inl ⟨rfl,?_⟩
     rw [c3,c2,e8,f2];rfl
    ·exact .inr ⟨rfl,by rw [e8];exact hF.f3 rfl (by omega)⟩
  ·intro b m n hg hbn
   unfold gRow at hg ⊢
   split at hg
   ·cases hg
   ·rename_i h1
    split at hg
    ·cases hg
    ·rename_i h2
     split at hg
     ·cases hg
     ·rename_i h3
      injection hg with hn
      have hn1:=(gRow_on (T++R0) 0 k b m n (by unfold gRow;rw [if_neg h1,if_neg h2,if_neg h3,hn])).1
      have hbT:b<T.size:=by omega
      have e8:=by8_swap T R0 R1 b hbT
      obtain ⟨d1,d2,d3⟩:=chr_swap T R0 R1 hF.nc b hbT (by rw [hn];exact hbn)
      rw [if_neg (by omega),d1,d2,e8,if_neg h2,d3,if_neg h3,hn]
 unfold tkEnd at he ⊢
 rcases bgn_k (T++R0) 0 with e|e|e|e|e|e|e|e <;> rw [hb] at e <;> subst e
 ·exact absurd rfl h0
 ·exact row (.inl rfl) he
 ·exact row (.inr rfl) he
 ·exact quo 34 false (by decide) he
 ·exact quo 39 true (by decide) he
 ·have hz:(sg (T++R0) 0).size=T.size:=by
   have:0+(sg (T++R0) 0).size=T.size:=congrArg Prod.fst he
   omega
  show (0+(sg (T++R1) 0).size,0)=_
  rw [sg_swap T R0 R1 hT hz hF,hz,Nat.zero_add]
 ·exact com false (fun _ h=>hF.f7 rfl h) he
 ·exact com true (fun e=>by cases e) he
theorem sign_low8:∀x∈signL,by8 x 0<128:=by decide
theorem run_ge {g:Nat→Nat→Rd}{z P a m:Nat}(hg:GoesOn g z) (hge:∀b m p,g b m=.out p 0→b≤p) (ha:a≤z) (hP:P≤z) (h:run g z a m=(P,0)):a≤P:=
 (run_swap hg hg hP hge (fun _ _ _ h=>h) (fun _ _ _ h _=>h) _ a m (Nat.le_refl _) ha h).1
theorem bgn_asc {s:ByteArray}{a k:Nat}(hb:tkBgn s a=k) (h0:k≠0) (h1:k≠1):by8 s a<128∧(gd s a && lt' (dp s a))=false:=by
 unfold tkBgn at hb
 split at hb
 ·exact absurd hb.symm h1
 ·rename_i hl
  refine ⟨?_,by simpa using hl⟩
  split at hb
  ·rename_i h;simp only [tkDg,Bool.and_eq_true,decide_eq_true_eq] at h;omega
  ·split at hb
   ·omega
   ·split at hb
    ·omega
    ·split at hb
     ·omega
     ·split at hb
      ·omega
      ·split at hb
       ·rename_i h
        obtain ⟨e1,e2,e3⟩:=sg_in s a h
        have h8:=sign_low8 _ e3
        rw [←e2,by8_ext' s a _ 0 (by omega),Nat.add_zero] at h8
        exact h8
       ·exact absurd hb.symm h0
theorem bgn_swap (T R0 R1:ByteArray) (k:Nat) (hT:0<T.size) (hb:tkBgn (T++R0) 0=k) (h0:k≠0) (he:tkEnd (T++R0) 0 k=(T.size,0)) (hF:Fol k T R1):tkBgn (T++R1) 0=k:=by
 have z0:(T++R0).size=T.size+R0.size:=size_app _ _
 have z1:(T++R1).size=T.size+R1.size:=size_app _ _
 have e8:=by8_swap T R0 R1 0 hT
 by_cases hk1:k=1
 ·subst hk1
  have hl:(gd (T++R0) 0 && lt' (dp (T++R0) 0))=true:=by
   unfold tkBgn at hb
   split at hb
   ·assumption
   ·repeat' (split at hb)
    all_goals exact absurd hb (by decide)
  have hr:run (gRow (T++R0) 0 1) (T++R0).size 0 0=(T.size,0):=he
  have hd:0+dw (T++R0) 0≤T.size:=by
   cases hg:gRow (T++R0) 0 1 0 0 with
   |out p e=>
    rw [run_out (Nat.zero_le _) hg] at hr
    unfold gRow at hg
    rw [if_neg (by omega)] at hg
    rw [Bool.and_eq_true] at hl
    have hp:(gd (T++R0) 0 && pr' (dp (T++R0) 0))=true:=by rw [hl.1];unfold pr';rw [hl.2];rfl
    rw [if_neg (by rintro (⟨_,h⟩|⟨h,_⟩);rw [hp] at h;cases h;cases h)] at hg
    split at hg
    ·have h1:=(Rd.out.inj hg).2
     have h2:e=0:=congrArg Prod.snd hr
     omega
    ·cases hg
   |on n=>
    have hn:n=dw (T++R0) 0:=by
     unfold gRow at hg
     repeat' (split at hg)
     all_goals first|(cases hg;done)|(injection hg with hg;exact hg.symm)
    rw [run_on (gRow_on _ _ _) (Nat.zero_le _) hg,hn] at hr
    have hz:=(gRow_on (T++R0) 0 1 0 0 n hg).2
    exact run_ge (gRow_on _ _ _) (fun b m p=>row_out _ _ _ b m p) (by omega) (by omega) hr
  obtain ⟨d1,d2,_⟩:=chr_swap T R0 R1 hF.nc 0 hT hd
  unfold tkBgn
  rw [if_pos (by rw [d1,d2];exact hl)]
 ·obtain ⟨ha,hnl⟩:=bgn_asc hb h0 hk1
  obtain ⟨c1,c2,c3⟩:=chr_asc (T++R0) 0 ha
  obtain ⟨d1,d2,d3⟩:=chr_asc (T++R1) 0 (by rw [e8];exact ha)
  have hnl1:¬(gd (T++R1) 0 && lt' (dp (T++R1) 0))=true:=by
   have e:(gd (T++R1) 0 && lt' (dp (T++R1) 0))=(gd (T++R0) 0 && lt' (dp (T++R0) 0)):=by rw [d3,d2,c3,c2,e8]
   rw [e,hnl];decide
  have hnl0:¬(gd (T++R0) 0 && lt' (dp (T++R0) 0))=true:=by rw [hnl];decide
  unfold tkBgn at hb ⊢
  rw [if_neg hnl0] at hb
  rw [if_neg hnl1,e8]
  split at hb
  ·rename_i h;rw [if_pos h];exact hb
  ·rename_i h3
   rw [if_neg h3]
   split at hb
   ·rename_i h;rw [if_pos h];exact hb
   ·rename_i h4
    rw [if_neg h4]
    split at hb
    ·rename_i h;rw [if_pos h];exact hb
    ·rename_i h5
     rw [if_neg h5]
     split at hb
     ·rename_i h7
      subst hb
      have hr:run (gCom (T++R0) 0 false) (T++R0).size 0 0=(T.size,0):=he
      have g0:gCom (T++R0) 0 false 0 0=.on 1:=by
       unfold gCom
       rw [if_neg (by omega),if_neg (by omega),if_neg (by omega),if_neg (by simp)]
      have g1:gCom (T++R0) 0 false 1 1=.on 1:=by
       unfold gCom
       rw [if_neg (by omega),if_neg (by rw [show (0:Nat)+1=1 from rfl] at h7;omega),if_neg (by omega),if_neg (by simp)]
      rw [run_on (gCom_on _ _ _) (Nat.zero_le _) g0,run_on (gCom_on _ _ _) (by omega) g1] at hr
      have hT2:=run_ge (gCom_on _ _ _) (fun b m p=>com_out _ _ _ b m p) (by omega) (by omega) hr
      rw [if_pos ⟨h7.1,by omega,by rw [by8_swap T R0 R1 (0+1) (by omega)];exact h7.2.2⟩]
     ·rename_i h7
      have h7':¬(by8 (T++R0) 0=47∧0+1<(T++R1).size∧by8 (T++R1) (0+1)=47)∨k≠6:=by
       by_cases hk6:k=6
       ·refine .inl (fun ⟨x1,x2,x3⟩=>?_)
        by_cases hT2:1<T.size
        ·rw [by8_swap T R0 R1 (0+1) (by omega)] at x3
         exact h7 ⟨x1,by omega,x3⟩
        ·have hT1:T.size=1:=by omega
         rw [by8_app,if_neg (by omega),hT1] at x3
         rw [by8_first T R0 0 hT] at x1
         exact (hF.f6 hk6 hT1 (by omega)).2 ⟨x1,x3⟩
       ·exact .inr hk6
      split at hb
      ·rename_i h;rw [if_neg (by omega),if_pos h];exact hb
      ·rename_i h123
       split at hb
       ·rename_i hs
        subst hb
        have hz:(sg (T++R0) 0).size=T.size:=by
         have:0+(sg (T++R0) 0).size=T.size:=congrArg Prod.fst he
         omega
        rw [if_neg (h7'.resolve_right (fun h=>h rfl)),if_neg h123,sg_swap T R0 R1 hT hz hF,if_pos hs]
       ·exact absurd hb.symm h0
structure Tx (k:Nat) (T:ByteArray):Prop where
 pos:0<T.size
 k0:k≠0
 bg:tkBgn (T++lfB) 0=k
 en:tkEnd (T++lfB) 0 k=(T.size,0)
 bl:k=7→tkBl (by8 T (T.size-1))=false
theorem lf1:lfB.size=1:=rfl
theorem pr_low:pr' (10:Nat)=false∧pr' (32:Nat)=false∧lt' (10:Nat)=false∧lt' (32:Nat)=false∧lt' (9:Nat)=false∧lt' (13:Nat)=false:=by decide
theorem fol_lf (k:Nat) (T:ByteArray):Fol k T lfB:=by
 refine ⟨rfl,fun _ _=>⟨by decide,pr_low.1⟩,fun _ _=>rfl,fun _ h1 _=>⟨fun x hx h2 _ h3=>?_,fun h=>?_⟩,fun _ _=>rfl⟩
 ·rcases sign_ten x hx with h|h
  ·omega
  ·exact h.2 h3
 ·exact absurd h.2 (by decide)
def okE (c:Nat):Prop:=c≠32∧c≠10
theorem sign_edge:∀x∈signL,(by8 x 0≠32∧by8 x 0≠10∧by8 x 0≠9∧by8 x 0≠13)∧by8 x (x.size-1)≠32∧by8 x (x.size-1)≠10:=by decide
theorem bgn_bl {s:ByteArray}{a:Nat}(h:by8 s a=10∨tkBl (by8 s a)=true):tkBgn s a=0:=by
 have hc:by8 s a=10∨by8 s a=32∨by8 s a=9∨by8 s a=13:=by
  rcases h with h|h
  ·exact .inl h
  ·unfold tkBl at h
   simp only [Bool.or_eq_true,beq_iff_eq] at h
   omega
 obtain ⟨c1,c2,c3⟩:=chr_asc s a (by omega)
 have hl:lt' (dp s a:Nat)=false:=by
  rw [c2]
  rcases hc with e|e|e|e <;> rw [e]
  ·exact pr_low.2.2.1
  ·exact pr_low.2.2.2.1
  ·exact pr_low.2.2.2.2.1
  ·exact pr_low.2.2.2.2.2
 unfold tkBgn
 rw [if_neg (by rw [hl,Bool.and_false];decide),if_neg (by unfold tkDg;rcases hc with e|e|e|e <;> rw [e] <;> decide),if_neg (by omega),if_neg (by omega),if_neg (by omega),if_neg (by omega),if_neg ?_]
 intro hz
 obtain ⟨e1,e2,e3⟩:=sg_in s a hz
 have h8:=(sign_edge _ e3).1
 rw [←e2,by8_ext' s a _ 0 (by omega),Nat.add_zero] at h8
 omega
theorem chr_last (s:ByteArray) (b:Nat) (h1:1≤dw s b) (hb:b<s.size) (h:by8 s (b+dw s b-1)<128):dw s b=1:=by
 apply Classical.byContradiction;intro hne
 have:=(dec_inner s b (dw s b-1) (by omega) (by omega)).2
 rw [show b+(dw s b-1)=b+dw s b-1 by omega] at this
 omega
theorem com_in (s:ByteArray) (f:Nat) (hf:f≤s.size) (p:Nat) (h:run (gCom s f false) s.size f 0=(p,0)):p≤f+65535∧(∀i,f≤i→i<p→by8 s i≠10)∧(s.size≤p∨by8 s p=10):=by
 have:=run_ind (gCom_on s f false) (fun b _=>f≤b∧b≤f+65535∧∀i,f≤i→i<b→by8 s i≠10) (fun r=>r.2=0→r.1≤f+65535∧(∀i,f≤i→i<r.1→by8 s i≠10)∧(s.size≤r.1∨by8 s r.1=10)) ?_ ?_ _ f 0 (Nat.le_refl _) hf ⟨Nat.le_refl _,by omega,fun i h1 h2=>by omega⟩
 ·rw [h] at this;exact this rfl
 ·intro a m p e ha hI hg he
  have he':e=0:=he
  subst he'
  unfold gCom at hg
  split at hg
  ·simp at hg;subst hg;exact ⟨hI.2.1,hI.2.2,.inl (by assumption)⟩
  ·split at hg
   ·rename_i h1 h2;injection hg with hp _;subst hp;exact ⟨hI.2.1,hI.2.2,.inr h2.2⟩
   ·split at hg
    ·exact absurd (Rd.out.inj hg).2 (by decide)
    ·simp at hg
 ·intro a m n ha hI hg
  unfold gCom at hg
  split at hg
  ·simp at hg
  ·split at hg
   ·cases hg
   ·split at hg
    ·cases hg
    ·split at hg
     ·cases hg
     ·rename_i h1 h2 h3 h4
      injection hg with hn
      subst hn
      refine ⟨by omega,by omega,fun i hi hi2=>?_⟩
      by_cases e:i=a
      ·subst e;exact fun h=>h2 ⟨rfl,h⟩
      ·exact hI.2.2 i hi (by omega)
theorem tx_edge {k:Nat}{T:ByteArray}(h:Tx k T):okE (by8 T 0)∧okE (by8 T (T.size-1))∧T.size≤65535:=by
 have hT:=h.pos
 have hz:(T++lfB).size=T.size+1:=by rw [size_app,lf1]
 have e8:∀i,i<T.size→by8 (T++lfB) i=by8 T i:=fun i hi=>by8_first T lfB i hi
 have h0:okE (by8 T 0):=by
  refine ⟨fun e=>?_,fun e=>?_⟩
  ·exact h.k0 (by rw [←h.bg];exact bgn_bl (.inr (by rw [e8 0 hT,e];rfl)))
  ·exact h.k0 (by rw [←h.bg];exact bgn_bl (.inl (by rw [e8 0 hT,e])))
 refine ⟨h0,?_⟩
 have row:∀k,(k=1∨k=3)→run (gRow (T++lfB) 0 k) (T++lfB).size 0 0=(T.size,0)→okE (by8 T (T.size-1))∧T.size≤65535:=by
  intro k hk hr
  have:=run_ind (gRow_on (T++lfB) 0 k) (fun b _=>b=0∨(okE (by8 (T++lfB) (b-1))∧b≤65535)) (fun r=>r.2=0→r.1=0∨(okE (by8 (T++lfB) (r.1-1))∧r.1≤65535)) ?_ ?_ _ 0 0 (Nat.le_refl _) (Nat.zero_le _) (.inl rfl)
  ·rw [hr] at this
   rcases this rfl with h1|h1
   ·have h1':T.size=0:=h1
    omega
   ·have h1':okE (by8 (T++lfB) (T.size-1))∧T.size≤65535:=h1
    rw [e8 _ (by omega)] at h1';exact h1'
  ·intro a m p e ha hI hg he
   have he':e=0:=he
   subst he'
   unfold gRow at hg
   split at hg
   ·injection hg with hp _;subst hp;exact hI
   ·split at hg
    ·injection hg with hp _;subst hp;exact hI
    ·split at hg
     ·exact absurd (Rd.out.inj hg).2 (by decide)
     ·cases hg
  ·intro a m n ha hI hg
   have hn1:=(gRow_on (T++lfB) 0 k a m n hg).1
   unfold gRow at hg
   split at hg
   ·cases hg
   ·rename_i h1
    split at hg
    ·cases hg
    ·rename_i h2
     split at hg
     ·cases hg
     ·rename_i h3
      injection hg with hn
      subst hn
      refine .inr ⟨?_,by omega⟩
      have key:∀c,c<128→by8 (T++lfB) (a+dw (T++lfB) a-1)=c→by8 (T++lfB) a=c:=by
       intro c hc e
       have:=chr_last (T++lfB) a hn1 (by omega) (by omega)
       rw [this,Nat.add_sub_cancel] at e
       exact e
      have no:∀c,c<128→pr' (c:Nat)=false→tkDg c=false→by8 (T++lfB) a≠c:=by
       intro c hc hp hd e
       apply h2
       rcases hk with rfl|rfl
       ·refine .inl ⟨rfl,?_⟩
        rw [(chr_asc (T++lfB) a (by omega)).2.1,e,hp,Bool.and_false]
       ·exact .inr ⟨rfl,by rw [e];exact hd⟩
      exact ⟨fun e=>no 32 (by decide) pr_low.2.1 rfl (key 32 (by decide) e),fun e=>no 10 (by decide) pr_low.1 rfl (key 10 (by decide) e)⟩
 have quo:∀q o,(q=34∨q=39)→run (gQuo (T++lfB) 0 q o) (T++lfB).size (0+1) 0=(T.size,0)→okE (by8 T (T.size-1))∧T.size≤65535:=by
  intro q o hq hr
  have:=run_ind (gQuo_on (T++lfB) 0 q o) (fun b _=>True) (fun r=>r.2=0→by8 (T++lfB) (r.1-1)=q∧r.1≤65535) ?_ ?_ _ 1 0 (Nat.le_refl _) (by omega) trivial
  ·rw [hr] at this
   obtain ⟨x1,x2⟩:=this rfl
   have x1':by8 (T++lfB) (T.size-1)=q:=x1
   rw [e8 _ (by omega)] at x1'
   exact ⟨⟨by omega,by omega⟩,x2⟩
  ·intro a m p e ha hI hg he
   have he':e=0:=he
   subst he'
   unfold gQuo at hg
   split at hg
   ·exact absurd (Rd.out.inj hg).2 (by decide)
   ·split at hg
    ·exact absurd (Rd.out.inj hg).2 (by decide)
    ·rename_i h1 h2
     split at hg
     ·rename_i h3
      injection hg with hp _
      subst hp
      have:=(chr_asc (T++lfB) a (by omega)).1
      exact ⟨by rw [Nat.add_sub_cancel];exact h3.1,by show a+1≤65535;omega⟩
     ·split at hg
      ·exact absurd (Rd.out.inj hg).2 (by decide)
      ·cases hg
  ·intro a m n ha hI hg;trivial
 have blk:run (gCom (T++lfB) 0 true) (T++lfB).size 0 0=(T.size,0)→okE (by8 T (T.size-1))∧T.size≤65535:=by
  intro hr
  have:=run_ind (gCom_on (T++lfB) 0 true) (fun b _=>True) (fun r=>r.2=0→by8 (T++lfB) (r.1-1)=125∧r.1≤65535) ?_ ?_ _ 0 0 (Nat.le_refl _) (Nat.zero_le _) trivial
  ·rw [hr] at this
   obtain ⟨x1,x2⟩:=this rfl
   have x1':by8 (T++lfB) (T.size-1)=125:=x1
   rw [e8 _ (by omega)] at x1'
   exact ⟨⟨by omega,by omega⟩,x2⟩
  ·intro a m p e ha hI hg he
   have he':e=0:=he
   subst he'
   unfold gCom at hg
   split at hg
   ·simp at hg
   ·split at hg
    ·rename_i h;cases h.1
    ·split at hg
     ·exact absurd (Rd.out.inj hg).2 (by decide)
     ·split at hg
      ·rename_i h3 h4
       injection hg with hp _
       subst hp
       exact ⟨by rw [Nat.add_sub_cancel];exact h4.2,by show a+1≤65535;omega⟩
      ·cases hg
  ·intro a m n ha hI hg;trivial
 have he:=h.en
 have hb:=h.bg
 have hk0:=h.k0
 have hbl:=h.bl
 unfold tkEnd at he
 rcases bgn_k (T++lfB) 0 with e|e|e|e|e|e|e|e <;> rw [hb] at e <;> subst e
 ·exact absurd rfl hk0
 ·exact row 1 (.inl rfl) he
 ·exact row 3 (.inr rfl) he
 ·exact quo 34 false (.inl rfl) he
 ·exact quo 39 true (.inr rfl) he
 ·have hz6:(sg (T++lfB) 0).size=T.size:=by
   have:0+(sg (T++lfB) 0).size=T.size:=congrArg Prod.fst he
   omega
  obtain ⟨_,x2,x3⟩:=sg_in (T++lfB) 0 (by omega)
  rw [hz6,Nat.zero_add,ext_pre] at x2
  rw [←x2] at x3
  have h2:=sg_two (T++lfB) 0
  exact ⟨(sign_edge T x3).2,by omega⟩
 ·have hr:run (gCom (T++lfB) 0 false) (T++lfB).size 0 0=(T.size,0):=he
  obtain ⟨y1,y2,_⟩:=com_in _ 0 (Nat.zero_le _) _ hr
  have h10:=y2 (T.size-1) (Nat.zero_le _) (by omega)
  rw [e8 _ (by omega)] at h10
  have hb7:=hbl rfl
  refine ⟨⟨fun e=>?_,h10⟩,by omega⟩
  rw [e] at hb7
  cases hb7
 ·exact blk he
theorem cut3 (s:ByteArray) (a p:Nat) (ha:a≤p) (hp:p≤s.size):s=s.extract 0 a++(s.extract a p++s.extract p s.size):=by
 have z1:=size_ext s 0 a (by omega)
 have z2:=size_ext s a p hp
 have z3:=size_ext s p s.size (Nat.le_refl _)
 refine by8_ext _ _ (by rw [size_app,size_app];omega) (fun i hi=>?_)
 rw [by8_app,by8_app]
 split
 ·rw [by8_ext' s 0 a i (by omega),Nat.zero_add]
 ·split
  ·rw [by8_ext' s a p _ (by omega)];congr 1;omega
  ·rw [by8_ext' s p s.size _ (by omega)];congr 1;omega
theorem src_tx (s:ByteArray) (a k p:Nat) (ha:a<s.size) (hb:tkBgn s a=k) (h0:k≠0) (he:tkEnd s a k=(p,0)):Tx k (s.extract a (if k=7 then tkTrim s p else p)):=by
 obtain ⟨hap,hp⟩:=tkEnd_ok s a k p ha hb h0 he
 have zA:=size_ext s 0 a (by omega)
 have zT:=size_ext s a p hp
 have hs:=cut3 s a p (by omega) hp
 obtain ⟨A,hA⟩:∃A,s.extract 0 a=A:=⟨_,rfl⟩
 obtain ⟨T,hT⟩:∃T,s.extract a p=T:=⟨_,rfl⟩
 obtain ⟨R,hR⟩:∃R,s.extract p s.size=R:=⟨_,rfl⟩
 rw [hA,hT,hR] at hs
 rw [hA] at zA
 rw [hT] at zT
 have hb2:tkBgn (T++R) 0=k:=by
  rw [←bgn_second A (T++R) 0,←hs,Nat.add_zero,zA,Nat.sub_zero];exact hb
 have he2:tkEnd (T++R) 0 k=(T.size,0):=by
  have:=end_second A (T++R) 0 k (by rw [size_app];omega)
  rw [←hs,Nat.add_zero,zA,Nat.sub_zero,he] at this
  have h1:p=a+(tkEnd (T++R) 0 k).1:=congrArg Prod.fst this
  have h2:0=(tkEnd (T++R) 0 k).2:=congrArg Prod.snd this
  exact Prod.ext (by show _=T.size;omega) h2.symm
 have hTp:0<T.size:=by omega
 by_cases hk:k=7
 ·rw [if_pos hk]
  subst hk
  have hr:run (gCom s a false) s.size a 0=(p,0):=he
  obtain ⟨y1,y2,y3⟩:=com_in s a (by omega) p hr
  have h47:by8 s a=47∧a+1<s.size∧by8 s (a+1)=47:=by
   unfold tkBgn at hb
   split at hb
   ·exact absurd hb (by decide)
   ·split at hb
    ·exact absurd hb (by decide)
    ·split at hb
     ·exact absurd hb (by decide)
     ·split at hb
      ·exact absurd hb (by decide)
      ·split at hb
       ·assumption
       ·split at hb
        ·exact absurd hb (by decide)
        ·split at hb
         ·exact absurd hb (by decide)
         ·exact absurd hb (by decide)
  have hp2:a+1<p:=by
   apply Classical.byContradiction;intro hn
   have e:p=a+1:=by omega
   rcases y3 with h|h
   ·omega
   ·rw [e] at h;omega
  have ht2:=tkTrim_ge s (a+1) (by rw [h47.2.2];rfl) p hp2
  have htl:=tkTrim_le s p
  obtain ⟨q,hq⟩:∃q,tkTrim s p=q:=⟨_,rfl⟩
  rw [hq] at ht2 htl ⊢
  have zU:=size_ext s a q (by omega)
  obtain ⟨U,hU⟩:∃U,s.extract a q=U:=⟨_,rfl⟩
  have e8:∀i,i<U.size→by8 U i=by8 s (a+i):=fun i hi=>by rw [←hU,by8_ext' s a q i (by rw [hU] at zU;omega)]
  rw [hU] at zU ⊢
  have zL:(U++lfB).size=U.size+1:=by rw [size_app,lf1]
  have f8:∀i,i<U.size→by8 (U++lfB) i=by8 U i:=fun i hi=>by8_first U lfB i hi
  have hrun:∀d b m,U.size-b≤d→b≤U.size→run (gCom (U++lfB) 0 false) (U++lfB).size b m=(U.size,0):=by
   intro d
   induction d with
   |zero=>
    intro b m hd hbU
    obtain rfl:b=U.size:=by omega
    refine run_out (by omega) ?_
    unfold gCom
    rw [if_neg (by omega),if_pos ⟨rfl,by rw [by8_app,if_neg (by omega),Nat.sub_self];rfl⟩]
   |succ d ih=>
    intro b m hd hbU
    by_cases hbe:b=U.size
    ·subst hbe
     refine run_out (by omega) ?_
     unfold gCom
     rw [if_neg (by omega),if_pos ⟨rfl,by rw [by8_app,if_neg (by omega),Nat.sub_self];rfl⟩]
    ·have hg:gCom (U++lfB) 0 false b m=.on 1:=by
      unfold gCom
      rw [if_neg (by omega),if_neg (by rw [f8 b (by omega),e8 b (by omega)];exact fun h=>y2 (a+b) (by omega) (by omega) h.2),if_neg (by omega),if_neg (by simp)]
     rw [run_on (gCom_on _ _ _) (by omega) hg]
     exact ih (b+1) (m+1) (by omega) (by omega)
  refine ⟨by omega,by decide,?_,hrun _ 0 0 (Nat.le_refl _) (Nat.zero_le _),fun _=>?_⟩
  ·have b0:by8 (U++lfB) 0=47:=by rw [f8 0 (by omega),e8 0 (by omega)];exact h47.1
   have b1:by8 (U++lfB) (0+1)=47:=by rw [f8 1 (by omega),e8 1 (by omega)];exact h47.2.2
   obtain ⟨c1,c2,c3⟩:=chr_asc (U++lfB) 0 (by omega)
   unfold tkBgn
   rw [if_neg (by rw [c2,b0,show lt' (47:Nat)=false by decide,Bool.and_false];decide),b0,if_neg (by decide),if_neg (by decide),if_neg (by decide),if_pos ⟨rfl,by omega,b1⟩]
  ·rw [e8 _ (by omega),show a+(U.size-1)=q-1 by omega]
   have:∀p,0<tkTrim s p→tkBl (by8 s (tkTrim s p-1))=false:=by
    intro p
    induction p with
    |zero=>intro h;exact absurd (show 0<0 from h) (by decide)
    |succ p ih=>
     unfold tkTrim
     split
     ·exact ih
     ·rename_i h;intro _;simpa using h
   rw [←hq];exact this p (by omega)
 ·rw [if_neg hk,hT]
  exact ⟨hTp,h0,bgn_swap T R lfB k hTp hb2 h0 he2 (fol_lf k T),end_swap T R lfB k hTp hb2 h0 he2 (fol_lf k T),fun h=>absurd h hk⟩
def kOf (k:Nat) (T:ByteArray):Nat:=if k=1∧ky T=true then 2 else k
theorem fnd_tx (s:ByteArray):∀(d a f:Nat),s.size-a≤d→(fnd s a f).2.1=0→(∀t∈(fnd s a f).1,∃k,Tx k (s.extract t.a t.e)∧t.k=kOf k (s.extract t.a t.e))∧(∀t,(fnd s a f).1[0]?=some t→f≤t.f)∧∀(i:Nat) t u,(fnd s a f).1[i]?=some t→(fnd s a f).1[i+1]?=some u→t.k=7→1≤u.f
 |d,a,f,hd,h0=>by
  by_cases ha:s.size≤a
  ·rw [fnd_end s a f ha]
   exact ⟨fun t ht=>by simp at ht,fun t ht=>by simp at ht,fun i t u ht=>by simp at ht⟩
  ·rw [fnd_step s a f (by omega)] at h0 ⊢
   cases d with
   |zero=>omega
   |succ d=>
   split at h0
   ·rename_i h1
    rw [if_pos h1]
    obtain ⟨x1,x2,x3⟩:=fnd_tx s d (a+1) (f+1) (by omega) h0
    exact ⟨x1,fun t ht=>by have:=x2 t ht;omega,x3⟩
   ·rename_i h1
    rw [if_neg h1]
    split at h0
    ·rename_i h2
     rw [if_pos h2]
     exact fnd_tx s d (a+1) f (by omega) h0
    ·rename_i h2
     rw [if_neg h2]
     split at h0
     ·exact absurd (show (100:Nat)=0 from h0) (by decide)
     ·rename_i h3
      rw [if_neg h3]
      split at h0
      ·rename_i h4;exact absurd h0 h4
      ·rename_i h4
       rw [if_neg h4]
       have he:tkEnd s a (tkBgn s a)=((tkEnd s a (tkBgn s a)).1,0):=Prod.ext rfl (by simpa using h4)
       obtain ⟨hap,hp⟩:=tkEnd_ok s a _ _ (by omega) rfl h3 he
       have htx:=src_tx s a _ _ (by omega) rfl h3 he
       obtain ⟨p,hpp⟩:∃p,(tkEnd s a (tkBgn s a)).1=p:=⟨_,rfl⟩
       rw [hpp] at he hap hp htx h0 ⊢
       obtain ⟨x1,x2,x3⟩:=fnd_tx s d p 0 (by omega) h0
       have hkk:(tkTok s (tkBgn s a) a p f).k=kOf (tkBgn s a) (s.extract a (if tkBgn s a=7 then tkTrim s p else p)):=by
        show (if tkBgn s a=1∧ky (s.extract a p)=true then 2 else tkBgn s a)=_
        unfold kOf
        by_cases e7:tkBgn s a=7
        ·rw [e7];rfl
        ·rw [if_neg e7]
       refine ⟨?_,fun t ht=>?_,?_⟩
       ·intro t ht
        rcases List.mem_cons.1 ht with rfl|ht
        ·exact ⟨tkBgn s a,htx,hkk⟩
        ·exact x1 t ht
       ·simp at ht;subst ht;exact Nat.le_refl _
       ·intro i t u ht hu hk
        cases i with
        |succ i=>exact x3 i t u ht hu hk
        |zero=>
         simp at ht
         subst ht
         have h7:tkBgn s a=7:=by
          rw [hkk] at hk
          generalize s.extract a (if tkBgn s a=7 then tkTrim s p else p)=X at hk
          unfold kOf at hk
          split at hk
          ·exact absurd hk (by decide)
          ·exact hk
         have hr:run (gCom s a false) s.size a 0=(p,0):=by rw [h7] at he;exact he
         obtain ⟨_,_,y3⟩:=com_in s a (by omega) p hr
         have hu':(fnd s p 0).1[0]?=some u:=hu
         rcases y3 with y3|y3
         ·rw [fnd_end s p 0 y3] at hu';simp at hu'
         ·by_cases hps:s.size≤p
          ·rw [fnd_end s p 0 hps] at hu';simp at hu'
          ·rw [fnd_step s p 0 (by omega),if_pos y3] at hu' h0
           have:=(fnd_tx s d (p+1) 1 (by omega) h0).2.1 u hu'
           omega
termination_by d=>d
def tv (s:ByteArray) (t:Tk):Tv:=⟨t.k,s.extract t.a t.e,t.a,pL s t.a,pC s t.a,t.f⟩
def AV (w:World) (s:ByteArray) (e:Ending) (w':World):Prop:=
 (∃v,e=.returned (.tuple #[v,.int .i64 (scn s).2.1,.agg #[.int .i64 (if (scn s).2.1=0 then 0 else (scn s).2.2),.int .i64 (if (scn s).2.1=0 then 0 else pL s (scn s).2.2),.int .i64 (if (scn s).2.1=0 then 0 else pC s (scn s).2.2)]])∧Rt w.heap.size w' v ((scn s).1.map (tv s)))∧Below w.heap.size w w'
end Go.Proofs.YtpdlohfdjiaegaaGreatDoor.Lx
