import Derived.Deep.RegionHeld3
import Derived.Deep.RegionWith
import Derived.WalkMore
import Derived.BigQuiet
import Derived.Test.YtkigadnkclkopaaGreatDoorM26
set_option linter.unusedVariables false
set_option linter.unusedSimpArgs false
namespace Go.Proofs.YtkigadnkclkopaaGreatDoor
open Go.RowKit
def d00 (N:Nat→List Ev):D:=⟨0,[],0,[],0,[],N⟩
theorem d1_is (N:Nat→List Ev):opD 1 (d00 N)=⟨0,[(1,1)],1,[],0,[⟨1,1,tv0⟩],N⟩:=rfl
theorem dst_dead {L:List Tv}{i:It}{d:D}(h:d.e≠0):(dst L i d).2=d:=by
 have hn:nxt L d=none:=by unfold nxt;rw [if_neg h]
 have hq:∀f,qn L d f=false:=fun f=>by unfold qn;rw [hn];rfl
 have ht:tkD L false d=d:=by simp [tkD,h]
 cases i with
 |fl x=>
  cases x with
  |mt m=>
   simp only [dst]
   cases drow (nxt L d) m with
   |ref=>exact ht
   |ex r=>rfl
   |op nd r=>exact opD_dead h
  |_=>simp only [dst,hq];exact ht
 |lv n=>exact clD_dead h
 |_=>rfl
theorem rch_dead {L:List Tv}{K K':List It}{d d':D}(h:Rch L K d K' d') (he:d.e≠0):d'=d:=by
 induction h with
 |refl=>rfl
 |step _ ih=>
  rename_i i K K' d d' _
  have:=dst_dead (L:=L) (i:=i) he
  rw [this] at ih
  exact ih he
theorem dst_end {L:List Tv}{i:It}{d:D}(he:d.e=0) (hn:nxt L d=none):(dst L i d).2.l=d.l∧(dst L i d).2.i=d.i∧(((dst L i d).2.e=0∧nxt L (dst L i d).2=none)∨(dst L i d).2.e=121):=by
 have hi:¬d.i<L.length:=by
  intro h
  unfold nxt at hn
  rw [if_pos he,List.getElem?_eq_getElem h] at hn
  cases hn
 have hq:∀f,qn L d f=false:=fun f=>by unfold qn;rw [hn];rfl
 have ht:tkD L false d={ d with e:=121 }:=by simp [tkD,he,hi]
 cases i with
 |fl x=>
  cases x with
  |mt m=>
   simp only [dst]
   cases drow (nxt L d) m with
   |ref=>simp only [ht];exact ⟨trivial,trivial,.inr trivial⟩
   |ex r=>exact ⟨rfl,rfl,.inl ⟨he,hn⟩⟩
   |op nd r=>
    simp only
    rw [opD_put he]
    exact ⟨rfl,rfl,.inl ⟨he,hn⟩⟩
  |_=>simp only [dst,hq,ht];exact ⟨trivial,trivial,.inr trivial⟩
 |lv n=>
  simp only [dst]
  rw [clD_put (n:=n) he]
  exact ⟨rfl,rfl,.inl ⟨he,hn⟩⟩
 |_=>exact ⟨rfl,rfl,.inl ⟨he,hn⟩⟩
theorem rch_end {L:List Tv}{K K':List It}{d d':D}(h:Rch L K d K' d') (he:d.e=0) (hn:nxt L d=none):d'.l=d.l∧d'.i=d.i∧(d'.e=0∨d'.e=121):=by
 induction h with
 |refl=>exact ⟨rfl,rfl,.inl he⟩
 |step hr ih=>
  rename_i i K K' d d'
  obtain ⟨a,b,c⟩:=dst_end (i:=i) he hn
  rcases c with ⟨c1,c2⟩|c
  ·obtain ⟨x,y,z⟩:=ih c1 c2
   exact ⟨x.trans a,y.trans b,z⟩
  ·have:=rch_dead hr (by rw [c];decide)
   rw [this]
   exact ⟨a,b,.inr c⟩
theorem rch_wants {L:List Tv}{x:Fl}(hx:∀m,x≠.mt m) {K K':List It}{d d':D}(h:Rch L K d K' d'):K'=[]→∀(X Y:List It),K=X++.fl x :: Y→d.e=0→nxt L d=none→d'.e≠0:=by
 induction h with
 |refl=>intro e X Y e2;rw [e] at e2;cases X <;> cases e2
 |step hr ih=>
  rename_i i K K' d d'
  intro e X Y e2 he hn
  obtain ⟨a,b,c⟩:=dst_end (i:=i) he hn
  rcases c with ⟨c1,c2⟩|c
  ·cases X with
   |nil=>
    simp at e2
    obtain ⟨rfl,rfl⟩:=e2
    exfalso
    have e3:dst L (.fl x) d=([],tkD L (qn L d (fun t=>x.takes t)) d):=by
     cases x with
     |mt m=>exact absurd rfl (hx m)
     |_=>rfl
    rw [e3] at c1
    have hq:qn L d (fun t=>x.takes t)=false:=by unfold qn;rw [hn];rfl
    rw [hq] at c1
    exact absurd (tkD_live c1).1 (by decide)
   |cons j X=>
    simp at e2
    obtain ⟨rfl,rfl⟩:=e2
    exact ih e ((dst L i d).1++X) Y (by simp) c1 c2
  ·have:=rch_dead hr (by rw [c];decide)
   rw [this,c]
   decide
def DocAt (N:Nat→List Ev) (T:List Tv) (K:List It) (p:List (Int × Nat)) (s:Nat) (v:List Ev):Prop:=∀R,∃lst,Rch (T++R) (progR++[.lv 1]) (opD 1 (d00 N)) K ⟨T.length,p,s,lst,0,v,N⟩
theorem docAt_nil (N:Nat→List Ev):DocAt N [] (progR++[.lv 1]) [(1,1)] 1 [⟨1,1,tv0⟩]:=fun R=>⟨[],.refl⟩
section
variable {N:Nat→List Ev} {T R:List Tv} {K:List It} {p:List (Int × Nat)} {s:Nat} {l:List (Int × Nat)} {v:List Ev} {t:Tv} {dz:D}
theorem nxt_at:nxt (T++t :: R) ⟨T.length,p,s,l,0,v,N⟩=some t:=by simp [nxt]
theorem nxt_end:nxt (T++[]) ⟨T.length,p,s,l,0,v,N⟩=none:=by simp [nxt]
theorem res_to {L:List Tv}(h:Rb L progR (opD 1 (d00 N)) dz) {K:List It}{d:D}(h':Rch L (progR++[.lv 1]) (opD 1 (d00 N)) K d):Rch L K d [] (clD 1 dz):=h'.det ((h [.lv 1]).trans (.step .refl))
theorem clD_same {n:Int}{d:D}:(clD n d).e=d.e∧(clD n d).i=d.i∧(clD n d).l=d.l:=by unfold clD;split <;> exact ⟨rfl,rfl,rfl⟩
theorem res_no (h:DocAt N T K p s v) (hw:nw K=true) {k:Nat}{n:Int}{E:List Ev}(hr:Ru t k K n E .no) (hb:Rb (T++t :: R) progR (opD 1 (d00 N)) dz):dz.i=T.length∧(dz.e=120∨dz.e=0):=by
 obtain ⟨lst,h1⟩:=h (t :: R)
 obtain ⟨K',d2,h2,hi,h3⟩:=(sim (L:=T++t :: R) hr _ nxt_at hw).2 rfl
 have h4:=res_to hb (h1.trans h2)
 obtain ⟨c1,c2,c3⟩:=clD_same (n:=1) (d:=dz)
 rcases h3 with h3|⟨rfl,h5⟩
 ·have h7:=rch_dead h4 (by rw [h3];decide)
  exact ⟨by rw [←c2,h7,hi],.inl (by rw [←c1,h7,h3])⟩
 ·cases h4
  exact ⟨by rw [←c2,hi],.inr (by rw [←c1];exact h5)⟩
theorem take_is {x:Fl}(hx:x.takes t=true):tkI (T++t :: R) x ⟨T.length,p,s,l,0,v,N⟩=if 1000<p.length then ⟨T.length,p,s,l,122,v,N⟩ else ⟨T.length+1,p,s,if R=[] then p else l,0,v++⟨2,0,t⟩ :: N T.length,N⟩:=by
 have hq:qn (T++t :: R) ⟨T.length,p,s,l,0,v,N⟩ (fun t=>x.takes t)=true:=by unfold qn;rw [nxt_at];exact hx
 unfold tkI tkD
 rw [hq]
 simp only [if_true]
 split
 ·rfl
 ·have:(T.length+1=(T++t :: R).length)↔R=[]:=by
   rw [List.length_append,List.length_cons]
   constructor
   ·intro h
    exact List.eq_nil_of_length_eq_zero (by omega)
   ·intro h
    rw [h]
    simp
  have e2:(T++t :: R)[T.length]?.getD tv0=t:=by simp
  simp only [this,e2]
theorem docAt_on (h:DocAt N T K p s v) (hw:nw K=true) {k:Nat}{n m:Int}{E o:List Ev}{K2:List It}(hr:Ru t k K n E (.yes K2 m (E++o))) :
  nw K2=true∧(pev o (p,s)).1.map (·.1)=(lvs K2).reverse∧((pev o (p,s)).1.length≤1000→DocAt N (T++[t]) K2 (pev o (p,s)).1 (pev o (p,s)).2 (v++o++⟨2,0,t⟩ :: N T.length))∧(1000<(pev o (p,s)).1.length→∀R dz,Rb (T++t :: R) progR (opD 1 (d00 N)) dz→dz.e=122∧dz.i=T.length):=by
 have go:∀R,∃x lst,Rch (T++t :: R) (progR++[.lv 1]) (opD 1 (d00 N)) (.fl x :: K2) ⟨T.length,(pev o (p,s)).1,(pev o (p,s)).2,lst,0,v++o,N⟩∧(∀m,x≠Fl.mt m)∧x.takes t=true:=by
  intro R
  obtain ⟨lst,h1⟩:=h (t :: R)
  obtain ⟨_,x,o',e1,hx,hx2,h2⟩:=(sim (L:=T++t :: R) hr _ nxt_at hw).1 _ _ _ rfl
  have e2:o'=o:=List.append_cancel_left e1.symm
  subst e2
  exact ⟨x,lst,h1.trans h2,hx,hx2⟩
 refine ⟨?_,?_,?_,?_⟩
 ·exact ((sim (L:=T++[t]) hr ⟨T.length,p,s,[],0,v,N⟩ nxt_at hw).1 _ _ _ rfl).1
 ·obtain ⟨x,lst,h2,hx,_⟩:=go []
  obtain ⟨_,h3⟩:=rch_path h2 rfl
  obtain ⟨q,e1,e2⟩:=h3 [] [(1,1)] rfl rfl
  simp at e1
  rw [e1]
  exact e2
 ·intro hle R
  obtain ⟨x,lst,h2,hx,hx2⟩:=go R
  have h3:=h2.trans (ib_tk hx K2)
  have h4:=take_is (N:=N) (T:=T) (R:=R) (v:=v++o) hx2 (p:=(pev o (p,s)).1) (s:=(pev o (p,s)).2) (l:=lst)
  rw [if_neg (by omega)] at h4
  unfold tkI at h4
  rw [h4] at h3
  refine ⟨if R=[] then (pev o (p,s)).1 else lst,?_⟩
  rw [List.append_assoc T,List.length_append]
  exact h3
 ·intro hgt R dz hb
  obtain ⟨x,lst,h2,hx,hx2⟩:=go R
  have h3:=h2.trans (ib_tk hx K2)
  have h4:=take_is (N:=N) (T:=T) (R:=R) (v:=v++o) hx2 (p:=(pev o (p,s)).1) (s:=(pev o (p,s)).2) (l:=lst)
  rw [if_pos hgt] at h4
  unfold tkI at h4
  rw [h4] at h3
  have h5:=rch_dead (res_to hb h3) (by show (122:Int)≠0;decide)
  obtain ⟨c1,c2,c3⟩:=clD_same (n:=1) (d:=dz)
  exact ⟨by rw [←c1,h5],by rw [←c2,h5]⟩
theorem rch_nil {L:List Tv}{d d':D}(h:Rch L [] d [] d'):d'=d:=by cases h;rfl
def Bo2 (K:List It):Prop:=K=[.lv 1]∨∃X,K=X++[.fl (.wd 6 [⟨#[46]⟩]),.lv 1]
theorem bo2_prog:Bo2 (progR++[.lv 1]):=.inr ⟨[.fl (.wd 2 [⟨#[112,114,111,103,114,97,109]⟩]),.fl (.nm),.fl (.wd 6 [⟨#[59]⟩]),.fl (.mt .block)],rfl⟩
theorem ru_bo2 {t:Tv}{k:Nat}{K:List It}{n:Int}{E:List Ev}{R:Ro}(h:Ru t k K n E R):∀{L:List It}{m:Int}{F:List Ev},R=.yes L m F→Bo2 K→Bo2 L:=by
 induction h with
 |nil=>intro L m F h;cases h
 |ref _=>intro L m F h;cases h
 |tk hs=>
  rename_i i K n E
  intro L m F h hb
  cases h
  rcases hb with hb|⟨X,hX⟩
  ·simp at hb;obtain ⟨rfl,rfl⟩:=hb;cases hs
  ·cases X with
   |nil=>simp at hX;exact .inl hX.2
   |cons j X=>simp at hX;exact .inr ⟨X,hX.2⟩
 |go hs hr ih=>
  rename_i k i K n d E o r R
  intro L m F h hb
  rcases hb with hb|⟨X,hX⟩
  ·simp at hb
   obtain ⟨rfl,rfl⟩:=hb
   cases hs
   cases hr
   cases h
  ·cases X with
   |nil=>
    simp at hX
    obtain ⟨rfl,rfl⟩:=hX
    simp only [It.step,Fl.step] at hs
    split at hs <;> cases hs
   |cons j X=>
    simp at hX
    obtain ⟨rfl,rfl⟩:=hX
    exact ih h (.inr ⟨r++X,by simp⟩)
theorem res_close (h:DocAt N T K p s v) (hb2:Bo2 K) (hb:Rb T progR (opD 1 (d00 N)) dz):dz.i=T.length∧(K.length=1→dz.e=0∧dz.v=v)∧(K.length≠1→dz.e=121):=by
 obtain ⟨lst,h1⟩:=h []
 have hb':Rb (T++[]) progR (opD 1 (d00 N)) dz:=by rw [List.append_nil];exact hb
 have h3:=res_to hb' h1
 obtain ⟨a,b,c⟩:=rch_end h3 rfl nxt_end
 obtain ⟨c1,c2,c3⟩:=clD_same (n:=1) (d:=dz)
 rw [c2] at b
 refine ⟨b,?_⟩
 rcases hb2 with rfl|⟨X,rfl⟩
 ·refine ⟨fun _=>?_,fun h=>absurd rfl h⟩
  cases h3 with
  |step h4=>
   have h5:=rch_nil h4
   have he:dz.e=0:=by rw [←c1,h5];rfl
   refine ⟨he,?_⟩
   have h6:=congrArg D.v h5
   unfold clD at h6
   rw [if_pos he] at h6
   exact List.append_cancel_right h6
 ·refine ⟨fun h=>by simp at h,fun _=>?_⟩
  have:=rch_wants ne_wd h3 rfl X [.lv 1] rfl rfl nxt_end
  rw [c1] at this c
  exact c.resolve_left this
end
def ntE (c:Tv):Ev:=⟨4,0,c⟩
def lead:List Tv→List Tv
 |[]=>[]
 |t :: r=>if cmm t then t :: lead r else []
def bhd:List Tv→List Tv
 |[]=>[]
 |t :: r=>if cmm t then bhd r else t :: r
def tks (l:List Tv):List Tv:=l.filter (fun t=>!cmm t)
def ps:List Tv→Nat→Nat
 |[],_=>0
 |t :: r,j=>if cmm t then ps r j+1 else match j with|0=>0|j+1=>ps r j+1
def nts:List Tv→Nat→List Tv
 |[],_=>[]
 |t :: r,j=>if cmm t then nts r j else match j with|0=>lead r|j+1=>nts r j
theorem ps_c {t:Tv}{r:List Tv}{j:Nat}(h:cmm t=true):ps (t :: r) j=ps r j+1:=by cases j <;> simp [ps,h]
theorem ps_t0 {t:Tv}{r:List Tv}(h:cmm t=false):ps (t :: r) 0=0:=by simp [ps,h]
theorem ps_t {t:Tv}{r:List Tv}{j:Nat}(h:cmm t=false):ps (t :: r) (j+1)=ps r j+1:=by simp [ps,h]
theorem nts_c {t:Tv}{r:List Tv}{j:Nat}(h:cmm t=true):nts (t :: r) j=nts r j:=by cases j <;> simp [nts,h]
theorem nts_t0 {t:Tv}{r:List Tv}(h:cmm t=false):nts (t :: r) 0=lead r:=by simp [nts,h]
theorem nts_t {t:Tv}{r:List Tv}{j:Nat}(h:cmm t=false):nts (t :: r) (j+1)=nts r j:=by simp [nts,h]
theorem toks_t {t:Tv}{r:List Tv}(h:cmm t=false):tks (t :: r)=t :: tks r:=by simp [tks,h]
theorem toks_c {t:Tv}{r:List Tv}(h:cmm t=true):tks (t :: r)=tks r:=by simp [tks,h]
theorem toks_bhd:∀r,tks (bhd r)=tks r
 |[]=>rfl
 |t :: r=>by
  cases h:cmm t with
  |true=>rw [toks_c h,bhd,if_pos h];exact toks_bhd r
  |false=>rw [bhd,if_neg (by simp [h])]
theorem lead_bhd:∀r,lead (bhd r)=[]
 |[]=>rfl
 |t :: r=>by
  cases h:cmm t with
  |true=>rw [bhd,if_pos h];exact lead_bhd r
  |false=>rw [bhd,if_neg (by simp [h]),lead,if_neg (by simp [h])]
theorem nts_bhd:∀r j,nts (bhd r) j=nts r j
 |[],_=>rfl
 |t :: r,j=>by
  cases h:cmm t with
  |true=>rw [bhd,if_pos h,nts_bhd r j,nts_c h]
  |false=>rw [bhd,if_neg (by simp [h])]
theorem ps_bhd:∀r j,ps r j=(lead r).length+ps (bhd r) j
 |[],_=>rfl
 |t :: r,j=>by
  cases h:cmm t with
  |true=>rw [bhd,if_pos h,lead,if_pos h,ps_c h,ps_bhd r j];simp;omega
  |false=>rw [bhd,if_neg (by simp [h]),lead,if_neg (by simp [h])];simp
theorem len_bhd:∀r,(bhd r).length≤r.length
 |[]=>Nat.le_refl _
 |t :: r=>by
  cases h:cmm t with
  |true=>rw [bhd,if_pos h];have:=len_bhd r;simp;omega
  |false=>rw [bhd,if_neg (by simp [h])];exact Nat.le_refl _
theorem app_bhd:∀r,lead r++bhd r=r
 |[]=>rfl
 |t :: r=>by
  cases h:cmm t with
  |true=>rw [bhd,if_pos h,lead,if_pos h,List.cons_append,app_bhd r]
  |false=>rw [bhd,if_neg (by simp [h]),lead,if_neg (by simp [h])];rfl
theorem ps_at:∀(l:List Tv) (j:Nat),l[ps l j]?=(tks l)[j]?
 |[],j=>by simp [ps,tks]
 |t :: r,j=>by
  cases h:cmm t with
  |true=>rw [toks_c h,ps_c h,List.getElem?_cons_succ];exact ps_at r j
  |false=>
   rw [toks_t h]
   cases j with
   |zero=>rw [ps_t0 h];rfl
   |succ j=>rw [ps_t h,List.getElem?_cons_succ,List.getElem?_cons_succ];exact ps_at r j
theorem ps_le:∀(l:List Tv) (j:Nat),ps l j≤l.length
 |[],j=>by simp [ps]
 |t :: r,j=>by
  cases h:cmm t with
  |true=>rw [ps_c h];have:=ps_le r j;simp;omega
  |false=>
   cases j with
   |zero=>rw [ps_t0 h];simp
   |succ j=>rw [ps_t h];have:=ps_le r j;simp;omega
theorem ps_lt {l:List Tv}{j:Nat}:ps l j<l.length↔j<(tks l).length:=by
 have h:=ps_at l j
 constructor
 ·intro h1
  by_cases h2:j<(tks l).length
  ·exact h2
  ·rw [List.getElem?_eq_getElem h1,List.getElem?_eq_none (by omega)] at h;cases h
 ·intro h1
  by_cases h2:ps l j<l.length
  ·exact h2
  ·rw [List.getElem?_eq_getElem h1,List.getElem?_eq_none (by omega)] at h;cases h
theorem ps_zero:∀(l:List Tv),ps l 0=(lead l).length
 |[]=>rfl
 |t :: r=>by
  cases h:cmm t with
  |true=>rw [ps_c h,lead,if_pos h,ps_zero r];simp
  |false=>rw [ps_t0 h,lead,if_neg (by simp [h])];rfl
theorem ps_succ:∀(l:List Tv) (j:Nat),j<(tks l).length→ps l (j+1)=ps l j+1+(nts l j).length∧nts l j=lead (l.drop (ps l j+1))
 |[],j,h=>by simp [tks] at h
 |t :: r,j,hj=>by
  cases h:cmm t with
  |true=>
   rw [toks_c h] at hj
   have:=ps_succ r j hj
   rw [ps_c h,ps_c h,nts_c h,List.drop_succ_cons]
   exact ⟨by omega,this.2⟩
  |false=>
   rw [toks_t h] at hj
   cases j with
   |zero=>rw [ps_t h,ps_t0 h,nts_t0 h,ps_zero];exact ⟨by omega,rfl⟩
   |succ j=>
    have:=ps_succ r j (by simpa using hj)
    rw [ps_t h,ps_t h,nts_t h,List.drop_succ_cons]
    exact ⟨by omega,this.2⟩
theorem lead_at:∀(r:List Tv) (k:Nat),(∀c,(lead r)[k]?=some c→r[k]?=some c∧cmm c=true)∧(k=(lead r).length→∀c,r[k]?=some c→cmm c=false)
 |[],k=>by simp [lead]
 |t :: r,k=>by
  cases h:cmm t with
  |true=>
   rw [lead,if_pos h]
   cases k with
   |zero=>exact ⟨fun c e=>by simp at e;subst e;exact ⟨rfl,h⟩,fun e=>by simp at e⟩
   |succ k=>
    obtain ⟨a,b⟩:=lead_at r k
    exact ⟨fun c e=>by simpa using a c (by simpa using e),fun e c e2=>b (by simpa using e) c (by simpa using e2)⟩
  |false=>
   rw [lead,if_neg (by simp [h])]
   exact ⟨fun c e=>by simp at e,fun e c e2=>by simp at e;subst e;simp at e2;subst e2;exact h⟩
theorem beg_self {K:List It}{n:Int}(hn:n≠0):beg K n=K∧begN n=n∧begE n=[]:=by
 have hb:(n == 0)=false:=by simpa using hn
 simp [beg,begN,begE,hb]
theorem alr_notes {K:List It}{n:Int}(hn:n≠0):∀(r:List Tv) (E:List Ev) (code:Int) (k:Nat),Alr (.live K n) r E code k→∃E' k',E=(lead r).map ntE++E'∧k=(lead r).length+k'∧Alr (.live K n) (bhd r) E' code k'
 |[],E,code,k,h=>⟨E,k,rfl,by simp [lead],h⟩
 |t :: r,E,code,k,h=>by
  cases hc:cmm t with
  |false=>rw [lead,if_neg (by simp [hc]),bhd,if_neg (by simp [hc])];exact ⟨E,k,rfl,by simp,h⟩
  |true=>
   rw [lead,if_pos hc,bhd,if_pos hc]
   obtain ⟨b1,b2,b3⟩:=beg_self (K:=K) hn
   rcases h.inv with ⟨ev,st',hp,hcd,rfl,rfl⟩|⟨ev,st',E2,k2,hp,hR2,rfl,rfl⟩
   ·cases hp with
    |note hh=>exact absurd rfl hcd
    |no hh _ _=>unfold cmm at hc;rw [hc] at hh;cases hh
    |deep hh _ _ _=>unfold cmm at hc;rw [hc] at hh;cases hh
    |yes hh _ _ _=>exact absurd rfl hcd
   ·cases hp with
    |yes hh _ _ _=>unfold cmm at hc;rw [hc] at hh;cases hh
    |note hh=>
     rw [b1,b2] at hR2
     obtain ⟨E',k',e1,e2,e3⟩:=alr_notes hn r E2 code k2 hR2
     refine ⟨E',k',?_,?_,e3⟩
     ·rw [b3,e1];rfl
     ·simp;omega
theorem good_pos {K:List It}{n:Int}(hg:Good (.live K n)) (hb:Bo2 K):n≠0:=by
 have h1:=hg.1.lv
 have h2:1≤(lvs K).length:=by
  rcases hb with rfl|⟨X,rfl⟩
  ·decide
  ·rw [lvs_app];simp [lvs]
 omega
theorem alr_rest (N:Nat→List Ev):∀(m:Nat) (r T:List Tv) (K:List It) (n:Int) (p:List (Int × Nat)) (s:Nat) (v E:List Ev) (code:Int) (k:Nat) (dz:D),r.length≤m→DocAt N T K p s v→nw K=true→Bo2 K→Good (.live K n)→lead r=[]→(∀j,N (T.length+j)=(nts r j).map ntE)→Alr (.live K n) r E code k→Rb (T++tks r) progR (opD 1 (d00 N)) dz →
  (code=0→dz.e=0∧dz.i=(T++tks r).length∧∃E0,E=E0++[⟨3,1,tv0⟩]∧dz.v=v++E0)∧(code≠0→(dz.e=code∨(code=120∧dz.e=0∧dz.i<(T++tks r).length))∧T.length≤dz.i∧k=ps r (dz.i-T.length)):=by
 intro m
 induction m with
 |zero=>
  intro r T K n p s v E code k dz hm hD hw hb2 hg hl hN hA hb
  obtain rfl:r=[]:=List.eq_nil_of_length_eq_zero (by omega)
  obtain ⟨hc,rfl⟩:=hA.end
  have hb':Rb T progR (opD 1 (d00 N)) dz:=by simpa [tks] using hb
  obtain ⟨a,b,c⟩:=res_close hD hb2 hb'
  cases hc with
  |all hh=>exact ⟨fun _=>⟨(b hh).1,by simp [tks,a],[],rfl,by rw [(b hh).2];simp⟩,fun h=>absurd rfl h⟩
  | «open» hh=>exact ⟨(fun h=>by cases h),fun _=>⟨.inl (c hh),by omega,rfl⟩⟩
 |succ m ih=>
  intro r T K n p s v E code k dz hm hD hw hb2 hg hl hN hA hb
  cases r with
  |nil=>
   obtain ⟨hc,rfl⟩:=hA.end
   have hb':Rb T progR (opD 1 (d00 N)) dz:=by simpa [tks] using hb
   obtain ⟨a,b,c⟩:=res_close hD hb2 hb'
   cases hc with
   |all hh=>exact ⟨fun _=>⟨(b hh).1,by simp [tks,a],[],rfl,by rw [(b hh).2];simp⟩,fun h=>absurd rfl h⟩
   | «open» hh=>exact ⟨(fun h=>by cases h),fun _=>⟨.inl (c hh),by omega,rfl⟩⟩
  |cons t r1=>
   have hc:cmm t=false:=by
    cases h:cmm t with
    |false=>rfl
    |true=>rw [lead,if_pos h] at hl;cases hl
   rw [toks_t hc] at hb ⊢
   have hn:=good_pos hg hb2
   obtain ⟨b1,b2,b3⟩:=beg_self (K:=K) hn
   have p0:ps (t :: r1) 0=0:=ps_t0 hc
   obtain ⟨g1,g2,g3,g4,g5,gbot,gbn,gbe⟩:=good_beg hg
   rcases hA.inv with ⟨ev,st',hp,hcd,rfl,rfl⟩|⟨ev,st',E2,k2,hp,hR2,rfl,rfl⟩
   ·refine ⟨fun h=>absurd h hcd,fun _=>?_⟩
    cases hp with
    |note hh=>exact absurd rfl hcd
    |yes hh _ _ _=>exact absurd rfl hcd
    |no hh hR hk=>
     rw [b1] at hR
     obtain ⟨e1,e2⟩:=res_no hD hw hR hb
     refine ⟨?_,by omega,by rw [e1,Nat.sub_self,p0]⟩
     rcases e2 with e2|e2
     ·exact .inl e2
     ·exact .inr ⟨rfl,e2,by rw [e1];simp⟩
    |deep hh hR hk hm2=>
     rename_i L m2 E1 k1 _
     obtain ⟨c1,c2,c3,o,c4,c5,c6,c7⟩:=ru_keep hR rfl g1 g2 g3
     rw [b1] at hR
     obtain ⟨o2,e0,h5⟩:=(ru_pre hR).2 _ _ _ rfl
     have hR':=h5 []
     obtain ⟨d1,d2,d3,d4⟩:=docAt_on hD hw hR'
     have hlen:(pev o2 (p,s)).1.length=(lvs L).length:=by have:=congrArg List.length d2;simpa using this
     obtain ⟨e1,e2⟩:=d4 (by omega) _ _ hb
     exact ⟨.inl e1,by omega,by rw [e2,Nat.sub_self,p0]⟩
   ·have hgs:=(put_keep hg hp).1
    cases hp with
    |note hh=>unfold cmm at hc;rw [hc] at hh;cases hh
    |yes hh hR hk hm2=>
     rename_i L m2 E1 k1
     obtain ⟨c1,c2,c3,o,c4,c5,c6,c7⟩:=ru_keep hR rfl g1 g2 g3
     rw [b1] at hR
     obtain ⟨o2,e0,h5⟩:=(ru_pre hR).2 _ _ _ rfl
     rw [b3,List.nil_append] at e0
     subst e0
     have hR':=h5 []
     obtain ⟨d1,d2,d3,d4⟩:=docAt_on hD hw hR'
     have hlen:(pev E1 (p,s)).1.length=(lvs L).length:=by have:=congrArg List.length d2;simpa using this
     have hD2:=d3 (by omega)
     have hb3:=ru_bo2 hR rfl hb2
     have hn2:=good_pos hgs hb3
     obtain ⟨E3,k3,e1,e2,hA3⟩:=alr_notes hn2 r1 E2 code k2 hR2
     have hN0:N T.length=(lead r1).map ntE:=by
      have:=hN 0
      rw [nts_t0 hc] at this
      exact this
     have hN2:∀j,N ((T++[t]).length+j)=(nts (bhd r1) j).map ntE:=fun j=>by
      have:=hN (j+1)
      rw [nts_t hc] at this
      rw [nts_bhd,List.length_append,List.length_singleton,Nat.add_assoc,Nat.add_comm 1 j]
      exact this
     have hb4:Rb ((T++[t])++tks (bhd r1)) progR (opD 1 (d00 N)) dz:=by rw [toks_bhd,List.append_assoc];exact hb
     have hlb:=len_bhd r1
     obtain ⟨f1,f2⟩:=ih (bhd r1) (T++[t]) L m2 _ _ _ E3 code k3 dz (by simp at hm;omega) hD2 d1 hb3 hgs (lead_bhd r1) hN2 hA3 hb4
     rw [toks_bhd,List.append_assoc] at f1 f2
     refine ⟨fun h=>?_,fun h=>?_⟩
     ·obtain ⟨a1,a2,E0,a3,a4⟩:=f1 h
      refine ⟨a1,a2,E1++⟨2,0,t⟩ :: (N T.length++E0),?_,?_⟩
      ·rw [e1,a3,hN0];simp
      ·rw [a4];simp
     ·obtain ⟨a1,a2,a3⟩:=f2 h
      rw [List.length_append,List.length_singleton] at a2 a3
      refine ⟨a1,by omega,?_⟩
      obtain ⟨q,hq⟩:∃q,dz.i-T.length=q+1:=⟨dz.i-(T.length+1),by omega⟩
      have hq2:dz.i-(T.length+1)=q:=by omega
      rw [hq,ps_t hc]
      rw [ps_bhd r1 q,e2,a3,hq2]
theorem alr_first {l:List Tv}{E:List Ev}{code:Int}{k:Nat}(h:Alr (.live [] 0) l E code k) (hl:l≠[]):∃E',Alr (.live (progR++[.lv 1]) 1) l E' code k∧(code=0→E=⟨1,1,tv0⟩ :: E'):=by
 cases l with
 |nil=>exact absurd rfl hl
 |cons t r=>
  rcases h.inv with ⟨ev,st',hp,hcd,rfl,rfl⟩|⟨ev,st',E2,k2,hp,hR2,rfl,rfl⟩
  ·cases hp with
   |note hh=>exact absurd rfl hcd
   |yes hh _ _ _=>exact absurd rfl hcd
   |no hh hR hk=>exact ⟨[],.err (.no hh ((ru_pre hR).1 rfl _) hk) hcd,fun e=>absurd e hcd⟩
   |deep hh hR hk hm=>
    obtain ⟨o,_,h5⟩:=(ru_pre hR).2 _ _ _ rfl
    exact ⟨[],.err (.deep hh (h5 _) hk hm) hcd,fun e=>absurd e hcd⟩
  ·cases hp with
   |note hh=>exact ⟨[⟨4,0,t⟩]++E2,.on (.note (K:=progR++[.lv 1]) (n:=1) hh) hR2,fun _=>rfl⟩
   |yes hh hR hk hm=>
    obtain ⟨o,e6,h5⟩:=(ru_pre hR).2 _ _ _ rfl
    refine ⟨(o++[⟨2,0,t⟩])++E2,.on (.yes (K:=progR++[.lv 1]) (n:=1) hh (h5 []) hk hm) hR2,fun _=>?_⟩
    rw [e6]
    rfl
theorem good_one:Good (.live (progR++[.lv 1]) 1):=(put_keep good_new (Putr.note (t:=⟨7,⟨#[]⟩,0,0,0,0⟩) rfl)).1
theorem alr_top {l:List Tv}{E:List Ev}{code:Int}{k:Nat}(h:Alr (.live [] 0) l E code k) {dz:D}(hb:Rb (tks l) progR (opD 1 (d00 (fun j=>(nts l j).map ntE))) dz) :
  (code=0→dz.e=0∧dz.i=(tks l).length∧∃E0,dz.v=⟨1,1,tv0⟩ :: E0∧E=⟨1,1,tv0⟩ :: ((lead l).map ntE++(E0++[⟨3,1,tv0⟩])))∧(code≠0→(dz.e=code∨(code=120∧dz.e=0∧dz.i<(tks l).length))∧k=ps l dz.i):=by
 by_cases hl:l=[]
 ·subst hl
  obtain ⟨hc,rfl⟩:=h.end
  obtain ⟨a,b,c⟩:=res_close (docAt_nil _) bo2_prog hb
  cases hc with
  |all hh=>simp at hh
  | «open» hh=>exact ⟨(fun h=>by cases h),fun _=>⟨.inl (c (by decide)),rfl⟩⟩
 ·obtain ⟨E1,h1,h2⟩:=alr_first h hl
  obtain ⟨E2,k2,e1,e2,h3⟩:=alr_notes (by decide) l E1 code k h1
  have hb':Rb ([]++tks (bhd l)) progR (opD 1 (d00 (fun j=>(nts l j).map ntE))) dz:=by rw [toks_bhd];exact hb
  obtain ⟨f1,f2⟩:=alr_rest _ (bhd l).length (bhd l) [] _ 1 _ _ _ E2 code k2 dz (Nat.le_refl _) (docAt_nil _) nw_prog bo2_prog good_one (lead_bhd l) (fun j=>by rw [nts_bhd,List.length_nil,Nat.zero_add]) h3 hb'
  rw [toks_bhd,List.nil_append] at f1 f2
  refine ⟨fun hz=>?_,fun hz=>?_⟩
  ·obtain ⟨a1,a2,E0,a3,a4⟩:=f1 hz
   exact ⟨a1,a2,E0,a4,by rw [h2 hz,e1,a3]⟩
  ·obtain ⟨a1,a2,a3⟩:=f2 hz
   refine ⟨a1,?_⟩
   rw [e2,ps_bhd l,a3]
   rfl
theorem below_dr {b:Nat}{w v:World}(h:Below b w v):∀m,Below b w (v.drewN m)
 |0=>h
 |m+1=>(below_dr h m).drew
theorem sstep_ev {W:World}{ops:Array Oper}{o:Oper}{a:Act}{K:Act→World→Prop}{Q:Exit→Act→World→Prop}{E:Prop}(hgd:o.guard=none) (s x:Operand)
  (ho:o.op=.call { callee:=.builtin .append,args:=#[s,x],argTypes:=#[34,34] }) (v:Value) (l:List Ev) (d:Ev) (hs:a.eval s=v) (hr:Re W v l)
  (g c:Nat) (hx:a.eval x=.slice (some ⟨g,0,none⟩) 1 c) (hg:W.heap[g]?=some (.cells #[.int .u8 d.k,.int .u8 d.n,.int .u8 d.d.k,.string d.d.t,.int .i64 d.d.a,.int .i64 d.d.l,.int .i64 d.d.c,.int .i64 d.d.f] 53 (0,0))) (hl:l.length≤1000000000)
  (h:∀q cap w',Re w' (.slice (some ⟨q,0,none⟩) (l.length+1) cap) (l++[d])→W.grownBy w' v.ownBlock→(v.ownBlock=some q∨q=W.heap.size)→K (a.put o.dst (.slice (some ⟨q,0,none⟩) (l.length+1) cap)) w') :
  if Region.wanted o (yielded ops a.tmps)=true then Oper.wp Tryz.prog o a W K Q else E:=by
 obtain ⟨i0,hi,hz0,hz1,hz2⟩:=info_parts Tryz.info53
 refine step_append_lies W hgd s x 34 ho 0 53 i0 _ 8 64 Tryz.underlying34 hi hz0 hz1 hz2 rfl (by decide) v _ _ hs hr ⟨g,0,none⟩ 1 c (ecs [d]) hx (by rw [ecs_len];rfl) ?_ (ecs_one [d]) (by omega) (by unfold maxLen;omega) (by omega) (Nat.zero_le _) _ rfl ?_
 ·intro j u hu
  refine World.news_of_block hg j u ?_
  have e:ecs [d]=[.int .u8 d.k,.int .u8 d.n,.int .u8 d.d.k,.string d.d.t,.int .i64 d.d.a,.int .i64 d.d.l,.int .i64 d.d.c,.int .i64 d.d.f]:=by simp [ecs,flat,Ev.cs]
  rw [e] at hu
  simpa using hu
 ·intro q cap w' a1 a2 a3 _
  refine h q cap w' ?_ a2 a3
  unfold Re
  rw [List.length_append,ecs_app]
  exact a1
abbrev pg (g:Nat):Value:=.pointer (some ⟨g,0,none⟩)
def SB (W:World) (g:Nat) (vl:Value) (i n:Nat) (ve:Value):Prop:=W.heap[g]?=some (.cells #[vl,.int .i64 (i:Int),.int .i64 (n:Int),ve] 86 (0,0))
theorem SB.cells {W:World}{g i n:Nat}{vl ve:Value}(h:SB W g vl i n ve) :
  W.cell? ⟨g,0,none⟩=some vl∧W.cell? ⟨g,1,none⟩=some (.int .i64 (i:Int))∧W.cell? ⟨g,2,none⟩=some (.int .i64 (n:Int))∧W.cell? ⟨g,3,none⟩=some ve:=
 ⟨blk_cell h rfl,blk_cell h rfl,blk_cell h rfl,blk_cell h rfl⟩
theorem SB.frozen {W:World}{g i n:Nat}{vl ve:Value}(h:SB W g vl i n ve) (j:Nat):W.frozen? ⟨g,j,none⟩=false:=blk_frozen h
theorem SB.kp {S:Nat→Prop}{W W':World}{g i n:Nat}{vl ve:Value}(h:SB W g vl i n ve) (hk:Kp S W W') (hS:¬S g):SB W' g vl i n ve:=hk.blk h hS
theorem SB.below {W W':World}{g i n:Nat}{vl ve:Value}(h:SB W g vl i n ve) (hb:Below W.heap.size W W'):SB W' g vl i n ve:=blk_below h hb
theorem SB.lt {W:World}{g i n:Nat}{vl ve:Value}(h:SB W g vl i n ve):g<W.heap.size:=blk_lt h
structure Sx where
 w0:World
 g:Nat
 ao:Option Addr
 cap:Nat
 l:List Tv
structure SV (X:Sx) (i n:Nat) (E:List Ev) (W:World):Prop where
 bel:Below X.w0.heap.size X.w0 W
 lt:Lt X.w0 X.ao X.l
 g0:X.w0.heap.size≤X.g
 hl:X.l.length≤4194304
 ex:∃ve,SB W X.g (.slice X.ao X.l.length X.cap) i n ve∧Re W ve E∧(∀k,ve.ownBlock=some k→X.w0.heap.size≤k)
theorem SV.below {X:Sx}{i n:Nat}{E:List Ev}{W W':World}(h:SV X i n E W) (hb:Below W.heap.size W W'):SV X i n E W':=by
 obtain ⟨ve,a,b,c⟩:=h.ex
 exact ⟨h.bel.trans (hb.mono h.bel.size),h.lt,h.g0,h.hl,ve,a.below hb,b.below hb,c⟩
theorem kp_low {S:Nat→Prop}{B:Nat}{w W W':World}(h:Below B w W) (hk:Kp S W W') (hS:∀k,S k→B≤k) (hB:B≤W.heap.size):Below B w W':=
 ⟨hk.os.trans h.os,hk.tape.trans h.tape,hk.output.trans h.output,Nat.le_trans h.size hk.size,fun k hlt=>(hk.block k (by omega) (fun hs=>by have:=hS k hs;omega)).trans (h.block k hlt)⟩
theorem SV.tok {X:Sx}{i n:Nat}{E:List Ev}{W:World}(h:SV X i n E W) {j:Nat}{t:Tv}(ht:X.l[j]?=some t):∃b off,X.ao=some ⟨b,off,none⟩∧W.cell? ⟨b,off+j*6,none⟩=some (.int .u8 t.k)∧W.cell? ⟨b,off+j*6+1,none⟩=some (.string t.t)∧W.cell? ⟨b,off+j*6+2,none⟩=some (.int .i64 t.a)∧W.cell? ⟨b,off+j*6+3,none⟩=some (.int .i64 t.l)∧W.cell? ⟨b,off+j*6+4,none⟩=some (.int .i64 t.c)∧W.cell? ⟨b,off+j*6+5,none⟩=some (.int .i64 t.f)∧b<W.heap.size:=by
 obtain ⟨b,off,e,c⟩:=(h.lt.below h.bel) j t ht
 exact ⟨b,off,e,c.1,c.2.1,c.2.2.1,c.2.2.2.1,c.2.2.2.2.1,c.2.2.2.2.2,World.block_lt_of_cell? _ _ c.1⟩
def Frm (X:Sx) (W W':World):Prop:=∀b cs T f,W.heap[b]?=some (.cells cs T f)→T≠53→b≠X.g→W'.heap[b]?=some (.cells cs T f)
theorem stold_mk {X:Sx}{i n:Nat}{E E':List Ev}{W W1 w3:World}(h:SV X i n E W) {ve:Value}(hs:SB W X.g (.slice X.ao X.l.length X.cap) i n ve) (hE:Re W ve E) (hv:∀k,ve.ownBlock=some k→X.w0.heap.size≤k) (hb:Below W.heap.size W W1) {q cap n':Nat}(hr:Re w3 (.slice (some ⟨q,0,none⟩) n' cap) E') (hg:W1.grownBy w3 ve.ownBlock) (hq:ve.ownBlock=some q∨q=W1.heap.size) :
  (w3.cell? ⟨X.g,3,none⟩=some ve∧w3.frozen? ⟨X.g,3,none⟩=false)∧SV X i n E' (w3.setCell ⟨X.g,3,none⟩ (.slice (some ⟨q,0,none⟩) n' cap))∧Frm X W (w3.setCell ⟨X.g,3,none⟩ (.slice (some ⟨q,0,none⟩) n' cap)):=by
 have h1:=hs.below hb
 have hne:¬some X.g=ve.ownBlock:=fun e=>(hE.below hb).ne h1 (by decide) X.g e.symm rfl
 have h3:SB w3 X.g (.slice X.ao X.l.length X.cap) i n ve:=h1.kp (Kp.of_grown hg) hne
 have hbl:=h.bel.trans (hb.mono h.bel.size)
 refine ⟨⟨blk_cell h3 rfl,h3.frozen 3⟩,⟨?_,h.lt,h.g0,h.hl,.slice (some ⟨q,0,none⟩) n' cap,blk_set h3 3 _,hr.kp (Kp.set _ _ _ _) (hr.ne h3 (by decide)),?_⟩,fun b cs T f hbk hT hbg=>?_⟩
 ·have k2:=(Kp.of_grown hg).sub (S:=fun k=>X.w0.heap.size≤k) (fun k e=>hv k e.symm)
  have b2:=kp_low hbl k2 (fun k e=>e) hbl.size
  exact kp_low b2 (Kp.set _ _ _ _) (fun k e=>by rw [e];exact h.g0) b2.size
 ·intro k e
  simp only [Value.ownBlock,Option.some.injEq] at e
  subst e
  rcases hq with hq|hq
  ·exact hv _ hq
  ·rw [hq];exact hbl.size
 ·have k1:=blk_below hbk hb
  have k2:=(Kp.of_grown hg).blk k1 (fun e=>(hE.below hb).ne k1 hT b e.symm rfl)
  exact (Kp.set w3 X.g 3 _).blk k2 hbg
set_option maxHeartbeats 1000000 in
theorem stell_any {X:Sx}{i n:Nat}{E:List Ev}{W:World}(h:SV X i n E W) (d:Ev) (hl:E.length≤1000000000) :
  Calls Tryz.prog 75 #[pg X.g,d.v] W fun r w'=>r=.returned (.tuple #[])∧SV X i n (E++[d]) w'∧Frm X W w':=by
 obtain ⟨ve,hs,hE,hv⟩:=h.ex
 obtain ⟨p,cap,rfl,_⟩:=hE.shape
 have HW:Hid (∀V,Below W.heap.size W V→Re V (.slice p E.length cap) E):=fun V hb=>hE.below hb
 have HT:Hid (∀W1 w3 q cp,Below W.heap.size W W1→Re w3 (.slice (some ⟨q,0,none⟩) (E.length+1) cp) (E++[d])→W1.grownBy w3 (Value.slice p E.length cap).ownBlock→((Value.slice p E.length cap).ownBlock=some q∨q=W1.heap.size)→(w3.cell? ⟨X.g,3,none⟩=some (.slice p E.length cap)∧w3.frozen? ⟨X.g,3,none⟩=false)∧SV X i n (E++[d]) (w3.setCell ⟨X.g,3,none⟩ (.slice (some ⟨q,0,none⟩) (E.length+1) cp))∧Frm X W (w3.setCell ⟨X.g,3,none⟩ (.slice (some ⟨q,0,none⟩) (E.length+1) cp))):=
  fun W1 w3 q cp hb h1 h2 h3=>stold_mk h hs hE hv hb h1 h2 h3
 obtain ⟨c0,c1,c2,c3⟩:=hs.cells
 have hf:=hs.frozen 3
 have hg:=hs.lt
 clear h hE hs hv
 dsimp only [Ev.v]
 obtain ⟨⟨k0,n0,⟨k1,t,a,l,cc,f⟩⟩,hd⟩:∃x,d=x:=⟨_,rfl⟩
 subst hd
 go_enter Tryz.func75,Tryz.ntmps75
 go_wp2_with fail
 obtain ⟨W1,e1⟩:∃W1,W.alloc (.cells #[.int .u8 k0,.int .u8 n0,.int .u8 k1,.string t,.int .i64 a,.int .i64 l,.int .i64 cc,.int .i64 f] 53)=W1:=⟨_,rfl⟩
 have hb:Below W.heap.size W W1:=by rw [←e1];exact (Below.refl _ _).alloc (Nat.le_refl _) _
 have hn:W1.heap[W.heap.size]?=some (.cells #[.int .u8 k0,.int .u8 n0,.int .u8 k1,.string t,.int .i64 a,.int .i64 l,.int .i64 cc,.int .i64 f] 53):=by rw [←e1];exact new_at _ _
 rw [e1]
 clear e1
 have m0:W1.cell? ⟨W.heap.size,0,none⟩=_:=blk_cell hn rfl
 have m1:W1.cell? ⟨W.heap.size,1,none⟩=_:=blk_cell hn rfl
 have m2:W1.cell? ⟨W.heap.size,2,none⟩=_:=blk_cell hn rfl
 have m3:W1.cell? ⟨W.heap.size,3,none⟩=_:=blk_cell hn rfl
 have m4:W1.cell? ⟨W.heap.size,4,none⟩=_:=blk_cell hn rfl
 have m5:W1.cell? ⟨W.heap.size,5,none⟩=_:=blk_cell hn rfl
 have m6:W1.cell? ⟨W.heap.size,6,none⟩=_:=blk_cell hn rfl
 have m7:W1.cell? ⟨W.heap.size,7,none⟩=_:=blk_cell hn rfl
 have d4:W1.cell? ⟨X.g,3,none⟩=some (.slice p E.length cap):=(hb.cell hg).trans c3
 have HB:Hid (∀o,Below W.heap.size W (W1.drew.alloc o)):=fun o=>(hb.drew).alloc hb.size _
 have hg1:X.g<W1.heap.size:=Nat.lt_of_lt_of_le hg hb.size
 clear hb hn c0 c1 c2 c3 hf hg
 go_region_law (refine sstep_ev (by rfl) _ _ (by rfl) (.slice p E.length cap) E ⟨k0,n0,⟨k1,t,a,l,cc,f⟩⟩ (by rfl) (HW.out _ (HB.out _)) W1.heap.size 1 (by rfl) (new_at W1.drew _) hl ?_;intro q cp w3 hr3 hg3 hq3;obtain ⟨⟨x1,x2⟩,x3⟩:=HT.out _ w3 q cp (HB.out _) hr3 hg3 hq3;have HX:=hid x3;clear x3 hr3 hg3 hq3)
 all_goals (
  go_wp2_with fail
  go_end0
  exact ⟨rfl,HX.out⟩)
def sets6 (w:World) (b:Nat) (t:Tv):World:=((((((w.setCell ⟨b,0,none⟩ (.int .u8 t.k)).setCell ⟨b,1,none⟩ (.string t.t)).setCell ⟨b,2,none⟩ (.int .i64 t.a)).setCell ⟨b,3,none⟩ (.int .i64 t.l)).setCell ⟨b,4,none⟩ (.int .i64 t.c)).setCell ⟨b,5,none⟩ (.int .i64 t.f))
abbrev TokB (t:Tv):Obj:=.cells #[.int .u8 t.k,.string t.t,.int .i64 t.a,.int .i64 t.l,.int .i64 t.c,.int .i64 t.f] 42
theorem sets6_at {w:World}{b:Nat}{t0:Tv}(t:Tv) (h:w.heap[b]?=some (TokB t0)):(sets6 w b t).heap[b]?=some (TokB t):=blk_set (blk_set (blk_set (blk_set (blk_set (blk_set h 0 _) 1 _) 2 _) 3 _) 4 _) 5 _
theorem sets6_below {B:Nat}{w0 w:World}{b:Nat}(t:Tv) (h:Below B w0 w) (hb:B≤b):Below B w0 (sets6 w b t):=(((((h.setCell hb _).setCell hb _).setCell hb _).setCell hb _).setCell hb _).setCell hb _
theorem tk_cells {W:World}{b:Nat}{t:Tv}(h:W.heap[b]?=some (TokB t)):W.cell? ⟨b,0,none⟩=some (.int .u8 t.k)∧W.cell? ⟨b,1,none⟩=some (.string t.t)∧W.cell? ⟨b,2,none⟩=some (.int .i64 t.a)∧W.cell? ⟨b,3,none⟩=some (.int .i64 t.l)∧W.cell? ⟨b,4,none⟩=some (.int .i64 t.c)∧W.cell? ⟨b,5,none⟩=some (.int .i64 t.f):=
 ⟨blk_cell h rfl,blk_cell h rfl,blk_cell h rfl,blk_cell h rfl,blk_cell h rfl,blk_cell h rfl⟩
def nx (X:Sx) (i:Nat):Tv:=X.l[i]?.getD tv0
set_option maxHeartbeats 1000000 in
theorem snext_any {X:Sx}{i n:Nat}{E:List Ev}{W:World}(h:SV X i n E W) (hi:i≤X.l.length) :
  Calls Tryz.prog 110 #[pg X.g] W fun e w'=>e=.returned (nx X i).v∧Below W.heap.size W w':=by
 obtain ⟨ve,hs,hE,hv⟩:=h.ex
 obtain ⟨c0,c1,c2,c3⟩:=hs.cells
 have hgl:=hs.lt
 have hl:=h.hl
 by_cases hlt:i<X.l.length
 ·obtain ⟨t,ht⟩:∃t,X.l[i]?=some t:=⟨_,List.getElem?_eq_getElem hlt⟩
  obtain ⟨b,off,e0,x0,x1,x2,x3,x4,x5,xl⟩:=h.tok ht
  have hn:nx X i=t:=by simp [nx,ht]
  rw [hn]
  rw [e0] at c0
  have q1:((i:Int) == (X.l.length:Int))=false:=by simp;omega
  have q2:(0:Int)≤i:=by omega
  have q3:(i:Int)<X.l.length:=by omega
  have HX:Hid (∀m,Below W.heap.size W (sets6 ((W.alloc (TokB tv0)).drewN m) W.heap.size t)):=fun m=>sets6_below t (below_dr ((Below.refl _ _).alloc (Nat.le_refl _) _) m) (Nat.le_refl _)
  clear h hs hE hn ht e0
  dsimp only [Tv.v]
  go_enter Tryz.func110,Tryz.ntmps110
  go_wp2_with fail
  go_quiet (fail)
  go_wp2_with fail
  go_region
  all_goals (
   go_wp2_with fail
   refine bodyPost_ret (v:=.agg #[.int .u8 t.k,.string t.t,.int .i64 t.a,.int .i64 t.l,.int .i64 t.c,.int .i64 t.f]) (by simp [results,Tryz.f110,go_sem]) rfl ?_
   exact ⟨rfl,HX.out _⟩)
 ·obtain rfl:i=X.l.length:=by omega
  have hn:nx X X.l.length=tv0:=by simp [nx]
  rw [hn]
  have q1:((X.l.length:Int) == (X.l.length:Int))=true:=by simp
  have HX:Hid (∀m,Below W.heap.size W (sets6 ((W.alloc (TokB tv0)).drewN m) W.heap.size tv0)):=fun m=>sets6_below tv0 (below_dr ((Below.refl _ _).alloc (Nat.le_refl _) _) m) (Nat.le_refl _)
  clear h hs hE hn
  dsimp only [Tv.v,tv0] at HX ⊢
  go_enter Tryz.func110,Tryz.ntmps110
  go_wp2_with fail
  go_quiet (fail)
  go_wp2_with fail
  refine bodyPost_ret (v:=.agg #[.int .u8 0,.string ⟨#[]⟩,.int .i64 0,.int .i64 0,.int .i64 0,.int .i64 0]) (by simp [results,Tryz.f110,go_sem]) rfl ?_
  exact ⟨rfl,HX.out _⟩
def kt (k:Int) (t:Tv):ByteArray:=if t.k == k then t.t else ⟨#[]⟩
set_option maxHeartbeats 1000000 in
theorem stext_any {X:Sx}{i n:Nat}{E:List Ev}{W:World}(h:SV X i n E W) (hi:i≤X.l.length) (k:Int) :
  Calls Tryz.prog 159 #[pg X.g,.int .u8 k] W fun e w'=>e=.returned (.string (kt k (nx X i)))∧Below W.heap.size W w':=by
 have H:Hid (∀V,Below W.heap.size W V→Calls Tryz.prog 110 #[pg X.g] V fun e w'=>e=.returned (nx X i).v∧Below V.heap.size V w'):=fun V hb=>snext_any (h.below hb) hi
 clear h
 generalize nx X i=t at *
 have HB:Hid (∀w1,Below W.heap.size W w1→Below W.heap.size W (w1.alloc (TokB t))):=fun w1 hb=>hb.alloc hb.size _
 by_cases hk:(t.k == k)=true
 ·have hk2:kt k t=t.t:=by simp [kt,hk]
  rw [hk2]
  dsimp only [Tv.v] at H
  go_enter Tryz.func159,Tryz.ntmps159
  go_wp2_with (go_at_call 110;refine (H.out _ (Below.refl _ _)).mono ?_;rintro e w1 ⟨rfl,hb1⟩)
  go_ret
  exact ⟨rfl,HB.out _ hb1⟩
 ·have hk':(t.k == k)=false:=by simpa using hk
  have hk2:kt k t=⟨#[]⟩:=by simp [kt,hk']
  rw [hk2]
  clear hk
  dsimp only [Tv.v] at H
  go_enter Tryz.func159,Tryz.ntmps159
  go_wp2_with (go_at_call 110;refine (H.out _ (Below.refl _ _)).mono ?_;rintro e w1 ⟨rfl,hb1⟩)
  go_ret
  exact ⟨rfl,HB.out _ hb1⟩
theorem skey_any {X:Sx}{i n:Nat}{E:List Ev}{W:World}(h:SV X i n E W) (hi:i≤X.l.length) :
  Calls Tryz.prog 132 #[pg X.g] W fun e w'=>e=.returned (.string (kt 2 (nx X i)))∧Below W.heap.size W w':=by
 have H:Hid (Calls Tryz.prog 159 #[pg X.g,.int .u8 2] W fun e w'=>e=.returned (.string (kt 2 (nx X i)))∧Below W.heap.size W w'):=stext_any h hi 2
 clear h
 go_enter Tryz.func132,Tryz.ntmps132
 go_wp2_with (go_at_call 159;refine H.out.mono ?_;rintro e w1 ⟨rfl,hb1⟩)
 go_ret
 exact ⟨rfl,hb1⟩
theorem ssign_any {X:Sx}{i n:Nat}{E:List Ev}{W:World}(h:SV X i n E W) (hi:i≤X.l.length) :
  Calls Tryz.prog 133 #[pg X.g] W fun e w'=>e=.returned (.string (kt 6 (nx X i)))∧Below W.heap.size W w':=by
 have H:Hid (Calls Tryz.prog 159 #[pg X.g,.int .u8 6] W fun e w'=>e=.returned (.string (kt 6 (nx X i)))∧Below W.heap.size W w'):=stext_any h hi 6
 clear h
 go_enter Tryz.func133,Tryz.ntmps133
 go_wp2_with (go_at_call 159;refine H.out.mono ?_;rintro e w1 ⟨rfl,hb1⟩)
 go_ret
 exact ⟨rfl,hb1⟩
abbrev stop (c:Int) (i:Nat):List PanicEntry:=[{ v:=.iface 82 (.agg #[.int .i64 c,.int .i64 (i:Int)]),recovered:=false }]
set_option maxHeartbeats 1000000 in
theorem refuse_any {X:Sx}{i n:Nat}{E:List Ev}{W:World}(h:SV X i n E W) :
  Calls Tryz.prog 81 #[pg X.g] W fun e w'=>e=.panicked (stop (if i=X.l.length then 121 else 120) i)∧Below W.heap.size W w':=by
 obtain ⟨ve,hs,hE,hv⟩:=h.ex
 obtain ⟨c0,c1,c2,c3⟩:=hs.cells
 have hgl:=hs.lt
 have hl:=h.hl
 have HB:Hid (∀m,Below W.heap.size W (W.drewN m)):=fun m=>below_dr (Below.refl _ _) m
 by_cases hi:i=X.l.length
 ·rw [if_pos hi]
  have q1:((i:Int) == (X.l.length:Int))=true:=by simp [hi]
  clear h hs hE hi
  go_enter Tryz.func81,Tryz.ntmps81
  go_wp2_with fail
  go_quiet (fail)
  go_wp2_with fail
  exact ⟨rfl,rfl,HB.out _⟩
 ·rw [if_neg hi]
  have q1:((i:Int) == (X.l.length:Int))=false:=by simp;omega
  clear h hs hE hi
  go_enter Tryz.func81,Tryz.ntmps81
  go_wp2_with fail
  go_quiet (fail)
  go_wp2_with fail
  exact ⟨rfl,rfl,HB.out _⟩
end Go.Proofs.YtkigadnkclkopaaGreatDoor
