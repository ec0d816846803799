import Derived.Test.YtpdlohfdjiaegaaGreatDoorM06
import Derived.Test.YtpdlohfdjiaegaaGreatDoorM38
set_option linter.unusedVariables false
set_option linter.unusedSimpArgs false
namespace Go.Proofs.YtpdlohfdjiaegaaGreatDoor
open Go.RowKit
open Lw (Dc bE rt frm dep rtT rtN lsb edg)
theorem lsb_by8 (T:ByteArray) (i:Nat) (h:i<T.size):((lsb T).getD i 0).toNat=Lx.by8 T i:=by
 have h':i<T.data.size:=h
 have e1:(lsb T).getD i 0=T.data[i]:=by
  unfold lsb
  rw [List.getD_eq_getElem?_getD,List.getElem?_eq_getElem (by simpa using h')]
  simp
 rw [e1]
 unfold Lx.by8
 show _=(T.data[i]!).toNat
 rw [getElem!_pos T.data i h']
theorem tx_rt {k:Nat}{T:ByteArray}(h:Lx.Tx k T):rtT T=true:=by
 obtain ⟨⟨a1,a2⟩,⟨b1,b2⟩,c⟩:=Lx.tx_edge h
 have hp:=h.pos
 have e0:=lsb_by8 T 0 hp
 have e1:=lsb_by8 T (T.size-1) (by omega)
 have key:∀x:UInt8,x.toNat≠32→x.toNat≠10→edg x=false:=by
  intro x h1 h2
  unfold edg
  rw [Bool.or_eq_false_iff]
  exact ⟨beq_eq_false_iff_ne.2 (fun e=>h1 (by rw [e];rfl)),beq_eq_false_iff_ne.2 (fun e=>h2 (by rw [e];rfl))⟩
 unfold rtT
 rw [key _ (by rw [e0];exact a1) (by rw [e0];exact a2),key _ (by rw [e1];exact b1) (by rw [e1];exact b2),decide_eq_true c,decide_eq_true (show 1≤T.size by omega)]
 rfl
structure Tks (l:List Tv):Prop where
 tx:∀t∈l,∃k,Lx.Tx k t.t∧t.k=(Lx.kOf k t.t:Nat)
 ln:∀(i:Nat) t u,l[i]?=some t→l[i+1]?=some u→t.k=7→1≤u.f
 fd:∀t∈l,0≤t.f
theorem Tks.tail {t:Tv}{l:List Tv}(h:Tks (t :: l)):Tks l:=⟨fun x hx=>h.tx x (List.mem_cons_of_mem _ hx),fun i x u h1 h2 h3=>h.ln (i+1) x u h1 h2 h3,fun x hx=>h.fd x (List.mem_cons_of_mem _ hx)⟩
theorem stk_tks (s:ByteArray) (h:(Lx.scn s).2.1=0):Tks ((Lx.scn s).1.map (Lx.tv s)):=by
 obtain ⟨h1,_,h3⟩:=Lx.fnd_tx s _ 0 0 (Nat.le_refl _) h
 refine ⟨?_,?_,?_⟩
 ·intro t ht
  obtain ⟨x,hx,rfl⟩:=List.mem_map.1 ht
  obtain ⟨k,a,b⟩:=h1 x hx
  exact ⟨k,a,by show (x.k:Int)=_;rw [b];rfl⟩
 ·intro i t u ht hu hk
  rw [List.getElem?_map] at ht hu
  obtain ⟨x,hx,rfl⟩:=Option.map_eq_some_iff.1 ht
  obtain ⟨y,hy,rfl⟩:=Option.map_eq_some_iff.1 hu
  have:=h3 i x y hx hy (by have:(x.k:Int)=7:=hk;omega)
  show (1:Int)≤(y.f:Int)
  omega
 ·intro t ht
  obtain ⟨x,hx,rfl⟩:=List.mem_map.1 ht
  show (0:Int)≤(x.f:Int)
  omega
theorem ru_nodes {t:Tv}{k:Nat}{K:List It}{n:Int}{E:List Ev}{R:Ro}(h:Ru t k K n E R):∀{L:List It}{m:Int}{F:List Ev},R=.yes L m F→(∀e∈E,e.k=1→1≤e.n∧e.n≤32)→∀e∈F,e.k=1→1≤e.n∧e.n≤32:=by
 induction h with
 |nil=>intro L m F h;cases h
 |ref _=>intro L m F h;cases h
 |tk hs=>intro L m F h hE;cases h;exact hE
 |go hs _ ih=>
  rename_i k i K n d E o r R _
  intro L m F h hE
  refine ih h (fun e he=>(List.mem_append.1 he).elim (hE e) (fun ho=>?_))
  cases i with
  |fl x=>
   have hm:∃m,x=.mt m:=by
    cases x with
    |mt m=>exact ⟨m,rfl⟩
    |_=>simp only [It.step,Fl.step] at hs;split at hs <;> cases hs
   obtain ⟨m,rfl⟩:=hm
   have hr:=row_ok t m
   simp only [It.step,Fl.step] at hs
   cases hrow:M.row t m with
   |ref=>rw [hrow] at hs;cases hs
   |ex r'=>rw [hrow] at hs;cases hs;simp at ho
   |op nd r'=>
    rw [hrow] at hs hr
    cases hs
    simp at ho
    subst ho
    intro _
    have:=hr.2.2.2
    exact ⟨by show 1≤nd;omega,this.2⟩
  |lv a=>cases hs;simp at ho;subst ho;intro h;cases h
  |once p=>cases hs;simp at ho
  |again p=>cases hs;simp at ho
  |all r'=>cases hs;simp at ho
def spx:Sy→List Ev→Option (Sy × List Dc)
 |s,[]=>some (s,[])
 |s,e :: r=>match sput s e with
  |none=>none
  |some (s1,l)=>(spx s1 r).map (fun x=>(x.1,l++x.2))
theorem spx_brk {o:List Ev}(hB:Brk o) (hn:∀e∈o,e.k=1→1≤e.n∧e.n≤32):∀(s:Sy) {l:List Int},play s.ks o=some l→spx s o=some (sfold s o,[])∧(sfold s o).ks=l:=by
 induction o with
 |nil=>intro s l h;cases h;exact ⟨rfl,rfl⟩
 |cons e o ih=>
  intro s l h
  have hB':Brk o:=fun x hx=>hB x (List.mem_cons_of_mem _ hx)
  have hn':∀x∈o,x.k=1→1≤x.n∧x.n≤32:=fun x hx=>hn x (List.mem_cons_of_mem _ hx)
  rw [sfold_cons]
  simp only [spx]
  rcases hB e (List.mem_cons_self ..) with h1|h3
  ·have hm:s.may e=true:=by
    obtain ⟨a,b⟩:=hn e (List.mem_cons_self ..) h1
    unfold Sy.may
    rw [if_pos h1,decide_eq_true a,decide_eq_true b];rfl
   have hp:sput s e=some (s.opens e.n,[]):=by unfold sput;rw [if_pos hm,step_open s h1]
   rw [hp,step_open s h1]
   simp only [play,if_pos h1] at h
   rw [←opens_ks] at h
   obtain ⟨a,b⟩:=ih hB' hn' _ h
   exact ⟨by simp only [a,Option.map_some,List.nil_append],b⟩
  ·have h1:¬e.k=1:=by omega
   simp only [play,if_neg h1,if_pos h3] at h
   cases hk:s.ks with
   |nil=>rw [hk] at h;cases h
   |cons n r=>
    rw [hk] at h
    simp only at h
    split at h
    ·rename_i hne
     have hm:s.may e=true:=by
      unfold Sy.may
      rw [if_neg h1,if_pos h3]
      unfold Sy.ks at hk
      cases hc:s.ns with
      |nil=>rw [hc] at hk;cases hk
      |cons nd ns=>rw [hc,List.map_cons] at hk;injection hk with k1 k2;exact decide_eq_true (k1.trans hne)
     have hp:sput s e=some (s.leaves,[]):=by unfold sput;rw [if_pos hm,step_close s h3]
     rw [hp,step_close s h3]
     have hl:s.leaves.ks=r:=by rw [leaves_ks,hk];rfl
     rw [←hl] at h
     obtain ⟨a,b⟩:=ih hB' hn' _ h
     exact ⟨by simp only [a,Option.map_some,List.nil_append],b⟩
    ·cases h
end Go.Proofs.YtpdlohfdjiaegaaGreatDoor
namespace Go.Proofs.YtpdlohfdjiaegaaGreatDoor
open Go.RowKit
open Lw (Dc bE rt frm dep rtT rtN)
theorem begE_fine (n:Int):Brk (begE n)∧(∀e∈begE n,e.k=1→1≤e.n∧e.n≤32):=by
 unfold begE
 split
 ·exact ⟨fun e he=>by simp at he;subst he;exact .inl rfl,fun e he _=>by simp at he;subst he;exact ⟨by decide,by decide⟩⟩
 ·exact ⟨fun e he=>by simp at he,fun e he=>by simp at he⟩
theorem put_spx {K:List It}{n:Int}{s:Sy}{t:Tv}{ev:List Ev}{st':Pst}(hg:Good (.live K n)) (hk:s.ks=lvs K) (hp:Putr t (.live K n) ev 0 st') :
  ∃o e K' n',ev=o++[e]∧st'=.live K' n'∧Good (.live K' n')∧Brk o∧(∀e∈o,e.k=1→1≤e.n∧e.n≤32)∧play s.ks o=some (lvs K')∧1≤(lvs K').length∧e=⟨if (t.k == 7 || t.k == 8)=true then 4 else 2,0,t⟩:=by
 obtain ⟨b1,b2,b3,b4,b5,hbot,hbn,hbe⟩:=good_beg hg
 obtain ⟨c1,c2⟩:=begE_fine n
 have hgk:=(put_keep hg hp).1
 cases hp with
 |note hc=>
  exact ⟨begE n,_,_,_,rfl,rfl,hgk,c1,c2,by rw [hk];exact b4,bot_lv hbot,by rw [if_pos hc]⟩
 |yes hc hR hkk hm=>
  rename_i L m E kk
  obtain ⟨d1,d2,d3,o,d4,d5,d6,d7⟩:=ru_keep hR rfl b1 b2 b3
  have hn:=ru_nodes hR rfl c2
  have hL:=ru_bot hR rfl hbot
  refine ⟨E,_,_,_,rfl,rfl,hgk,?_,hn,?_,bot_lv hL,by rw [if_neg (by rw [hc];decide)]⟩
  ·rw [d4]
   intro e he
   rcases List.mem_append.1 he with he|he
   ·exact c1 e he
   ·exact (d6 e he).2.1
  ·rw [d4,hk]
   exact (play_app _ _ _ _ b4).trans d5
def pck (ln:Bool):Bool→Bool→List Dc→Option (Bool × Bool)
 |h,l,[]=>some (h,l)
 |h,l,d :: r=>if d.k=1 then (if l=true∧h=false then none else pck ln false ln r) else pck ln (h || decide (d.k=4)) l r
def evL (e:Ev):Bool:=decide (e.k=4) && decide (e.d.k=7)
def nck:Sy→Bool→Bool→List Ev→Prop
 |_,_,_,[]=>True
 |s,h,l,e :: r=>∃s' m h' l',sput s e=some (s',m)∧pck (evL e) h l m=some (h',l')∧nck s' h' l' r
theorem pck_app {ln:Bool}:∀(m r:List Dc) (h l:Bool),(∀d∈m,d.k≠1)→pck ln h l (m++r)=pck ln (h || m.any isHd) l r
 |[],r,h,l,_=>by simp
 |d :: m,r,h,l,hn=>by
  simp only [pck,List.cons_append]
  rw [if_neg (hn d (List.mem_cons_self ..)),pck_app m r _ _ (fun x hx=>hn x (List.mem_cons_of_mem _ hx)),List.any_cons,Bool.or_assoc]
  rfl
theorem nck_brk {o:List Ev}(hB:Brk o) (hn:∀e∈o,e.k=1→1≤e.n∧e.n≤32) {r:List Ev}{h l:Bool}:∀(s:Sy) {ks:List Int},play s.ks o=some ks→nck (sfold s o) h l r→nck s h l (o++r):=by
 induction o with
 |nil=>intro s ks _ h;exact h
 |cons e o ih=>
  intro s ks hp hr
  have h1:=(spx_brk hB hn s hp).1
  simp only [spx] at h1
  cases hs:sput s e with
  |none=>rw [hs] at h1;cases h1
  |some x=>
   obtain ⟨s1,m⟩:=x
   have hst:s.step e=(s1,m):=by
    unfold sput at hs
    split at hs
    ·exact Option.some.inj hs
    ·cases hs
   have hm:m=[]:=by
    rcases hB e (List.mem_cons_self ..) with h2|h2
    ·rw [step_open s h2] at hst;injection hst with _ h3;exact h3.symm
    ·rw [step_close s h2] at hst;injection hst with _ h3;exact h3.symm
   subst hm
   rw [sfold_cons,hst] at hr
   refine ⟨s1,[],h,l,hs,rfl,ih (fun x hx=>hB x (List.mem_cons_of_mem _ hx)) (fun x hx=>hn x (List.mem_cons_of_mem _ hx)) s1 (ks:=ks) ?_ hr⟩
   rcases hB e (List.mem_cons_self ..) with h2|h2
   ·rw [step_open s h2] at hst
    injection hst with h3
    simp only [play,if_pos h2] at hp
    rw [←h3,opens_ks];exact hp
   ·rw [step_close s h2] at hst
    injection hst with h3
    simp only [play] at hp
    rw [if_neg (by omega),if_pos h2] at hp
    rw [←h3,leaves_ks]
    cases hk:s.ks with
    |nil=>rw [hk] at hp;cases hp
    |cons a b=>
     rw [hk] at hp
     simp only at hp
     split at hp
     ·exact hp
     ·cases hp
theorem sfold_flags {o:List Ev}(hB:Brk o):∀s:Sy,(sfold s o).en=s.en∧(sfold s o).pt=s.pt∧(sfold s o).wr=s.wr:=by
 have haw:∀(l:List Pz) (s:Sy),(s.aws l).en=s.en∧(s.aws l).pt=s.pt∧(s.aws l).wr=s.wr:=by
  intro l
  induction l with
  |nil=>intro s;exact ⟨rfl,rfl,rfl⟩
  |cons p l ih=>intro s;rw [aws_cons];exact ih (s.aw p)
 have hex:∀s:Sy,s.exprIn.en=s.en∧s.exprIn.pt=s.pt∧s.exprIn.wr=s.wr:=by
  intro s
  unfold Sy.exprIn
  split
  ·exact ⟨rfl,rfl,rfl⟩
  ·show (Sy.en (if _ then _ else if _ then _ else _))=_∧(Sy.pt (if _ then _ else if _ then _ else _))=_∧(Sy.wr (if _ then _ else if _ then _ else _))=_
   repeat' split
   ·exact haw _ _
   ·exact haw _ _
   ·exact ⟨rfl,rfl,rfl⟩
 have hmk:∀(s:Sy) (k:Int),(s.mark k).en=s.en∧(s.mark k).pt=s.pt∧(s.mark k).wr=s.wr:=by
  intro s k;unfold Sy.mark;split <;> exact ⟨rfl,rfl,rfl⟩
 have hop:∀(s:Sy) (k:Int),(s.opens k).en=s.en∧(s.opens k).pt=s.pt∧(s.opens k).wr=s.wr:=by
  intro s k
  unfold Sy.opens
  simp only
  obtain ⟨a1,a2,a3⟩:=haw (opP k) { ((if k=21 then s.exprIn else s).mark k) with ns:=⟨k,0,false⟩ :: ((if k=21 then s.exprIn else s).mark k).ns }
  obtain ⟨b1,b2,b3⟩:=hmk (if k=21 then s.exprIn else s) k
  have hc:(if k=21 then s.exprIn else s).en=s.en∧(if k=21 then s.exprIn else s).pt=s.pt∧(if k=21 then s.exprIn else s).wr=s.wr:=by
   split
   ·exact hex s
   ·exact ⟨rfl,rfl,rfl⟩
  exact ⟨a1.trans (b1.trans hc.1),a2.trans (b2.trans hc.2.1),a3.trans (b3.trans hc.2.2)⟩
 have hlv:∀s:Sy,s.leaves.en=s.en∧s.leaves.pt=s.pt∧s.leaves.wr=s.wr:=by
  intro s;unfold Sy.leaves;split <;> exact ⟨rfl,rfl,rfl⟩
 induction o with
 |nil=>intro s;exact ⟨rfl,rfl,rfl⟩
 |cons e o ih=>
  intro s
  rw [sfold_cons]
  obtain ⟨a1,a2,a3⟩:=ih (fun x hx=>hB x (List.mem_cons_of_mem _ hx)) (s.step e).1
  rcases hB e (List.mem_cons_self ..) with h2|h2
  ·rw [step_open s h2] at a1 a2 a3 ⊢
   obtain ⟨b1,b2,b3⟩:=hop s e.n
   exact ⟨a1.trans b1,a2.trans b2,a3.trans b3⟩
  ·rw [step_close s h2] at a1 a2 a3 ⊢
   obtain ⟨b1,b2,b3⟩:=hlv s
   exact ⟨a1.trans b1,a2.trans b2,a3.trans b3⟩
theorem snd_fold {L:List Dc}{o:List Ev}(hB:Brk o):∀{s:Sy},Snd L s→Snd L (sfold s o):=by
 induction o with
 |nil=>intro s h;exact h
 |cons e o ih=>
  intro s h
  rw [sfold_cons]
  refine ih (fun x hx=>hB x (List.mem_cons_of_mem _ hx)) ?_
  rcases hB e (List.mem_cons_self ..) with h2|h2
  ·rw [step_open s h2];exact (h.opens e.n).1
  ·rw [step_close s h2];exact h.leaves.1
theorem pck_txt (ln h l:Bool) (P:List Dc) (t:ByteArray) (hP:∀d∈P,d.k≠1) (hh:l=true→(h || P.any isHd)=true):pck ln h l (P++[dT t])=some (false,ln):=by
 rw [pck_app P _ h l hP]
 simp only [pck]
 rw [if_pos (show (dT t).k=1 from rfl),if_neg]
 rintro ⟨a,b⟩
 rw [hh a] at b
 cases b
theorem ready_hd {s:Sy}(h:s.en=true) (a:Fx) (f:Int):(s.ready a f).ws.any isHd=true:=by
 have haw:∀(l:List Pz) (s:Sy),(s.aws l).en=s.en:=by
  intro l
  induction l with
  |nil=>intro s;rfl
  |cons p l ih=>intro s;rw [aws_cons];exact ih (s.aw p)
 have hem:∀s:Sy,(s.emp f).en=s.en:=by
  intro s;unfold Sy.emp;split
  ·rfl
  ·split <;> rfl
 have he:(((s.aws a.pz).emp f).endl).ws.any isHd=true:=by
  unfold Sy.endl
  split
  ·rfl
  ·rename_i hc
   have e1:((s.aws a.pz).emp f).en=true:=by rw [hem,haw,h]
   cases hb:((s.aws a.pz).emp f).ws.any isHd with
   |true=>rfl
   |false=>exact absurd ⟨e1,hb⟩ hc
 unfold Sy.ready
 generalize ((s.aws a.pz).emp f).endl=u at he
 unfold Sy.part
 split
 ·show (u.ws++[dS]).any isHd=true
  rw [List.any_append,he,Bool.true_or]
 ·exact he
theorem nck_all:∀(l:List Tv) (K:List It) (n:Int) (s:Sy) (E:List Ev) (a:Nat) (h ln:Bool) (L:List Dc),Alr (.live K n) l E 0 a→Good (.live K n)→s.ks=lvs K→Tks l→Snd L s→(ln=true→s.en=true∧s.wr=true∧∀t,l[0]?=some t→1≤t.f)→nck s h ln E
 |[],K,n,s,E,a,h,ln,L,hA,hg,hk,hT,hS,hl=>by
  obtain ⟨hc,_⟩:=hA.end
  cases hc with
  |all hK=>
   have hb:Bot K:=by
    rcases hg.2 with ⟨_,h2⟩|h2
    ·rw [h2] at hK;cases hK
    ·exact h2
   obtain ⟨X,rfl⟩:=hb
   have hX:X=[]:=by
    rw [List.length_append] at hK
    exact List.eq_nil_of_length_eq_zero (by have:X.length+1=1:=hK;omega)
   subst hX
   have hk1:s.ks=[1]:=hk
   have hm:s.may ⟨3,1,tv0⟩=true:=by
    unfold Sy.may
    rw [if_neg (by decide),if_pos rfl]
    unfold Sy.ks at hk1
    cases hc:s.ns with
    |nil=>rw [hc] at hk1;cases hk1
    |cons nd ns=>rw [hc,List.map_cons] at hk1;injection hk1 with k1 k2;exact decide_eq_true k1
   exact ⟨s.leaves,[],h,ln,by unfold sput;rw [if_pos hm,step_close s rfl],rfl,trivial⟩
 |t :: l,K,n,s,E,a,h,ln,L,hA,hg,hk,hT,hS,hl=>by
  rcases hA.inv with ⟨_,_,_,hc,_⟩|⟨ev,st',E2,k2,hp,hA2,rfl,rfl⟩
  ·exact absurd rfl hc
  ·obtain ⟨o,e,K',n',rfl,rfl,hg',hB,hn,hpl,hlen,rfl⟩:=put_spx hg hk hp
   rw [List.append_assoc]
   refine nck_brk hB hn s hpl ?_
   obtain ⟨g1,g2,g3⟩:=sfold_flags hB s
   have hS1:=snd_fold hB hS
   have hk1:=(spx_brk hB hn s hpl).2
   obtain ⟨s1,hs1⟩:∃s1,sfold s o=s1:=⟨_,rfl⟩
   rw [hs1] at g1 g2 g3 hS1 hk1 ⊢
   have hne:s1.ns≠[]:=by
    intro h0
    rw [←hk1] at hlen
    unfold Sy.ks at hlen
    rw [h0] at hlen
    exact absurd hlen (by decide)
   have hnb:(!s1.ns.isEmpty)=true:=by cases hc:s1.ns with|nil=>exact absurd hc hne|cons _ _=>rfl
   obtain ⟨kk,htx,_⟩:=hT.tx t (List.mem_cons_self ..)
   have hrt:=tx_rt htx
   by_cases hc:(t.k == 7 || t.k == 8)=true
   ·rw [if_pos hc]
    have hc':t.k=7∨t.k=8:=by simpa using hc
    have hm:s1.may ⟨4,0,t⟩=true:=by
     unfold Sy.may
     rw [if_neg (show ¬(4:Int)=1 by decide),if_neg (show ¬(4:Int)=3 by decide),if_neg (show ¬(4:Int)=2 by decide),if_pos rfl]
     show ((!s1.ns.isEmpty) && (rtT t.t && decide (t.k=7∨t.k=8)))=true
     rw [hnb,hrt,decide_eq_true hc'];rfl
    have hst:s1.step ⟨4,0,t⟩=s1.note t:=rfl
    obtain ⟨hSn,_,hkn⟩:=hS1.note t hrt
    have hev:evL ⟨4,0,t⟩=decide (t.k=7):=rfl
    have hbg:∀d∈s1.ws.takeWhile isBg,d.k≠1:=fun d hd=>hS1.n d ((List.takeWhile_prefix isBg).subset hd)
    have hchk:pck (evL ⟨4,0,t⟩) h ln (s1.note t).2=some (false,evL ⟨4,0,t⟩):=by
     unfold Sy.note
     simp only
     split
     ·rename_i hb
      have hln:ln=false:=by
       cases ln with
       |false=>rfl
       |true=>have:=(hl rfl).2.2 t rfl;omega
      rw [show s1.ws.takeWhile isBg++[dS,dT t.t]=(s1.ws.takeWhile isBg++[dS])++[dT t.t] by simp]
      refine pck_txt _ h ln _ _ ?_ (fun e=>by rw [hln] at e;cases e)
      intro d hd
      rcases List.mem_append.1 hd with hd|hd
      ·exact hbg d hd
      ·simp at hd;subst hd;decide
     ·show pck _ h ln (s1.ws.takeWhile isBg++dH :: ((if _ then [dE] else [])++[dT t.t]))=_
      split
      ·rw [show s1.ws.takeWhile isBg++dH :: ([dE]++[dT t.t])=(s1.ws.takeWhile isBg++[dH,dE])++[dT t.t] by simp]
       refine pck_txt _ h ln _ _ ?_ (fun _=>by simp [isHd,dH])
       intro d hd
       rcases List.mem_append.1 hd with hd|hd
       ·exact hbg d hd
       ·simp at hd;rcases hd with rfl|rfl <;> decide
      ·rw [show s1.ws.takeWhile isBg++dH :: ([]++[dT t.t])=(s1.ws.takeWhile isBg++[dH])++[dT t.t] by simp]
       refine pck_txt _ h ln _ _ ?_ (fun _=>by simp [isHd,dH])
       intro d hd
       rcases List.mem_append.1 hd with hd|hd
       ·exact hbg d hd
       ·simp at hd;subst hd;decide
    refine ⟨(s1.note t).1,(s1.note t).2,_,_,by unfold sput;rw [if_pos hm,hst],hchk,?_⟩
    refine nck_all l K' n' _ E2 k2 _ _ _ hA2 hg' (by rw [hkn];exact hk1) hT.tail hSn (fun hln=>?_)
    have h7:t.k=7:=by rw [hev] at hln;exact of_decide_eq_true hln
    refine ⟨?_,?_,fun u hu=>hT.ln 0 t u rfl hu h7⟩
    ·unfold Sy.note
     simp only
     split
     ·show (s1.en || decide (t.k=7))=true;rw [decide_eq_true h7,Bool.or_true]
     ·rfl
    ·unfold Sy.note
     simp only
     split <;> rfl
   ·rw [if_neg hc]
    have hm:s1.may ⟨2,0,t⟩=true:=by
     unfold Sy.may
     rw [if_neg (show ¬(2:Int)=1 by decide),if_neg (show ¬(2:Int)=3 by decide),if_pos rfl]
     show ((!s1.ns.isEmpty) && rtT t.t)=true
     rw [hnb,hrt];rfl
    have hst:s1.step ⟨2,0,t⟩=s1.leaf t:=rfl
    obtain ⟨hSn,_,hkn⟩:=hS1.leaf hne t hrt
    have hchk:pck (evL ⟨2,0,t⟩) h ln (s1.leaf t).2=some (false,false):=by
     unfold Sy.leaf
     split
     ·rename_i h0;exact absurd h0 hne
     ·rename_i nd r e
      have hr1:Snd L (s1.ready (rowOf nd t).a t.f):=((((hS1.aws hne _ (fx_fine _)).emp t.f).endl).part)
      exact pck_txt _ h ln _ _ hr1.n (fun hln=>by rw [ready_hd (by rw [g1];exact (hl hln).1),Bool.or_true])
    refine ⟨(s1.leaf t).1,(s1.leaf t).2,_,_,by unfold sput;rw [if_pos hm,hst],hchk,?_⟩
    exact nck_all l K' n' _ E2 k2 _ _ _ hA2 hg' (by rw [hkn];exact hk1) hT.tail hSn (fun hln=>by cases hln)
theorem nck_top {l:List Tv}{E:List Ev}{a:Nat}(hA:Alr (.live [] 0) l E 0 a) (hT:Tks l):nck sy0 true false E:=
 nck_all l [] 0 sy0 E a true false [] hA good_new rfl hT snd_new (fun h=>by cases h)
end Go.Proofs.YtpdlohfdjiaegaaGreatDoor
namespace Go.Proofs.YtpdlohfdjiaegaaGreatDoor
open Go.RowKit
theorem ru_det {t:Tv}{k:Nat}{K:List It}{n:Int}{E:List Ev}{R:Ro}(h:Ru t k K n E R):∀{k':Nat}{R':Ro},Ru t k' K n E R'→k=k'∧R=R':=by
 induction h with
 |nil=>intro k' R' h';cases h';exact ⟨rfl,rfl⟩
 |ref hs=>
  intro k' R' h'
  cases h' with
  |ref _=>exact ⟨rfl,rfl⟩
  |tk h2=>rw [hs] at h2;cases h2
  |go h2 _=>rw [hs] at h2;cases h2
 |tk hs=>
  intro k' R' h'
  cases h' with
  |ref h2=>rw [hs] at h2;cases h2
  |tk _=>exact ⟨rfl,rfl⟩
  |go h2 _=>rw [hs] at h2;cases h2
 |go hs _ ih=>
  intro k' R' h'
  cases h' with
  |ref h2=>rw [hs] at h2;cases h2
  |tk h2=>rw [hs] at h2;cases h2
  |go h2 h3=>
   rw [hs] at h2
   cases h2
   obtain ⟨rfl,rfl⟩:=ih h3
   exact ⟨rfl,rfl⟩
theorem ru_len {t:Tv}{k:Nat}{K:List It}{n:Int}{E:List Ev}{R:Ro}(h:Ru t k K n E R):∀{L:List It}{m:Int}{F:List Ev},R=.yes L m F→wfs K→∃o,F=E++o∧o.length≤k:=by
 induction h with
 |nil=>intro L m F h;cases h
 |ref _=>intro L m F h;cases h
 |tk hs=>intro L m F h _;cases h;exact ⟨[],by simp,Nat.le_refl _⟩
 |go hs _ ih=>
  rename_i k i K n d E o r R _
  intro L m F h hw
  have hi:=hw i (List.mem_cons_self ..)
  obtain ⟨a1,a2,a3,a4⟩:=step_ok (K:=K) hs hi
  obtain ⟨o2,b1,b2⟩:=ih h (wfs_app a1 (fun j hj=>hw j (List.mem_cons_of_mem _ hj)))
  exact ⟨o++o2,by rw [b1,List.append_assoc],by rw [List.length_append];omega⟩
def opC (o:List Ev):Nat:=o.countP (fun e=>decide (e.k=1))
theorem opC_app (a b:List Ev):opC (a++b)=opC a+opC b:=List.countP_append ..
theorem opC_le (a:List Ev):opC a≤a.length:=List.countP_le_length
theorem ru_few {t:Tv}{k:Nat}{K:List It}{n:Int}{E:List Ev}{R:Ro}(h:Ru t k K n E R):∀{L:List It}{m:Int}{F:List Ev},R=.yes L m F→wfs K→∃o,F=E++o∧opC o≤10:=by
 induction h with
 |nil=>intro L m F h;cases h
 |ref _=>intro L m F h;cases h
 |tk hs=>intro L m F h _;cases h;exact ⟨[],by simp,by simp [opC]⟩
 |go hs hr ih=>
  rename_i k i K n d E o r R
  intro L m F h hw
  have hi:=hw i (List.mem_cons_self ..)
  obtain ⟨a1,a2,a3,a4⟩:=step_ok (K:=K) hs hi
  have soon:∀c,c≤10→Soon t c i→∃o,F=E++o∧opC o≤10:=by
   intro c hc hs2
   obtain ⟨k',R',hk',hR'⟩:=hs2 K n E
   have hall:=Ru.go hs hr
   obtain ⟨e1,e2⟩:=ru_det hall hR'
   obtain ⟨o2,b1,b2⟩:=ru_len hall h hw
   exact ⟨o2,b1,by have:=opC_le o2;omega⟩
  have pass:o=[]∨(∃e,o=[e]∧e.k≠1)→∃o,F=E++o∧opC o≤10:=by
   intro ho
   obtain ⟨o2,b1,b2⟩:=ih h (wfs_app a1 (fun j hj=>hw j (List.mem_cons_of_mem _ hj)))
   refine ⟨o++o2,by rw [b1,List.append_assoc],?_⟩
   rw [opC_app]
   have:opC o=0:=by
    rcases ho with rfl|⟨e,rfl,he⟩
    ·rfl
    ·simp [opC,he]
   omega
  cases i with
  |fl x=>exact soon 8 (by omega) (soon_flat t x)
  |lv a=>cases hs;exact pass (.inr ⟨_,rfl,by show (3:Int)≠1;decide⟩)
  |once p=>
   cases hp:Pk.pick t p with
   |none=>simp only [It.step,hp] at hs;cases hs;exact pass (.inl rfl)
   |some j=>exact soon 10 (by omega) (soon_go (r:=[]) (by simp [It.step,hp];exact ⟨rfl,rfl⟩) (soon_pick hi hp))
  |again p=>
   cases hp:Pk.pick t p with
   |none=>simp only [It.step,hp] at hs;cases hs;exact pass (.inl rfl)
   |some j=>exact soon 10 (by omega) (soon_go (r:=[.again p]) (by simp [It.step,hp,agR];exact ⟨rfl,rfl⟩) (soon_pick hi hp))
  |all rr=>
   obtain ⟨⟨kk,ts,rest,rfl⟩,_⟩:=hi
   exact soon 1 (by omega) (soon_go (r:=rest.map It.fl) rfl (soon_fl t (.wd kk ts) ne_wd 0))
theorem play_len {o:List Ev}(hB:Brk o):∀{s s':List Int},play s o=some s'→o.length+s'.length=s.length+2*opC o:=by
 induction o with
 |nil=>intro s s' h;cases h;simp [opC]
 |cons e o ih=>
  intro s s' h
  have hB':Brk o:=fun x hx=>hB x (List.mem_cons_of_mem _ hx)
  have hc:opC (e :: o)=opC o+(if e.k=1 then 1 else 0):=by unfold opC;rw [List.countP_cons];simp
  rcases hB e (List.mem_cons_self ..) with h1|h3
  ·simp only [play,if_pos h1] at h
   have:=ih hB' h
   rw [hc,if_pos h1]
   simp only [List.length_cons] at this ⊢
   omega
  ·have h1:¬e.k=1:=by omega
   simp only [play,if_neg h1,if_pos h3] at h
   cases s with
   |nil=>cases h
   |cons a b=>
    simp only at h
    split at h
    ·have:=ih hB' h
     rw [hc,if_neg h1]
     simp only [List.length_cons] at this ⊢
     omega
    ·cases h
theorem alr_cnt:∀(l:List Tv) (K:List It) (n:Int) (E:List Ev) (a:Nat),Alr (.live K n) l E 0 a→Good (.live K n)→E.length≤(lvs K).length+23*l.length+1
 |[],K,n,E,a,hA,hg=>by
  obtain ⟨hc,_⟩:=hA.end
  cases hc with
  |all hK=>show 1≤_;omega
 |t :: l,K,n,E,a,hA,hg=>by
  rcases hA.inv with ⟨_,_,_,hc,_⟩|⟨ev,st',E2,k2,hp,hA2,rfl,rfl⟩
  ·exact absurd rfl hc
  ·obtain ⟨s,hs⟩:∃s:Sy,s.ks=lvs K:=⟨⟨(lvs K).map (fun k=>⟨k,0,false⟩),[],none,false,false,false⟩,by unfold Sy.ks;rw [List.map_map];exact List.map_id _⟩
   obtain ⟨o,e,K',n',rfl,rfl,hg',hB,hn,hpl,hlen,rfl⟩:=put_spx hg hs hp
   have h2:=alr_cnt l K' n' E2 k2 hA2 hg'
   have h3:=play_len hB hpl
   rw [hs] at h3
   have h4:opC o≤11:=by
    obtain ⟨b1,b2,b3,b4,b5,hbot,hbn,hbe⟩:=good_beg hg
    have hbo:opC (begE n)≤1:=Nat.le_trans (opC_le _) hbe
    generalize hee:(⟨if (t.k == 7 || t.k == 8)=true then 4 else 2,0,t⟩:Ev)=e0 at hp
    generalize hev:o++[e0]=ev0 at hp
    cases hp with
    |note hc=>
     have:o=begE n:=(List.append_inj' hev rfl).1
     rw [this];omega
    |yes hc hR hkk hm=>
     obtain ⟨o2,c1,c2⟩:=ru_few hR rfl b1
     have:=(List.append_inj' hev rfl).1
     rw [this,c1,opC_app];omega
   rw [List.length_append,List.length_append]
   simp only [List.length_cons,List.length_nil] at h2 ⊢
   omega
end Go.Proofs.YtpdlohfdjiaegaaGreatDoor
