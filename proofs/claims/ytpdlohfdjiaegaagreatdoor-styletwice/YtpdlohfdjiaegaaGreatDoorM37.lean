import Derived.Test.YtpdlohfdjiaegaaGreatDoorM06
import Derived.Test.YtpdlohfdjiaegaaGreatDoorM36
set_option linter.unusedVariables false
set_option linter.unusedSimpArgs false
namespace Go.Proofs.YtpdlohfdjiaegaaGreatDoor
open Go.RowKit
open Lw (Dc bE rt frm dep rtT rtN)
variable {s:Sy}{t t':Tv}{l:List Dc}
theorem zr (n:Int):cu n≠0:=by
 unfold cu
 split
 ·decide
 ·rename_i h;simpa using h
theorem wl (h:l.any aX=true):(l.dropWhile aK).any aX=true:=by
 induction l with
 |nil=>cases h
 |cons d l ih=>
  rw [List.dropWhile_cons]
  split
  ·rename_i hb
   have hd:aX d=false:=by
    unfold aK at hb;unfold aX;have:=of_decide_eq_true hb;exact decide_eq_false (by omega)
   rw [List.any_cons,hd,Bool.false_or] at h;exact ih h
  ·exact h
theorem sG {K:List It}{n:Int}{u:Option Tv}(hP:PI K n s) (hL:LI u K n s) (hc:dN t) (hg:eU (.live (beg K n) (cu n))) (hrt:rtT t.t=true) (hf0:0<=t.f) (h7:∀x,u=some x->x.k=7->1<=t.f) :
  ∃G,((az s (aT n)).note t).2=G++[dT t.t]/\CP u G t/\PI (beg K n) (cu n) ((az s (aT n)).note t).1/\LI (some t) (beg K n) (cu n) ((az s (aT n)).note t).1/\∀t':Tv,t'.k=t.k->t'.t=t.t->0<=t'.f->(u≠none->(2<=t'.f↔dE∈G)/\(t'.f=0↔G.any aX=false))->(az s (aT n)).note t'=(az s (aT n)).note t:=by
 obtain ⟨k0,k1,k2,k3,k4,k5,L0,hS0⟩:=ov hP;obtain ⟨oW,oD,oN⟩:=wP hP;obtain ⟨s0,hs0⟩:∃s0,az s (aT n)=s0:=⟨_,rfl⟩;rw [hs0] at k0 k1 k2 k3 k4 k5 hS0 ⊢;obtain ⟨hSn,_,hkn⟩:=hS0.note t hrt;obtain ⟨bg,hbg⟩:∃bg,s0.ws.takeWhile aK=bg:=⟨_,rfl⟩;have hbB:∀d∈bg,aK d=true:=by rw [<-hbg];exact fun d hd=>List.all_eq_true.1 List.all_takeWhile d hd
 have hbsub:∀d∈bg,d∈s0.ws:=by rw [<-hbg];exact fun d hd=>(List.takeWhile_prefix aK).subset hd
 have hbf:∀d∈bg,rt d=true/\d.k≠1:=fun d hd=>⟨oO hS0 d (hbsub d hd),hS0.n d (hbsub d hd)⟩
 have hb6:∀d∈bg,d.k=6:=fun d hd=>of_decide_eq_true (hbB d hd)
 have hbH:bg.any aX=false:=by
  rw [List.any_eq_false];intro d hd;have:=hb6 d hd;unfold aX;simp;omega
 have hbK:bg.any sV=false:=by
  rw [List.any_eq_false];intro d hd;have:=hb6 d hd;unfold sV;simp;omega
 have hbE:dE∉bg:=fun h=>by have:=hb6 _ h;exact absurd this (by decide)
 have hwr:u≠none↔s0.wr=true:=by
  rw [k4];cases u with
  |none=>rw [show s.wr=false from hL];simp
  |some x=>rw [hL.1];simp
 have hnote:∀t:Tv,s0.note t=if t.f=0/\s0.wr=true then (⟨s0.ns,s0.ws.dropWhile aK,none,true,s0.en || decide (t.k=7),s0.pt || decide (t.k=8)⟩,bg++[dS,dT t.t]) else (⟨s0.ns,s0.ws.dropWhile aK,none,true,true,s0.pt⟩,bg++dH :: ((if 2<=t.f/\s0.wr=true/\bg=[] then [dE] else [])++[dT t.t])):=by
  intro t;unfold Sy.note;rw [hbg]
 obtain ⟨G,hG,hGp⟩:∃G,(s0.note t).2=G++[dT t.t]/\G=(if t.f=0/\s0.wr=true then bg++[dS] else bg++dH :: (if 2<=t.f/\s0.wr=true/\bg=[] then [dE] else [])):=by
  refine ⟨_,?_,rfl⟩;rw [hnote]
  by_cases h:t.f=0/\s0.wr=true
  ·rw [if_pos h,if_pos h];simp
  ·rw [if_neg h,if_neg h];simp
 have hHd:G.any aX=!decide (t.f=0/\s0.wr=true):=by
  rw [hGp]
  by_cases h:t.f=0/\s0.wr=true
  ·rw [if_pos h,decide_eq_true h,List.any_append,hbH];rfl
  ·rw [if_neg h,decide_eq_false h,List.any_append,List.any_cons];simp [aX,dH]
 have hDE:dE∈G↔(¬(t.f=0/\s0.wr=true)/\2<=t.f/\s0.wr=true/\bg=[]):=by
  rw [hGp]
  by_cases h:t.f=0/\s0.wr=true
  ·rw [if_pos h];constructor
   ·intro hm
    rcases List.mem_append.1 hm with hm|hm
    ·exact absurd hm hbE
    ·simp at hm;cases hm
   ·intro hm;exact absurd h hm.1
  ·rw [if_neg h]
   by_cases h2:2<=t.f/\s0.wr=true/\bg=[]
   ·rw [if_pos h2];exact ⟨fun _=>⟨h,h2⟩,fun _=>by simp⟩
   ·rw [if_neg h2];constructor
    ·intro hm
     rcases List.mem_append.1 hm with hm|hm
     ·exact absurd hm hbE
     ·simp at hm;cases hm
    ·intro hm;exact absurd hm.2 h2
 refine ⟨G,hG,⟨?_,?_,?_,?_,?_,?_,fun _ _ _ h=>absurd hc h⟩,?_,?_,?_⟩
 ·intro d hd;rw [hGp] at hd
  split at hd
  ·rcases List.mem_append.1 hd with hd|hd
   ·exact hbf d hd
   ·simp at hd;subst hd;exact ⟨rfl,by decide⟩
  ·rcases List.mem_append.1 hd with hd|hd
   ·exact hbf d hd
   ·rcases List.mem_cons.1 hd with rfl|hd
    ·exact ⟨rfl,by decide⟩
    ·split at hd
     ·simp at hd;subst hd;exact ⟨rfl,by decide⟩
     ·cases hd
 ·intro h;obtain ⟨h1,h2⟩:=hDE.1 h;rw [hGp,if_neg h1,if_pos h2,h2.2.2];exact ⟨[dH],[],rfl,rfl⟩
 ·intro _;rw [hGp]
  split
  ·rw [List.any_append,hbK];rfl
  ·rw [List.any_append,hbK]
   split <;> rfl
 ·intro _ hu;have hw:=hwr.1 hu;rw [hHd];simp [hw]
 ·intro x hx hx7;have:=h7 x hx hx7;rw [hHd,decide_eq_false (by rintro ⟨h1,_⟩;omega)];rfl
 ·intro x hx _ _;rw [hGp]
  split
  ·rw [List.any_append];simp [bm,dS]
  ·rw [List.any_append,List.any_cons];simp [bm,dH]
 ·have hws:(s0.note t).1.ws=s0.ws.dropWhile aK:=by rw [hnote];split <;> rfl
  refine ⟨hg,by rw [hkn];exact k0,by rw [hnote];split <;> rfl,?_,⟨_,hSn⟩,oW,oD,oN,?_⟩
  ·rw [hws];intro d hd;exact hP.ne d (by rw [<-k1];exact (List.dropWhile_suffix aK).subset hd)
  ·rw [hws,wQ (zr n),k1];exact hP.nH.imp wl id
 ·refine ⟨by rw [hnote];split <;> rfl,fun h=>?_,fun h=>absurd hc h⟩;rw [hnote]
  split
  ·show (s0.en || decide (t.k=7))=true;rw [decide_eq_true h,Bool.or_true]
  ·rfl
 ·intro t' e1 e2 hf' hx;rw [hnote t',hnote t,e1,e2]
  by_cases hw:s0.wr=true
  ·obtain ⟨x1,x2⟩:=hx (hwr.2 hw);rw [hHd] at x2;rw [hDE] at x1
   by_cases h:t.f=0
   ·rw [if_pos ⟨x2.2 (by simp [h,hw]),hw⟩,if_pos ⟨h,hw⟩]
   ·have hn:¬t'.f=0:=fun e=>by have:=x2.1 e;simp [h] at this
    rw [if_neg (show ¬(t'.f=0/\s0.wr=true) from fun hh=>hn hh.1),if_neg (show ¬(t.f=0/\s0.wr=true) from fun hh=>h hh.1)]
    have:(2<=t'.f/\s0.wr=true/\bg=[])↔(2<=t.f/\s0.wr=true/\bg=[]):=by
     constructor
     ·rintro ⟨a1,a2,a3⟩;exact (x1.1 a1).2
     ·rintro ⟨a1,a2,a3⟩;exact ⟨x1.2 ⟨fun hh=>h hh.1,a1,a2,a3⟩,a2,a3⟩
    by_cases h2:2<=t.f/\s0.wr=true/\bg=[]
    ·rw [if_pos (this.2 h2),if_pos h2]
    ·rw [if_neg (fun hh=>h2 (this.1 hh)),if_neg h2]
  ·rw [if_neg (show ¬(t'.f=0/\s0.wr=true) from fun hh=>hw hh.2),if_neg (show ¬(t.f=0/\s0.wr=true) from fun hh=>hw hh.2),if_neg (show ¬(2<=t'.f/\s0.wr=true/\bg=[]) from fun hh=>hw hh.2.1),if_neg (show ¬(2<=t.f/\s0.wr=true/\bg=[]) from fun hh=>hw hh.2.1)]
theorem lg (h1:t'.k=t.k) (h2:t'.t=t.t) (i:It):It.step t' i=It.step t i:=by
 obtain ⟨k,x,a,l,c,f⟩:=t;obtain ⟨k',x',a',l',c',f'⟩:=t';simp only at h1 h2;subst h1 h2;cases i with
 |fl y=>
  cases y with
  |mt m=>cases m <;> rfl
  |_=>rfl
 |lv n=>rfl
 |once p=>
  cases p with
  |fn d=>cases d <;> rfl
  |row r=>cases r with
   |nil=>rfl
   |cons y r=>cases y <;> rfl
  |ex m=>rfl
 |again p=>
  cases p with
  |fn d=>cases d <;> rfl
  |row r=>cases r with
   |nil=>rfl
   |cons y r=>cases y <;> rfl
  |ex m=>rfl
 |all r=>rfl
theorem B2 (h1:t'.k=t.k) (h2:t'.t=t.t) {k:Nat}{K:List It}{n:Int}{E:List Ev}{R:Ro}(h:Ru t k K n E R):Ru t' k K n E R:=by
 induction h with
 |nil=>exact .nil
 |ref hs=>exact .ref (by rw [lg h1 h2];exact hs)
 |tk hs=>exact .tk (by rw [lg h1 h2];exact hs)
 |go hs _ ih=>exact .go (by rw [lg h1 h2];exact hs) ih
def cO:List (List Dc)->List Tv->List Dc
 |G :: gs,t :: l=>G++(dT t.t :: cO gs l)
 |_,_=>[]
inductive CPs:Option Tv->List (List Dc)->List Tv->Prop
 |nil {u:Option Tv}:CPs u [] []
 |cons {u:Option Tv} {G:List Dc} {t:Tv} {gs:List (List Dc)} {l:List Tv}:CP u G t->CPs (some t) gs l->CPs u (G :: gs) (t :: l)
inductive Sm:Bool->List (List Dc)->List Tv->List Tv->Prop
 |nil {b:Bool}:Sm b [] [] []
 |cons {b:Bool} {G:List Dc} {t t':Tv} {gs:List (List Dc)} {l l':List Tv}:t'.k=t.k->t'.t=t.t->0<=t'.f->(b=true->(2<=t'.f↔dE∈G)/\(dN t->(t'.f=0↔G.any aX=false)))->Sm true gs l l'->Sm b (G :: gs) (t :: l) (t' :: l')
structure BJ (ge:List Dc):Prop where
 fine:∀d∈ge,rt d=true/\d.k≠1/\d≠dE
 hd:ge.any aX=true
theorem dK {e:Ev}{r:List Ev}:bL s (e :: r)=match cd s e with|none=>none|some (s',l)=>(bL s' r).map (l++·):=rfl
theorem mU {s1:Sy}:∀{a:List Ev},spx s a=some (s1,l)->∀b,bL s (a++b)=(bL s1 b).map (l++·):=by
 intro a
 induction a generalizing s l with
 |nil=>
  intro h b;cases h;show bL s1 b=_;cases bL s1 b <;> simp
 |cons e a ih=>
  intro h b;simp only [spx] at h;show bL s (e :: (a++b))=_;rw [dK];cases hp:cd s e with
  |none=>rw [hp] at h;cases h
  |some x=>
   obtain ⟨s2,l2⟩:=x;rw [hp] at h;simp only at h ⊢;obtain ⟨⟨y1,y2⟩,hy,e2⟩:=Option.map_eq_some_iff.1 h;simp only [Prod.mk.injEq] at e2;obtain ⟨rfl,rfl⟩:=e2;rw [ih hy];cases bL y1 b <;> simp
theorem qi {s s1 s2:Sy}{l:List Dc}{o:List Ev}{e:Ev}(h:spx s o=some (s1,[])) (hp:cd s1 e=some (s2,l)):spx s (o++[e])=some (s2,l):=by
 rw [xH s o [e] h];simp [spx,hp]
theorem lr:∀(l:List Tv) (K:List It) (n:Int) (s:Sy) (u:Option Tv) (E:List Ev) (a:Nat),Alr (.live K n) l E 0 a->PI K n s->LI u K n s->Tks l->(∀x t,u=some x->x.k=7->l[0]?=some t->1<=t.f) ->
  ∃gs ge,gs.length=l.length/\bL s E=some (cO gs l++ge)/\CPs u gs l/\BJ ge/\∀l',Sm u.isSome gs l l'->∃E',Alr (.live K n) l' E' 0 a/\bL s E'=some (cO gs l++ge)
 |[],K,n,s,u,E,a,hA,hP,hL,hT,h7=>by
  obtain ⟨hc,ha⟩:=hA.end;cases hc with
  |all hK=>
   have hb:Bot K:=by
    rcases hP.gd.2 with ⟨_,h2⟩|h2
    ·rw [h2] at hK;cases hK
    ·exact h2
   obtain ⟨X,hX⟩:=hb
   have hX0:X=[]:=by
    rw [hX,List.length_append] at hK;exact List.eq_nil_of_length_eq_zero (by have:X.length+1=1:=hK;omega)
   have hk1:s.ks=[1]:=by rw [hP.ks,hX,hX0];rfl
   obtain ⟨nd,hns,hnk⟩:∃nd,s.ns=[nd]/\nd.k=1:=by
    unfold Sy.ks at hk1;cases hc:s.ns with
    |nil=>rw [hc] at hk1;cases hk1
    |cons nd ns=>
     rw [hc,List.map_cons] at hk1;injection hk1 with e1 e2
     rw [List.map_eq_nil_iff] at e2;exact ⟨nd,by rw [e2],e1⟩
   have hm:s.may ⟨3,1,tv0⟩=true:=by
    unfold Sy.may;rw [if_neg (by decide),if_pos rfl,hns];exact decide_eq_true hnk
   obtain ⟨L0,hS⟩:=hP.sn;have hS1:=hS.leaves.1;have hlv:s.leaves={ s with ns:=[],ws:=s.ws++List.replicate nd.b dX++[dH] }:=by unfold Sy.leaves;rw [hns];simp [hnk]
   have hhd:s.leaves.ws.any aX=true:=by rw [hlv];show (s.ws++List.replicate nd.b dX++[dH]).any aX=true;rw [List.any_append];simp [aX,dH]
   have hen:s.leaves.endl=s.leaves:=by unfold Sy.endl;rw [if_neg (fun h=>by rw [hhd] at h;cases h.2)]
   have hcl:eh s.leaves=some s.leaves.ws:=by unfold eh;rw [if_pos (by rw [hlv]),hen]
   have hsl:bL s [⟨3,1,tv0⟩]=some s.leaves.ws:=by
    rw [dK];have:cd s ⟨3,1,tv0⟩=some (s.leaves,[]):=by unfold cd;rw [if_pos hm,bK s rfl]
    rw [this];show (bL s.leaves []).map ([]++·)=_;show (eh s.leaves).map ([]++·)=_;rw [hcl];rfl
   have hne:NE s.leaves:=NE.leaves hP.ne;refine ⟨[],s.leaves.ws,rfl,hsl,.nil,⟨fun d hd=>⟨oO hS1 d hd,hS1.n d hd,hne d hd⟩,hhd⟩,fun l' hl=>?_⟩;cases hl;exact ⟨_,hA,hsl⟩
 |t :: l,K,n,s,u,E,a,hA,hP,hL,hT,h7=>by
  rcases hA.inv with ⟨_,_,_,hc,_⟩|⟨ev,st',E2,k2,hp,hA2,rfl,rfl⟩
  ·exact absurd rfl hc
  ·have hgk:=(dh hP.gd hp).1;obtain ⟨kk,htx,_⟩:=hT.tx t (List.mem_cons_self ..);have hrt:=BS htx;obtain ⟨c1,c2⟩:=fQ n;obtain ⟨b1,b2,b3,b4,b5,hbot,hbn,hbe⟩:=cm hP.gd;cases hp with
   |note hc=>
    have hnt:dN t:=by simpa [dN] using hc
    obtain ⟨G,g1,g2,g3,g4,g5⟩:=sG hP hL hnt hgk hrt (hT.fd t (List.mem_cons_self ..)) (fun x hx hx7=>h7 x t hx hx7 rfl);have hspx:spx s (aT n)=some (az s (aT n),[]):=(gn c1 c2 s (by rw [hP.ks];exact b4)).1;have hks0:=(gn c1 c2 s (l:=lvs (beg K n)) (by rw [hP.ks];exact b4)).2
    have hput:∀t':Tv,t'.k=t.k->t'.t=t.t->cd (az s (aT n)) ⟨4,0,t'⟩=some ((az s (aT n)).note t'):=by
     intro t' e1 e2
     have hm:(az s (aT n)).may ⟨4,0,t'⟩=true:=by
      unfold Sy.may;rw [if_neg (show ¬(4:Int)=1 by decide),if_neg (show ¬(4:Int)=3 by decide),if_neg (show ¬(4:Int)=2 by decide),if_pos rfl];show ((!(az s (aT n)).ns.isEmpty) && (rtT t'.t && decide (t'.k=7\/t'.k=8)))=true;rw [e1,e2,hrt,decide_eq_true (show t.k=7\/t.k=8 from hnt)]
      have:(az s (aT n)).ns≠[]:=by
       intro h0;have hl:=fZ hbot;rw [<-hks0] at hl;unfold Sy.ks at hl;rw [h0] at hl;exact absurd hl (by decide)
      cases hcc:(az s (aT n)).ns with
      |nil=>exact absurd hcc this
      |cons _ _=>rfl
     unfold cd;rw [if_pos hm];rfl
    obtain ⟨gs,ge,r1,r2,r3,r4,r5⟩:=lr l (beg K n) (cu n) _ (some t) E2 k2 hA2 g3 g4 hT.tail (fun x y hx hx7 hy=>by cases hx;exact hT.ln 0 t y rfl hy hx7)
    have one:∀t':Tv,t'.k=t.k->t'.t=t.t->(az s (aT n)).note t'=(az s (aT n)).note t->∀E3,bL s (aT n++[⟨4,0,t'⟩]++E3)=(bL ((az s (aT n)).note t).1 E3).map ((G++[dT t.t])++·):=by
     intro t' e1 e2 e3 E3;have h1:=hput t' e1 e2;rw [e3] at h1;have h2:=mU (qi (s2:=((az s (aT n)).note t).1) (l:=((az s (aT n)).note t).2) hspx h1) E3;rw [g1] at h2;exact h2
    refine ⟨G :: gs,ge,by simp [r1],?_,.cons g2 r3,r4,?_⟩
    ·rw [one t rfl rfl rfl,r2];simp [cO]
    ·intro l' hl;cases hl with
     |cons x1 x2 x3 x4 x5=>
      rename_i t' l''
      obtain ⟨E3,y1,y2⟩:=r5 l'' x5;have hu:u≠none->u.isSome=true:=fun hu=>by cases u with|none=>exact absurd rfl hu|some _=>rfl
      have hsame:=g5 t' x1 x2 x3 (fun h=>⟨(x4 (hu h)).1,(x4 (hu h)).2 hnt⟩);refine ⟨aT n++[⟨4,0,t'⟩]++E3,.on (.note (by rw [x1];exact hc)) y1,?_⟩;rw [one t' x1 x2 hsame,y2];simp [cO]
   |yes hc hR hkk hm=>
    rename_i L m E1 kk1
    have hnt:¬dN t:=by
     intro h;have h':(t.k == 7 || t.k == 8)=true:=by simpa [dN] using h
     rw [hc] at h';cases h'
    obtain ⟨G,g1,g2,g3,g4,g5⟩:=sQ hP hL hnt hR hgk hrt;obtain ⟨d1,d2,d3,o,d4,d5,d6,d7⟩:=eI hR rfl b1 b2 b3
    have hB:Brk E1:=by
     rw [d4];intro e he
     rcases List.mem_append.1 he with he|he
     ·exact c1 e he
     ·exact (d6 e he).2.1
    have hnod:=jt hR rfl c2;have hpl:cJ s.ks E1=some (lvs L):=by rw [d4,hP.ks];exact (cI _ _ _ _ b4).trans d5
    obtain ⟨hspx,hks0⟩:=gn hB hnod s hpl
    have hput:∀t':Tv,t'.k=t.k->t'.t=t.t->cd (az s E1) ⟨2,0,t'⟩=some ((az s E1).leaf t'):=by
     intro t' e1 e2
     have hm:(az s E1).may ⟨2,0,t'⟩=true:=by
      unfold Sy.may;rw [if_neg (show ¬(2:Int)=1 by decide),if_neg (show ¬(2:Int)=3 by decide),if_pos rfl];show ((!(az s E1).ns.isEmpty) && rtT t'.t)=true;rw [e2,hrt]
      have:(az s E1).ns≠[]:=by
       intro h0;have hl:=fZ (lu hR rfl hbot);rw [<-hks0] at hl;unfold Sy.ks at hl;rw [h0] at hl;exact absurd hl (by decide)
      cases hcc:(az s E1).ns with
      |nil=>exact absurd hcc this
      |cons _ _=>rfl
     unfold cd;rw [if_pos hm];rfl
    obtain ⟨gs,ge,r1,r2,r3,r4,r5⟩:=lr l L m _ (some t) E2 k2 hA2 g3 g4 hT.tail (fun x y hx hx7 hy=>by cases hx;exact hT.ln 0 t y rfl hy hx7)
    have one:∀t':Tv,t'.k=t.k->t'.t=t.t->(az s E1).leaf t'=(az s E1).leaf t->∀E3,bL s (E1++[⟨2,0,t'⟩]++E3)=(bL ((az s E1).leaf t).1 E3).map ((G++[dT t.t])++·):=by
     intro t' e1 e2 e3 E3;have h1:=hput t' e1 e2;rw [e3] at h1;have h2:=mU (qi (s2:=((az s E1).leaf t).1) (l:=((az s E1).leaf t).2) hspx h1) E3;rw [g1] at h2;exact h2
    refine ⟨G :: gs,ge,by simp [r1],?_,.cons g2 r3,r4,?_⟩
    ·rw [one t rfl rfl rfl,r2];simp [cO]
    ·intro l' hl;cases hl with
     |cons x1 x2 x3 x4 x5=>
      rename_i t' l''
      obtain ⟨E3,y1,y2⟩:=r5 l'' x5;have hu:u≠none->u.isSome=true:=fun hu=>by cases u with|none=>exact absurd rfl hu|some _=>rfl
      have hsame:=g5 t' x1 x2 (fun h=>(x4 (hu h)).1);refine ⟨E1++[⟨2,0,t'⟩]++E3,.on (.yes (by rw [x1];exact hc) (B2 x1 x2 hR) hkk hm) y1,?_⟩;rw [one t' x1 x2 hsame,y2];simp [cO]
theorem AP:PI [] 0 sy0:=⟨dm,rfl,rfl,(fun d hd=>by cases hd),⟨[],iN⟩,rfl,rfl,rfl,.inr rfl⟩
end Go.Proofs.YtpdlohfdjiaegaaGreatDoor
namespace Go.Proofs.YtpdlohfdjiaegaaGreatDoor
open Go.RowKit
open Lw (Dc bE rt frm dep rtT rtN lsb St6 nds pr0 st0)
theorem jr:∀(E:List Ev) {L0 L:List Dc}{s:Sy},Snd L0 s->bL s E=some L->frm 0 0 (L0++L)=none
 |[],L0,L,s,hS,h=>(qk hS h).1
 |e :: E,L0,L,s,hS,h=>by
  rw [dK] at h;cases hp:cd s e with
  |none=>rw [hp] at h;cases h
  |some x=>
   obtain ⟨s1,l⟩:=x;rw [hp] at h;simp only at h;obtain ⟨L1,h1,h2⟩:=Option.map_eq_some_iff.1 h;have:=jr E (qj hS hp).1 h1;rw [<-h2,<-List.append_assoc];exact this
theorem jB (n:Nat):∀(a b:List Dc) (ma mb:List Nat) (p:Lw.Pr),a.length=ma.length->Lw.puts n (a++b) (ma++mb) p=Lw.puts n b mb (Lw.puts n a ma p)
 |[],b,[],mb,p,_=>rfl
 |d :: a,b,m :: ma,mb,p,h=>jB n a b ma mb _ (by simpa using h)
def prt:List (Nat × Nat)->List Tv->List UInt8
 |x :: xs,t :: l=>List.replicate x.1 10++(List.replicate x.2 32++(lsb t.t++prt xs l))
 |_,_=>[]
inductive GPs:List (List Dc)->List (Nat × Nat)->Prop
 |nil:GPs [] []
 |cons {G:List Dc} {x:Nat × Nat} {gs:List (List Dc)} {xs:List (Nat × Nat)}:GP G x.1 x.2->GPs gs xs->GPs (G :: gs) (x :: xs)
theorem uU (n:Nat) {gs:List (List Dc)}{l:List Tv}{u:Option Tv}(hC:CPs u gs l):∀(ge:List Dc) (ms:List Nat) (p:Lw.Pr) (O:List UInt8),GI O [] 0 p->(∀t∈l,t.t.size≠0)->BJ ge->ms.length=(cO gs l++ge).length ->
  ∃xs,GPs gs xs/\(Lw.puts n (cO gs l++ge) ms p).sk.out=O++(prt xs l++[10]):=by
 induction hC with
 |nil=>
  intro ge ms p O hI _ hE hl;obtain ⟨a,h⟩:=GI.puts (n:=n) ge ms hI (fun d hd=>⟨(hE.fine d hd).1,(hE.fine d hd).2.1⟩) (by simpa [cO] using hl.symm);rw [List.nil_append] at h;have h1:=h.hd hE.hd;have h2:a≠2:=fun e=>(hE.fine dE (h.e2 e)).2.2 rfl
  have ha:a=1:=by rcases h.st with ⟨x,_⟩|⟨x,_⟩|⟨x,_⟩ <;> omega
  subst ha;exact ⟨[],.nil,by have:=h.out;simpa [cO,prt] using this⟩
 |cons c1 c2 ih=>
  rename_i u G t gs l
  intro ge ms p O hI hz hE hl;have hl':ms.length=G.length+1+(cO gs l++ge).length:=by rw [hl];simp [cO];omega
  obtain ⟨m1,hm1⟩:∃m1,ms.take G.length=m1:=⟨_,rfl⟩
  obtain ⟨m2,m3,hm2⟩:∃m2 m3,ms.drop G.length=m2 :: m3:=by
   cases hc:ms.drop G.length with
   |nil=>have:=congrArg List.length hc;rw [List.length_drop] at this;simp at this;omega
   |cons a b=>exact ⟨a,b,rfl⟩
  have e1:ms=m1++(m2 :: m3):=by rw [<-hm1,<-hm2,List.take_append_drop]
  have l1:G.length=m1.length:=by rw [<-hm1,List.length_take];omega
  have l3:m3.length=(cO gs l++ge).length:=by
   have:=congrArg List.length hm2;rw [List.length_drop] at this;simp only [List.length_cons] at this;omega
  have e2:cO (G :: gs) (t :: l)++ge=G++(dT t.t :: (cO gs l++ge)):=by simp [cO]
  rw [e1,e2,jB n G _ m1 _ p l1];obtain ⟨a,h1⟩:=GI.puts (n:=n) G m1 hI c1.fine l1;rw [List.nil_append] at h1;obtain ⟨b,g1,g2⟩:=h1.text (n:=n) (m:=m2) (hz t (List.mem_cons_self ..));obtain ⟨xs,x1,x2⟩:=ih ge m3 _ _ g2 (fun y hy=>hz y (List.mem_cons_of_mem _ hy)) hE l3;refine ⟨(a,b) :: xs,.cons g1 x1,?_⟩;show (Lw.puts n (cO gs l++ge) m3 (Lw.put n (dT t.t) m2 (Lw.puts n G m1 p))).sk.out=_;rw [x2];simp [prt]
theorem xG {p:Lw.Pr}(h1:p.sk=st0) (h2:p.en=false) {n m:Nat}{d:Dc}(hd:rt d=true) (hk:d.k≠1):(Lw.put n d m p).sk=st0/\(Lw.put n d m p).en=false:=by
 have hf:p.sk.fresh=true:=by rw [h1];rfl
 have hold:∀k,(p.hold k).sk=st0/\(p.hold k).en=false:=fun k=>by unfold Lw.Pr.hold;rw [if_pos hf];exact ⟨h1,h2⟩
 have endl:p.endl.sk=st0/\p.endl.en=false:=by unfold Lw.Pr.endl;rw [if_pos hf];exact ⟨h1,h2⟩
 cases Lw.iA hd with
 |text t hq=>exact absurd rfl hk
 |brk k hq=>
  show (Lw.Pr.sk (if p.brk n m then p.endl else p.hold k.toNat))=st0/\(Lw.Pr.en (if p.brk n m then p.endl else p.hold k.toNat))=false
  split
  ·exact endl
  ·exact hold _
 |beg k e hq=>exact ⟨h1,h2⟩
 |blank=>exact hold 1
 |hard=>exact endl
 |empty=>
  show (Lw.Pr.sk (if p.en then { p with sk:=p.sk.empty,en:=false } else p))=st0/\(Lw.Pr.en (if p.en then { p with sk:=p.sk.empty,en:=false } else p))=false
  rw [h2];exact ⟨h1,h2⟩
 | «end»=>exact ⟨h1,h2⟩
theorem un {n:Nat}:∀(P:List Dc) (ms:List Nat) {p:Lw.Pr},p.sk=st0->p.en=false->(∀d∈P,rt d=true/\d.k≠1)->P.length=ms.length->(Lw.puts n P ms p).sk=st0/\(Lw.puts n P ms p).en=false
 |[],[],p,h1,h2,_,_=>⟨h1,h2⟩
 |d :: P,m :: ms,p,h1,h2,hr,hl=>by
  obtain ⟨a,b⟩:=xG h1 h2 (n:=n) (m:=m) (hr d (List.mem_cons_self ..)).1 (hr d (List.mem_cons_self ..)).2;exact un P ms a b (fun x hx=>hr x (List.mem_cons_of_mem _ hx)) (by simpa using hl)
theorem yf (n:Nat) {G:List Dc}{gs:List (List Dc)}{t:Tv}{l:List Tv}{ge:List Dc}{u:Option Tv}(hC:CPs u (G :: gs) (t :: l)) (hz:∀x∈t :: l,x.t.size≠0) (hE:BJ ge) :
  ∃xs,GPs gs xs/\Lw.eV n (cO (G :: gs) (t :: l)++ge)=lsb t.t++(prt xs l++[10]):=by
 cases hC with
 |cons c1 c2=>
  obtain ⟨ms,hms⟩:∃ms,(nds (cO (G :: gs) (t :: l)++ge)).1=ms:=⟨_,rfl⟩;have hl:ms.length=(cO (G :: gs) (t :: l)++ge).length:=by rw [<-hms];exact Lw.gE _
  have hl':ms.length=G.length+1+(cO gs l++ge).length:=by rw [hl];simp [cO];omega
  obtain ⟨m1,hm1⟩:∃m1,ms.take G.length=m1:=⟨_,rfl⟩
  obtain ⟨m2,m3,hm2⟩:∃m2 m3,ms.drop G.length=m2 :: m3:=by
   cases hc:ms.drop G.length with
   |nil=>have:=congrArg List.length hc;rw [List.length_drop] at this;simp at this;omega
   |cons a b=>exact ⟨a,b,rfl⟩
  have e1:ms=m1++(m2 :: m3):=by rw [<-hm1,<-hm2,List.take_append_drop]
  have l1:G.length=m1.length:=by rw [<-hm1,List.length_take];omega
  have l3:m3.length=(cO gs l++ge).length:=by
   have:=congrArg List.length hm2;rw [List.length_drop] at this;simp only [List.length_cons] at this;omega
  have e2:cO (G :: gs) (t :: l)++ge=G++(dT t.t :: (cO gs l++ge)):=by simp [cO]
  unfold Lw.eV;rw [hms,e1,e2,jB n G _ m1 _ pr0 l1];obtain ⟨s1,s2⟩:=un (n:=n) G m1 (p:=pr0) rfl rfl c1.fine l1;have ht:=hz t (List.mem_cons_self ..)
  have hI:GI (lsb t.t) [] 0 (Lw.put n (dT t.t) m2 (Lw.puts n G m1 pr0)):=by
   refine jO ?_ ?_ rfl
   ·show ((Lw.puts n G m1 pr0).sk.text t.t).out=_
    rw [ie ht,s1];rfl
   ·show ((Lw.puts n G m1 pr0).sk.text t.t).fresh=false
    unfold St6.text;rw [if_neg ht]
  obtain ⟨xs,x1,x2⟩:=uU n c2 ge m3 _ _ hI (fun y hy=>hz y (List.mem_cons_of_mem _ hy)) hE l3;exact ⟨xs,x1,x2⟩
end Go.Proofs.YtpdlohfdjiaegaaGreatDoor
namespace Go.Proofs.YtpdlohfdjiaegaaGreatDoor
open Go.RowKit
open Lw (Dc bE rt frm dep rtT rtN lsb)
open Lx (Tx Fst Fol tT Rds rep by8 kOf vw)
variable {l:List Tv}{u:Option Tv}{T:ByteArray}
def iu:List (Nat × Nat)->List Tv->ByteArray
 |x :: xs,t :: l=>rep 10 x.1++(rep 32 x.2++(t.t++iu xs l))
 |_,_=>rep 10 1
def vws:List (Nat × Nat)->List Tv->List (Nat × ByteArray × Nat)
 |x :: xs,t :: l=>(t.k.toNat,t.t,x.1) :: vws xs l
 |_,_=>[]
theorem mz (x y:List UInt8):(⟨(x++y).toArray⟩:ByteArray)=⟨x.toArray⟩++⟨y.toArray⟩:=by
 apply ByteArray.ext
 simp [ByteArray.data_append]
theorem wV (t:ByteArray):(⟨(lsb t).toArray⟩:ByteArray)=t:=by
 apply ByteArray.ext
 show t.data.toList.toArray=t.data
 simp
theorem yd {gs:List (List Dc)}(h:CPs u gs l):∀{xs:List (Nat × Nat)},GPs gs xs->(⟨(prt xs l++[10]).toArray⟩:ByteArray)=iu xs l:=by
 induction h with
 |nil=>intro xs hx;cases hx;rfl
 |cons _ _ ih=>
  intro xs hx;cases hx with
  |cons g1 g2=>
   simp only [prt,iu,List.append_assoc];rw [mz,mz,mz,wV,ih g2];rfl
theorem nP (h:0<T.size):∃x r,T.data.toList=x :: r/\x.toNat=by8 T 0:=by
 have h':0<T.data.size:=h;cases hc:T.data.toList with
 |nil=>
  rw [<-Array.length_toList,hc] at h';exact absurd h' (by decide)
 |cons x r=>
  refine ⟨x,r,rfl,?_⟩;have e:(lsb T).getD 0 0=x:=by show (T.data.toList).getD 0 0=x;rw [hc];rfl
  rw [<-lR T 0 h,e]
theorem fu {k:Nat}{t:Tv}(h:t.k=(kOf k T:Nat)):((k=1\/k=3)->ow t)/\(k≠1->t.k=(k:Nat)):=by
 unfold kOf at h
 by_cases hc:k=1/\Lx.ky T=true
 ·rw [if_pos hc] at h;exact ⟨fun _=>.inr (.inl h),fun h1=>absurd hc.1 h1⟩
 ·rw [if_neg hc] at h;refine ⟨fun h1=>?_,fun _=>h⟩
  rcases h1 with rfl|rfl
  ·exact .inl h
  ·exact .inr (.inr h)
def xf (t:Tv):Prop:=∃k,Tx k t.t/\t.k=(kOf k t.t:Nat)
theorem t6 {x:UInt8}{n:Nat}(h:x.toNat=n) (hn:n<256):x=UInt8.ofNat n:=by
 apply UInt8.toNat_inj.1
 rw [h];simp [UInt8.toNat_ofNat];omega
theorem zo {gs:List (List Dc)}(h:CPs u gs l):∀{xs:List (Nat × Nat)}{x:Tv}{ku:Nat},u=some x->GPs gs xs->(∀t∈l,xf t)->Tx ku x.t->x.k=(kOf ku x.t:Nat)->Fol ku x.t (iu xs l)/\Rds (iu xs l) 0 (vws xs l):=by
 induction h with
 |nil=>
  intro xs x ku _ hx _ _ _;cases hx;exact ⟨Lx.gG (Lx.nW _ _) (by decide) rfl,Lx.xT 1 0⟩
 |cons c1 c2 ih=>
  rename_i u G t gs l
  intro xs x ku hu hx hT hX hk;cases hx with
  |cons g1 g2=>
   rename_i y xs
   obtain ⟨a,b⟩:=y;obtain ⟨kt,t1,t2⟩:=hT t (List.mem_cons_self ..);obtain ⟨i1,i2⟩:=ih (xs:=xs) rfl g2 (fun z hz=>hT z (List.mem_cons_of_mem _ hz)) t1 t2;have hkn:t.k.toNat=kOf kt t.t:=by rw [t2];rfl
   have hrd:Rds (iu ((a,b) :: xs) (t :: l)) 0 (vws ((a,b) :: xs) (t :: l)):=by
    show Rds (rep 10 a++(rep 32 b++(t.t++iu xs l))) 0 ((t.k.toNat,t.t,a) :: vws xs l)
    rw [hkn];refine Lx.xS ?_;rw [Nat.zero_add];exact Lx.qq t1 i1 i2
   refine ⟨?_,hrd⟩;subst hu;have hle:=g1.le;have pos:0<t.t.size:=t1.pos
   have hsz:0<(iu ((a,b) :: xs) (t :: l)).size:=by
    show 0<(rep 10 a++(rep 32 b++(t.t++iu xs l))).size
    simp only [Lx.aP];omega
   have h7:ku=7->1<=a:=by
    intro e;have:x.k=7:=by have:=(fu hk).2 (by omega);omega
    exact g1.hd (c1.l7 x rfl this)
   by_cases ha:1<=a
   ·refine Lx.gG (Lx.nW _ _) hsz ?_;show by8 (rep 10 a++_) 0=10;rw [Lx.be,if_pos (by rw [Lx.ce];omega),Lx.gx _ _ _ (by omega)];rfl
   ·have ha0:a=0:=by omega
    by_cases hb:1<=b
    ·refine Lx.gG (Lx.pB _ (fun e=>ha (h7 e))) hsz ?_;show by8 (rep 10 a++(rep 32 b++_)) 0=32;rw [Lx.be,if_neg (by rw [Lx.ce];omega),Lx.ce,ha0,Lx.be,if_pos (by rw [Lx.ce];omega),Lx.gx _ _ _ (by omega)];rfl
    ·have hb0:b=0:=by omega
     have e8:by8 (iu ((a,b) :: xs) (t :: l)) 0=by8 t.t 0:=by
      show by8 (rep 10 a++(rep 32 b++(t.t++iu xs l))) 0=_
      rw [Lx.be,if_neg (by rw [Lx.ce];omega),Lx.ce,ha0,Lx.be,if_neg (by rw [Lx.ce];omega),Lx.ce,hb0,Lx.be,if_pos pos]
     refine Lx.gG (c:=by8 t.t 0) ?_ hsz e8;have hF:=Lx.mJ t1;have hFx:=Lx.mJ hX;have no:¬G.any bm=true:=fun e=>by rcases g1.gp e with h|h <;> omega
     by_cases h8:ku=8
     ·exact ⟨hF.nc,fun e=>by omega,fun e=>by omega,fun e=>by omega,fun e=>by omega⟩
     ·have hnx:¬dN x:=by
       rintro (e|e)
       ·have hk7:ku=7:=by
         by_cases h1:ku=1
         ·have:=(fu hk).1 (.inl h1)
          rcases this with h|h|h <;> omega
         ·have:=(fu hk).2 h1;omega
        exact ha (h7 hk7)
       ·by_cases h1:ku=1
        ·have:=(fu hk).1 (.inl h1)
         rcases this with h|h|h <;> omega
        ·have:=(fu hk).2 h1;omega
      have hnt:¬dN t:=fun e=>no (c1.lN x rfl hnx e)
      obtain ⟨w1,w2⟩:=(c1.lL x rfl hnx hnt).resolve_left no
      have hkt:kt≠7/\kt≠8:=by
       refine ⟨fun e=>hnt (.inl ?_),fun e=>hnt (.inr ?_)⟩
       ·have:=(fu t2).2 (by omega);omega
       ·have:=(fu t2).2 (by omega);omega
      refine Lx.v6 (fun e=>ha (h7 e)) hF hkt (fun ⟨p,q⟩=>w1 ⟨(fu hk).1 p,(fu t2).1 q⟩) ?_;intro e6 es est et6
      have hxs:qh x:=by
       refine ⟨by have:=(fu hk).2 (by omega);omega,?_⟩;obtain ⟨z,r,ez,en⟩:=nP hX.pos
       have hr:r=[]:=by
        have:=congrArg List.length ez;have hl:x.t.data.toList.length=x.t.size:=Array.length_toList;rw [hl,es] at this;simp at this;exact this
       rw [ez,hr];rw [<-en] at est
       rcases est with h|h|h|h|h <;> (rw [t6 h (by decide)];decide)
      have hnd:¬wU t:=fun h=>w2 ⟨hxs,h⟩
      have hk6:t.k=6:=by have:=(fu t2).2 (by omega);omega
      obtain ⟨z,r,ez,en⟩:=nP pos
      have key:∀n,(n=61\/n=46\/n=47)->by8 t.t 0≠n:=by
       intro n hn e;rw [<-en] at e;refine hnd ⟨hk6,?_⟩;rw [ez];show iM.contains z=true
       rcases hn with rfl|rfl|rfl <;> (rw [t6 e (by decide)];decide)
      exact ⟨key 61 (.inl rfl),key 46 (.inr (.inl rfl)),key 47 (.inr (.inr rfl))⟩
end Go.Proofs.YtpdlohfdjiaegaaGreatDoor
namespace Go.Proofs.YtpdlohfdjiaegaaGreatDoor
open Go.RowKit
variable {W:World}{g:Nat}{c:Bool}{e n:Int}{vs vt:Value}{E:List Ev}
def PB (W:World) (g:Nat) (c:Bool) (e n:Int) (vs vt:Value):Prop:=W.heap[g]?=some (.cells #[.bool c,.int .i64 e,.int .i64 n,vs,vt] 104 (0,0))
theorem PB.cells {W:World}{g:Nat}{c:Bool}{e n:Int}{vs vt:Value}(h:PB W g c e n vs vt) :
  W.cell? ⟨g,0,none⟩=some (.bool c)/\W.cell? ⟨g,1,none⟩=some (.int .i64 e)/\W.cell? ⟨g,2,none⟩=some (.int .i64 n)/\W.cell? ⟨g,3,none⟩=some vs/\W.cell? ⟨g,4,none⟩=some vt:=
 ⟨aa h rfl,aa h rfl,aa h rfl,aa h rfl,aa h rfl⟩
theorem PB.frozen (h:PB W g c e n vs vt) (j:Nat):W.frozen? ⟨g,j,none⟩=false:=ak h
theorem PB.kp {S:Nat->Prop}{W W':World}{g:Nat}{c:Bool}{e n:Int}{vs vt:Value}(h:PB W g c e n vs vt) (hk:Kp S W W') (hS:¬S g):PB W' g c e n vs vt:=hk.blk h hS
theorem PB.below {W':World}(h:PB W g c e n vs vt) (hb:Below W.heap.size W W'):PB W' g c e n vs vt:=ab h hb
theorem PB.lt (h:PB W g c e n vs vt):g<W.heap.size:=ap h
theorem uR {ops:Array Oper}{o:Oper}{a:Act}{K:Act->World->Prop}{Q:Exit->Act->World->Prop}{E:Prop}(hgd:o.guard=none) (s x:Operand)
  (ho:o.op=.call { callee:=.builtin .append,args:=#[s,x],argTypes:=#[44,44] }) (v:Value) (l:List Ev) (d:Ev) (hs:a.eval s=v) (hr:Re W v l)
  (g c:Nat) (hx:a.eval x=.slice (some ⟨g,0,none⟩) 1 c) (hg:W.heap[g]?=some (.cells #[.int .u8 d.k,.int .u8 d.n,.int .u8 d.d.k,.string d.d.t,.int .i64 d.d.a,.int .i64 d.d.l,.int .i64 d.d.c,.int .i64 d.d.f] 39 (0,0))) (hl:l.length<=1000000000)
  (h:∀q cap w',Re w' (.slice (some ⟨q,0,none⟩) (l.length+1) cap) (l++[d])->W.grownBy w' v.ownBlock->(v.ownBlock=some q\/q=W.heap.size)->K (a.put o.dst (.slice (some ⟨q,0,none⟩) (l.length+1) cap)) w') :
  if Region.wanted o (yielded ops a.tmps)=true then Oper.wp Tryz.prog o a W K Q else E:=by
 obtain ⟨i0,hi,hz0,hz1,hz2⟩:=info_parts Tryz.info39;refine step_append_lies W hgd s x 44 ho 0 39 i0 _ 8 64 Tryz.underlying44 hi hz0 hz1 hz2 rfl (by decide) v _ _ hs hr ⟨g,0,none⟩ 1 c (ecs [d]) hx (by rw [ri];rfl) ?_ (rf [d]) (by omega) (by unfold maxLen;omega) (by omega) (Nat.zero_le _) _ rfl ?_
 ·intro j u hu;refine World.news_of_block hg j u ?_;have e:ecs [d]=[.int .u8 d.k,.int .u8 d.n,.int .u8 d.d.k,.string d.d.t,.int .i64 d.d.a,.int .i64 d.d.l,.int .i64 d.d.c,.int .i64 d.d.f]:=by simp [ecs,aW,Ev.cs]
  rw [e] at hu
  simpa using hu
 ·intro q cap w' a1 a2 a3 _;refine h q cap w' ?_ a2 a3;unfold Re;rw [List.length_append,rj];exact a1
structure BG (W W':World) (g:Nat) (c:Bool) (e n:Int) (vs vt:Value) (E:List Ev):Prop where
 ex:∃vt',PB W' g c e n vs vt'/\Re W' vt' E/\Nb W vt vt'
 kp:Kp (fun k=>k=g\/vt.ownBlock=some k) W W'
theorem xn {W1 w3:World}{E':List Ev}(h:PB W g c e n vs vt) (hE:Re W vt E) (hb:Below W.heap.size W W1) {q cap n':Nat}(hr:Re w3 (.slice (some ⟨q,0,none⟩) n' cap) E') (hg:W1.grownBy w3 vt.ownBlock) (hq:vt.ownBlock=some q\/q=W1.heap.size) :
  (w3.cell? ⟨g,4,none⟩=some vt/\w3.frozen? ⟨g,4,none⟩=false)/\BG W (w3.setCell ⟨g,4,none⟩ (.slice (some ⟨q,0,none⟩) n' cap)) g c e n vs vt E':=by
 have h1:=h.below hb;have hne:¬some g=vt.ownBlock:=fun e=>(hE.below hb).ne h1 (by decide) g e.symm rfl
 have h3:PB w3 g c e n vs vt:=h1.kp (Kp.of_grown hg) hne;refine ⟨⟨aa h3 rfl,h3.frozen 4⟩,⟨⟨.slice (some ⟨q,0,none⟩) n' cap,af h3 4 _,hr.kp (Kp.set _ _ _ _) (hr.ne h3 (by decide)),?_⟩,?_⟩⟩
 ·rcases hq with hq|hq
  ·exact .inl hq.symm
  ·exact .inr ⟨q,rfl,by rw [hq];exact hb.size⟩
 ·exact ((Kp.of_below hb).step (Kp.of_grown hg) (fun k _ e=>.inr e.symm)).step (Kp.set _ _ _ _) (fun k _ e=>.inl e)
set_option maxHeartbeats 1000000 in
theorem sw (h:PB W g c e n vs vt) (hE:Re W vt E) (d:Ev) (hl:E.length<=1000000000) :
  Da 99 #[.pointer (some ⟨g,0,none⟩),d.v] W fun r w'=>r=.returned (.tuple #[])/\BG W w' g c e n vs vt (E++[d]):=by
 obtain ⟨p,cap,rfl,_⟩:=hE.shape;have HW:Hid (∀V,Below W.heap.size W V->Re V (.slice p E.length cap) E):=fun V hb=>hE.below hb
 have HT:Hid (∀W1 w3 q cp,Below W.heap.size W W1->Re w3 (.slice (some ⟨q,0,none⟩) (E.length+1) cp) (E++[d])->W1.grownBy w3 (Value.slice p E.length cap).ownBlock->((Value.slice p E.length cap).ownBlock=some q\/q=W1.heap.size)->(w3.cell? ⟨g,4,none⟩=some (.slice p E.length cap)/\w3.frozen? ⟨g,4,none⟩=false)/\BG W (w3.setCell ⟨g,4,none⟩ (.slice (some ⟨q,0,none⟩) (E.length+1) cp)) g c e n vs (.slice p E.length cap) (E++[d])):=
  fun W1 w3 q cp hb h1 h2 h3=>xn h hE hb h1 h2 h3
 obtain ⟨c0,c1,c2,c3,c4⟩:=h.cells;have hf:=h.frozen 4;have hg:=h.lt;clear h hE
 dsimp only [Ev.v]
 obtain ⟨⟨k0,n0,⟨k1,t,a,l,cc,f⟩⟩,hd⟩:∃x,d=x:=⟨_,rfl⟩;subst hd
 go_enter Tryz.func99,Tryz.ntmps99
 go_wp2_with fail
 obtain ⟨W1,e1⟩:∃W1,W.alloc (.cells #[.int .u8 k0,.int .u8 n0,.int .u8 k1,.string t,.int .i64 a,.int .i64 l,.int .i64 cc,.int .i64 f] 39)=W1:=⟨_,rfl⟩;have hb:Below W.heap.size W W1:=by rw [<-e1];exact (Below.refl _ _).alloc (Nat.le_refl _) _
 have hn:W1.heap[W.heap.size]?=some (.cells #[.int .u8 k0,.int .u8 n0,.int .u8 k1,.string t,.int .i64 a,.int .i64 l,.int .i64 cc,.int .i64 f] 39):=by rw [<-e1];exact am _ _
 rw [e1];clear e1;have m0:W1.cell? ⟨W.heap.size,0,none⟩=_:=aa hn rfl;have m1:W1.cell? ⟨W.heap.size,1,none⟩=_:=aa hn rfl;have m2:W1.cell? ⟨W.heap.size,2,none⟩=_:=aa hn rfl;have m3:W1.cell? ⟨W.heap.size,3,none⟩=_:=aa hn rfl;have m4:W1.cell? ⟨W.heap.size,4,none⟩=_:=aa hn rfl;have m5:W1.cell? ⟨W.heap.size,5,none⟩=_:=aa hn rfl;have m6:W1.cell? ⟨W.heap.size,6,none⟩=_:=aa hn rfl;have m7:W1.cell? ⟨W.heap.size,7,none⟩=_:=aa hn rfl;have d4:W1.cell? ⟨g,4,none⟩=some (.slice p E.length cap):=(hb.cell hg).trans c4;have HB:Hid (∀o,Below W.heap.size W (W1.drew.alloc o)):=fun o=>(hb.drew).alloc hb.size _
 have hg1:g<W1.heap.size:=Nat.lt_of_lt_of_le hg hb.size;clear hb hn c0 c1 c2 c3 c4 hf hg
 go_region_law (refine uR (by rfl) _ _ (by rfl) (.slice p E.length cap) E ⟨k0,n0,⟨k1,t,a,l,cc,f⟩⟩ (by rfl) (HW.out _ (HB.out _)) W1.heap.size 1 (by rfl) (am W1.drew _) hl ?_;intro q cp w3 hr3 hg3 hq3;obtain ⟨⟨x1,x2⟩,x3⟩:=HT.out _ w3 q cp (HB.out _) hr3 hg3 hq3;have HX:=hid x3;clear x3 hr3 hg3 hq3)
 all_goals (
  go_wp2_with fail
  go_end0
  exact ⟨rfl,HX.out⟩)
end Go.Proofs.YtpdlohfdjiaegaaGreatDoor
