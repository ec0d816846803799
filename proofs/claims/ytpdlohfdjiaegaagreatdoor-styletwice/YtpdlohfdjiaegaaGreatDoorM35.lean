import Derived.Test.YtpdlohfdjiaegaaGreatDoorM05
import Derived.Test.YtpdlohfdjiaegaaGreatDoorM34
set_option linter.unusedVariables false
set_option linter.unusedSimpArgs false
namespace Go.Proofs.YtpdlohfdjiaegaaGreatDoor
open Go.RowKit
open Lw (Dc bE rt frm dep rtT rtN lsb edg)
variable {k:Nat}{t:Tv}
theorem lR (T:ByteArray) (i:Nat) (h:i<T.size):((lsb T).getD i 0).toNat=Lx.by8 T i:=by
 have h':i<T.data.size:=h
 have e1:(lsb T).getD i 0=T.data[i]:=by
  unfold lsb;rw [List.getD_eq_getElem?_getD,List.getElem?_eq_getElem (by simpa using h')];simp
 rw [e1];unfold Lx.by8;show _=(T.data[i]!).toNat;rw [getElem!_pos T.data i h']
theorem BS {T:ByteArray}(h:Lx.Tx k T):rtT T=true:=by
 obtain ⟨⟨a1,a2⟩,⟨b1,b2⟩,c⟩:=Lx.xk h;have hp:=h.pos;have e0:=lR T 0 hp;have e1:=lR T (T.size-1) (by omega)
 have key:∀x:UInt8,x.toNat≠32->x.toNat≠10->edg x=false:=by
  intro x h1 h2;unfold edg;rw [Bool.or_eq_false_iff];exact ⟨beq_eq_false_iff_ne.2 (fun e=>h1 (by rw [e];rfl)),beq_eq_false_iff_ne.2 (fun e=>h2 (by rw [e];rfl))⟩
 unfold rtT;rw [key _ (by rw [e0];exact a1) (by rw [e0];exact a2),key _ (by rw [e1];exact b1) (by rw [e1];exact b2),decide_eq_true c,decide_eq_true (show 1<=T.size by omega)];rfl
structure Tks (l:List Tv):Prop where
 tx:∀t∈l,∃k,Lx.Tx k t.t/\t.k=(Lx.kOf k t.t:Nat)
 ln:∀(i:Nat) t u,l[i]?=some t->l[i+1]?=some u->t.k=7->1<=u.f
 fd:∀t∈l,0<=t.f
theorem Tks.tail {l:List Tv}(h:Tks (t :: l)):Tks l:=⟨fun x hx=>h.tx x (List.mem_cons_of_mem _ hx),fun i x u h1 h2 h3=>h.ln (i+1) x u h1 h2 h3,fun x hx=>h.fd x (List.mem_cons_of_mem _ hx)⟩
theorem xC (s:ByteArray) (h:(Lx.scn s).2.1=0):Tks ((Lx.scn s).1.map (Lx.tv s)):=by
 obtain ⟨h1,_,h3⟩:=Lx.jS s _ 0 0 (Nat.le_refl _) h;refine ⟨?_,?_,?_⟩
 ·intro t ht;obtain ⟨x,hx,rfl⟩:=List.mem_map.1 ht;obtain ⟨k,a,b⟩:=h1 x hx;exact ⟨k,a,by show (x.k:Int)=_;rw [b];rfl⟩
 ·intro i t u ht hu hk;rw [List.getElem?_map] at ht hu;obtain ⟨x,hx,rfl⟩:=Option.map_eq_some_iff.1 ht;obtain ⟨y,hy,rfl⟩:=Option.map_eq_some_iff.1 hu;have:=h3 i x y hx hy (by have:(x.k:Int)=7:=hk;omega);show (1:Int)<=(y.f:Int);omega
 ·intro t ht;obtain ⟨x,hx,rfl⟩:=List.mem_map.1 ht;show (0:Int)<=(x.f:Int);omega
theorem jt {K:List It}{n:Int}{E:List Ev}{R:Ro}(h:Ru t k K n E R):∀{L:List It}{m:Int}{F:List Ev},R=.yes L m F->(∀e∈E,e.k=1->1<=e.n/\e.n<=32)->∀e∈F,e.k=1->1<=e.n/\e.n<=32:=by
 induction h with
 |nil=>intro L m F h;cases h
 |ref _=>intro L m F h;cases h
 |tk hs=>intro L m F h hE;cases h;exact hE
 |go hs _ ih=>
  rename_i k i K n d E o r R _
  intro L m F h hE;refine ih h (fun e he=>(List.mem_append.1 he).elim (hE e) (fun ho=>?_));cases i with
  |fl x=>
   have hm:∃m,x=.mt m:=by
    cases x with
    |mt m=>exact ⟨m,rfl⟩
    |_=>simp only [It.step,Fl.step] at hs;split at hs <;> cases hs
   obtain ⟨m,rfl⟩:=hm;have hr:=ib t m;simp only [It.step,Fl.step] at hs;cases hrow:M.row t m with
   |ref=>rw [hrow] at hs;cases hs
   |ex r'=>rw [hrow] at hs;cases hs;simp at ho
   |op nd r'=>
    rw [hrow] at hs hr;cases hs;simp at ho;subst ho;intro _;have:=hr.2.2.2;exact ⟨by show 1<=nd;omega,this.2⟩
  |lv a=>cases hs;simp at ho;subst ho;intro h;cases h
  |once p=>cases hs;simp at ho
  |again p=>cases hs;simp at ho
  |all r'=>cases hs;simp at ho
def spx:Sy->List Ev->Option (Sy × List Dc)
 |s,[]=>some (s,[])
 |s,e :: r=>match cd s e with
  |none=>none
  |some (s1,l)=>(spx s1 r).map (fun x=>(x.1,l++x.2))
theorem xH (s:Sy) (a b:List Ev) {s1:Sy}{l:List Dc}(h:spx s a=some (s1,l)):spx s (a++b)=(spx s1 b).map (fun x=>(x.1,l++x.2)):=by
 induction a generalizing s l with
 |nil=>cases h;show spx s1 b=_;cases spx s1 b <;> simp
 |cons e a ih=>
  simp only [spx,List.cons_append] at h ⊢;cases hp:cd s e with
  |none=>rw [hp] at h;cases h
  |some x=>
   obtain ⟨s2,l2⟩:=x;rw [hp] at h;simp only at h ⊢;obtain ⟨⟨y1,y2⟩,hy,e2⟩:=Option.map_eq_some_iff.1 h;simp only [Prod.mk.injEq] at e2;obtain ⟨rfl,rfl⟩:=e2;rw [ih _ hy];cases spx y1 b <;> simp
theorem gn {o:List Ev}(hB:Brk o) (hn:∀e∈o,e.k=1->1<=e.n/\e.n<=32):∀(s:Sy) {l:List Int},cJ s.ks o=some l->spx s o=some (az s o,[])/\(az s o).ks=l:=by
 induction o with
 |nil=>intro s l h;cases h;exact ⟨rfl,rfl⟩
 |cons e o ih=>
  intro s l h;have hB':Brk o:=fun x hx=>hB x (List.mem_cons_of_mem _ hx)
  have hn':∀x∈o,x.k=1->1<=x.n/\x.n<=32:=fun x hx=>hn x (List.mem_cons_of_mem _ hx)
  rw [bM];simp only [spx]
  rcases hB e (List.mem_cons_self ..) with h1|h3
  ·have hm:s.may e=true:=by
    obtain ⟨a,b⟩:=hn e (List.mem_cons_self ..) h1;unfold Sy.may;rw [if_pos h1,decide_eq_true a,decide_eq_true b];rfl
   have hp:cd s e=some (s.opens e.n,[]):=by unfold cd;rw [if_pos hm,bO s h1]
   rw [hp,bO s h1];simp only [cJ,if_pos h1] at h;rw [<-jE] at h;obtain ⟨a,b⟩:=ih hB' hn' _ h;exact ⟨by simp only [a,Option.map_some,List.nil_append],b⟩
  ·have h1:¬e.k=1:=by omega
   simp only [cJ,if_neg h1,if_pos h3] at h;cases hk:s.ks with
   |nil=>rw [hk] at h;cases h
   |cons n r=>
    rw [hk] at h;simp only at h
    split at h
    ·rename_i hne
     have hm:s.may e=true:=by
      unfold Sy.may;rw [if_neg h1,if_pos h3];unfold Sy.ks at hk;cases hc:s.ns with
      |nil=>rw [hc] at hk;cases hk
      |cons nd ns=>rw [hc,List.map_cons] at hk;injection hk with k1 k2;exact decide_eq_true (k1.trans hne)
     have hp:cd s e=some (s.leaves,[]):=by unfold cd;rw [if_pos hm,bK s h3]
     rw [hp,bK s h3];have hl:s.leaves.ks=r:=by rw [im,hk];rfl
     rw [<-hl] at h;obtain ⟨a,b⟩:=ih hB' hn' _ h;exact ⟨by simp only [a,Option.map_some,List.nil_append],b⟩
    ·cases h
end Go.Proofs.YtpdlohfdjiaegaaGreatDoor
namespace Go.Proofs.YtpdlohfdjiaegaaGreatDoor
open Go.RowKit
open Lw (Dc bE rt frm dep rtT rtN)
variable {s:Sy}{o:List Ev}
theorem fQ (n:Int):Brk (aT n)/\(∀e∈aT n,e.k=1->1<=e.n/\e.n<=32):=by
 unfold aT
 split
 ·exact ⟨fun e he=>by simp at he;subst he;exact .inl rfl,fun e he _=>by simp at he;subst he;exact ⟨by decide,by decide⟩⟩
 ·exact ⟨fun e he=>by simp at he,fun e he=>by simp at he⟩
theorem qt {K:List It}{n:Int}{t:Tv}{ev:List Ev}{st':Pst}(hg:eU (.live K n)) (hk:s.ks=lvs K) (hp:fB t (.live K n) ev 0 st') :
  ∃o e K' n',ev=o++[e]/\st'=.live K' n'/\eU (.live K' n')/\Brk o/\(∀e∈o,e.k=1->1<=e.n/\e.n<=32)/\cJ s.ks o=some (lvs K')/\1<=(lvs K').length/\e=⟨if (t.k == 7 || t.k == 8)=true then 4 else 2,0,t⟩:=by
 obtain ⟨b1,b2,b3,b4,b5,hbot,hbn,hbe⟩:=cm hg;obtain ⟨c1,c2⟩:=fQ n;have hgk:=(dh hg hp).1;cases hp with
 |note hc=>
  exact ⟨aT n,_,_,_,rfl,rfl,hgk,c1,c2,by rw [hk];exact b4,fZ hbot,by rw [if_pos hc]⟩
 |yes hc hR hkk hm=>
  rename_i L m E kk
  obtain ⟨d1,d2,d3,o,d4,d5,d6,d7⟩:=eI hR rfl b1 b2 b3;have hn:=jt hR rfl c2;have hL:=lu hR rfl hbot;refine ⟨E,_,_,_,rfl,rfl,hgk,?_,hn,?_,fZ hL,by rw [if_neg (by rw [hc];decide)]⟩
  ·rw [d4];intro e he
   rcases List.mem_append.1 he with he|he
   ·exact c1 e he
   ·exact (d6 e he).2.1
  ·rw [d4,hk];exact (cI _ _ _ _ b4).trans d5
theorem iz (hB:Brk o):∀s:Sy,(az s o).en=s.en/\(az s o).pt=s.pt/\(az s o).wr=s.wr:=by
 have haw:∀(l:List Pz) (s:Sy),(s.aws l).en=s.en/\(s.aws l).pt=s.pt/\(s.aws l).wr=s.wr:=by
  intro l
  induction l with
  |nil=>intro s;exact ⟨rfl,rfl,rfl⟩
  |cons p l ih=>intro s;rw [bA];exact ih (s.aw p)
 have hex:∀s:Sy,s.exprIn.en=s.en/\s.exprIn.pt=s.pt/\s.exprIn.wr=s.wr:=by
  intro s;unfold Sy.exprIn
  split
  ·exact ⟨rfl,rfl,rfl⟩
  ·show (Sy.en (if _ then _ else if _ then _ else _))=_/\(Sy.pt (if _ then _ else if _ then _ else _))=_/\(Sy.wr (if _ then _ else if _ then _ else _))=_
   repeat' split
   ·exact haw _ _
   ·exact haw _ _
   ·exact ⟨rfl,rfl,rfl⟩
 have hmk:∀(s:Sy) (k:Int),(s.mark k).en=s.en/\(s.mark k).pt=s.pt/\(s.mark k).wr=s.wr:=by
  intro s k;unfold Sy.mark;split <;> exact ⟨rfl,rfl,rfl⟩
 have hop:∀(s:Sy) (k:Int),(s.opens k).en=s.en/\(s.opens k).pt=s.pt/\(s.opens k).wr=s.wr:=by
  intro s k;unfold Sy.opens;simp only;obtain ⟨a1,a2,a3⟩:=haw (opP k) { ((if k=21 then s.exprIn else s).mark k) with ns:=⟨k,0,false⟩ :: ((if k=21 then s.exprIn else s).mark k).ns };obtain ⟨b1,b2,b3⟩:=hmk (if k=21 then s.exprIn else s) k
  have hc:(if k=21 then s.exprIn else s).en=s.en/\(if k=21 then s.exprIn else s).pt=s.pt/\(if k=21 then s.exprIn else s).wr=s.wr:=by
   split
   ·exact hex s
   ·exact ⟨rfl,rfl,rfl⟩
  exact ⟨a1.trans (b1.trans hc.1),a2.trans (b2.trans hc.2.1),a3.trans (b3.trans hc.2.2)⟩
 have hlv:∀s:Sy,s.leaves.en=s.en/\s.leaves.pt=s.pt/\s.leaves.wr=s.wr:=by
  intro s;unfold Sy.leaves;split <;> exact ⟨rfl,rfl,rfl⟩
 induction o with
 |nil=>intro s;exact ⟨rfl,rfl,rfl⟩
 |cons e o ih=>
  intro s;rw [bM];obtain ⟨a1,a2,a3⟩:=ih (fun x hx=>hB x (List.mem_cons_of_mem _ hx)) (s.step e).1
  rcases hB e (List.mem_cons_self ..) with h2|h2
  ·rw [bO s h2] at a1 a2 a3 ⊢;obtain ⟨b1,b2,b3⟩:=hop s e.n;exact ⟨a1.trans b1,a2.trans b2,a3.trans b3⟩
  ·rw [bK s h2] at a1 a2 a3 ⊢;obtain ⟨b1,b2,b3⟩:=hlv s;exact ⟨a1.trans b1,a2.trans b2,a3.trans b3⟩
theorem mS {L:List Dc}(hB:Brk o):∀{s:Sy},Snd L s->Snd L (az s o):=by
 induction o with
 |nil=>intro s h;exact h
 |cons e o ih=>
  intro s h;rw [bM];refine ih (fun x hx=>hB x (List.mem_cons_of_mem _ hx)) ?_
  rcases hB e (List.mem_cons_self ..) with h2|h2
  ·rw [bO s h2];exact (h.opens e.n).1
  ·rw [bK s h2];exact h.leaves.1
theorem uJ (h:s.en=true) (a:Fx) (f:Int):(s.ready a f).ws.any aX=true:=by
 have haw:∀(l:List Pz) (s:Sy),(s.aws l).en=s.en:=by
  intro l
  induction l with
  |nil=>intro s;rfl
  |cons p l ih=>intro s;rw [bA];exact ih (s.aw p)
 have hem:∀s:Sy,(s.emp f).en=s.en:=by
  intro s;unfold Sy.emp;split
  ·rfl
  ·split <;> rfl
 have he:(((s.aws a.pz).emp f).endl).ws.any aX=true:=by
  unfold Sy.endl
  split
  ·rfl
  ·rename_i hc
   have e1:((s.aws a.pz).emp f).en=true:=by rw [hem,haw,h]
   cases hb:((s.aws a.pz).emp f).ws.any aX with
   |true=>rfl
   |false=>exact absurd ⟨e1,hb⟩ hc
 unfold Sy.ready
 generalize ((s.aws a.pz).emp f).endl=u at he
 unfold Sy.part
 split
 ·show (u.ws++[dS]).any aX=true
  rw [List.any_append,he,Bool.true_or]
 ·exact he
end Go.Proofs.YtpdlohfdjiaegaaGreatDoor
