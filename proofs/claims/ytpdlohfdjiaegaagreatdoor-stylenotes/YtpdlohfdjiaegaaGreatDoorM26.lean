import Derived.Test.YtpdlohfdjiaegaaGreatDoorM25
set_option linter.unusedVariables false
set_option linter.unusedSimpArgs false
namespace Go.Proofs.YtpdlohfdjiaegaaGreatDoor
open Go.RowKit
def Bot (K:List It):Prop:=∃X,K=X++[.lv 1]
theorem ru_bot {t:Tv}{k:Nat}{K:List It}{n:Int}{E:List Ev}{R:Ro}(h:Ru t k K n E R):∀{L:List It}{m:Int}{F:List Ev},R=.yes L m F→Bot K→Bot L:=by
 induction h with
 |nil=>intro L m F h;cases h
 |ref _=>intro L m F h;cases h
 |tk hs=>
  rename_i i K n E
  intro L m F h hb
  cases h
  obtain ⟨X,hX⟩:=hb
  cases X with
  |nil=>simp at hX;obtain ⟨rfl,rfl⟩:=hX;cases hs
  |cons j X=>simp at hX;exact ⟨X,hX.2⟩
 |go hs hr ih=>
  rename_i k i K n d E o r R
  intro L m F h hb
  obtain ⟨X,hX⟩:=hb
  cases X with
  |nil=>
   simp at hX
   obtain ⟨rfl,rfl⟩:=hX
   cases hs
   cases hr
   cases h
  |cons j X=>
   simp at hX
   obtain ⟨rfl,rfl⟩:=hX
   exact ih h ⟨r++X,by simp⟩
theorem bot_lv {K:List It}(h:Bot K):1≤(lvs K).length:=by
 obtain ⟨X,rfl⟩:=h
 rw [lvs_app]
 simp [lvs]
def Good:Pst→Prop
 |.live K n=>Ok K n∧((n=0∧K=[])∨Bot K)
 |.stuck e n=>e=120∨e=122
 |.shut=>True
theorem Good.ok {st:Pst}(h:Good st):st.ok:=by
 cases st with
 |live K n=>exact h.1.lz
 |stuck e n=>
  show e≠0
  rcases h with rfl|rfl <;> decide
 |shut=>trivial
theorem good_new:Good (.live [] 0):=⟨⟨wfs_nil,trivial,rfl,by decide⟩,.inl ⟨rfl,rfl⟩⟩
def Pst.path:Pst→List Int
 |.live K _=>lvs K
 |_=>[]
theorem good_beg {K:List It}{n:Int}(h:Good (.live K n)):wfs (beg K n)∧fb (beg K n)∧((lvs (beg K n)).length:Int)=begN n∧play (lvs K) (begE n)=some (lvs (beg K n))∧(beg K n).length≤20000∧Bot (beg K n)∧begN n≤1000∧(begE n).length≤1:=by
 have hn0:n=0→K=[]:=by
  intro e
  rcases h.2 with h2|h2
  ·exact h2.2
  ·have:=bot_lv h2;have:=h.1.lv;omega
 obtain ⟨b1,b2,b3,b4,b5⟩:=ok_beg h.1 hn0
 have hle:=h.1.le
 refine ⟨b1,b2,b3,b4,b5,?_,by unfold begN;split <;> omega,by unfold begE;split <;> simp⟩
 by_cases e:n=0
 ·obtain rfl:=hn0 e
  subst e
  exact ⟨progR,by simp [beg]⟩
 ·rcases h.2 with h2|h2
  ·exact absurd h2.1 e
  ·have hb:(n == 0)=false:=by simpa using e
   simp only [beg,hb,Bool.false_eq_true,if_false]
   exact h2
theorem put_keep {st st':Pst}{t:Tv}{ev:List Ev}{code:Int}(h:Good st) (hp:Putr t st ev code st'):Good st'∧ev.length≤30000∧(code=0→∃K n,st'=.live K n∧Bot K)∧(code=0→play st.path ev=some st'.path):=by
 cases hp with
 |shut=>exact ⟨trivial,by simp,fun h=>(by cases h),fun h=>(by cases h)⟩
 |stuck=>exact ⟨h,by simp,fun h0=>(by subst h0;rcases h with h|h <;> cases h),fun h0=>(by subst h0;rcases h with h|h <;> cases h)⟩
 |note hc=>
  obtain ⟨b1,b2,b3,b4,b5,hbot,hbn,hbe⟩:=good_beg h
  refine ⟨⟨⟨b1,b2,b3,hbn⟩,.inr hbot⟩,by simp;omega,fun _=>⟨_,_,rfl,hbot⟩,fun _=>?_⟩
  refine (play_app _ _ _ _ b4).trans ?_
  simp [play]
  rfl
 |no hc hR hk=>exact ⟨.inl rfl,by simp,fun h=>(by cases h),fun h=>(by cases h)⟩
 |deep hc hR hk hm=>exact ⟨.inr rfl,by simp,fun h=>(by cases h),fun h=>(by cases h)⟩
 |yes hc hR hk hm=>
  obtain ⟨b1,b2,b3,b4,b5,hbot,hbn,hbe⟩:=good_beg h
  obtain ⟨c1,c2,c3,o,c4,c5,c6,c7⟩:=ru_keep hR rfl b1 b2 b3
  have hL:=ru_bot hR rfl hbot
  refine ⟨⟨⟨c1,c2,c3,by omega⟩,.inr hL⟩,by rw [c4];simp;omega,fun _=>⟨_,_,rfl,hL⟩,fun _=>?_⟩
  rw [c4,List.append_assoc]
  refine (play_app _ _ _ _ b4).trans ((play_app _ _ _ _ c5).trans ?_)
  simp [play]
  rfl
theorem put_ex {st:Pst}(h:Good st) (t:Tv):∃ev code st',Putr t st ev code st':=by
 cases st with
 |shut=>exact ⟨_,_,_,.shut⟩
 |stuck e n=>exact ⟨_,_,_,.stuck⟩
 |live K n=>
  obtain ⟨b1,b2,b3,b4,b5,hbot,hbn,hbe⟩:=good_beg h
  by_cases hc:(t.k == 7 || t.k == 8)=true
  ·exact ⟨_,_,_,.note hc⟩
  ·have hc':(t.k == 7 || t.k == 8)=false:=by simpa using hc
   obtain ⟨k,R,hk,hR⟩:=ru_ex t (beg K n) b1 (begN n) (begE n)
   cases R with
   |no=>exact ⟨_,_,_,.no hc' hR hk⟩
   |yes L m F=>
    by_cases hm:1000<m
    ·exact ⟨_,_,_,.deep hc' hR hk hm⟩
    ·exact ⟨_,_,_,.yes hc' hR hk (by omega)⟩
theorem close_ex (st:Pst):∃ev code,Clor st ev code∧ev.length≤1:=by
 cases st with
 |live K n=>
  by_cases h:K.length=1
  ·exact ⟨_,_,.all h,by simp⟩
  ·exact ⟨_,_,.open h,by simp⟩
 |stuck e n=>exact ⟨_,_,.stuck,by simp⟩
 |shut=>exact ⟨_,_,.shut,by simp⟩
inductive Alr:Pst→List Tv→List Ev→Int→Nat→Prop
 |nil {st:Pst} {ev:List Ev} {code:Int}:Clor st ev code→Alr st [] ev code 0
 |err {st st':Pst} {t:Tv} {l:List Tv} {ev:List Ev} {code:Int}:Putr t st ev code st'→code≠0→Alr st (t :: l) [] code 0
 |on {st st':Pst} {t:Tv} {l:List Tv} {ev E:List Ev} {code:Int} {k:Nat}:Putr t st ev 0 st'→Alr st' l E code k→Alr st (t :: l) (ev++E) code (k+1)
theorem alr_ex:∀(l:List Tv) (st:Pst),Good st→∃E code k,Alr st l E code k
 |[],st,h=>by
  obtain ⟨ev,code,h1,_⟩:=close_ex st
  exact ⟨_,_,_,.nil h1⟩
 |t :: l,st,h=>by
  obtain ⟨ev,code,st',h1⟩:=put_ex h t
  have h2:=(put_keep h h1).1
  by_cases hc:code=0
  ·subst hc
   obtain ⟨E,c,k,h3⟩:=alr_ex l st' h2
   exact ⟨_,_,_,.on h1 h3⟩
  ·exact ⟨_,_,_,.err h1 hc⟩
theorem Alr.inv {st:Pst}{t:Tv}{l:List Tv}{E:List Ev}{code:Int}{k:Nat}(h:Alr st (t :: l) E code k):(∃ev st',Putr t st ev code st'∧code≠0∧E=[]∧k=0)∨(∃ev st' E2 k2,Putr t st ev 0 st'∧Alr st' l E2 code k2∧E=ev++E2∧k=k2+1):=by
 cases h with
 |err h1 h2=>exact .inl ⟨_,_,h1,h2,rfl,rfl⟩
 |on h1 h2=>exact .inr ⟨_,_,_,_,h1,h2,rfl,rfl⟩
theorem Alr.end {st:Pst}{E:List Ev}{code:Int}{k:Nat}(h:Alr st [] E code k):Clor st E code∧k=0:=by
 cases h with
 |nil h1=>exact ⟨h1,rfl⟩
end Go.Proofs.YtpdlohfdjiaegaaGreatDoor
