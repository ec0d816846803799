import Derived.Test.YtkigadnkclkopaaGreatDoorM25
set_option linter.unusedVariables false
set_option linter.unusedSimpArgs false
namespace Go.Proofs.YtkigadnkclkopaaGreatDoor
open Go.RowKit
def tokF:Fl→Bool
 |.mt _=>false
 |_=>true
def tokI:It→Bool
 |.fl x=>tokF x
 |_=>false
def rok:List Fl→Bool
 |[]=>true
 |x :: r=>rok r && (tokF x || (match r with|[]=>true|y :: _=>blk .detail (.fl y)))
def iok:It→Bool
 |.all r=>rok r
 |.once (.row r)=>rok r
 |.once _=>true
 |.again (.row r)=>rok r && trn .detail (.again (.row r))
 |.again (.fn _)=>true
 |.again (.ex _)=>false
 |_=>true
def fnk:It→Option Dk
 |.once (.fn k)=>some k
 |.again (.fn k)=>some k
 |_=>none
def nw:List It→Bool
 |[]=>true
 |i :: K=>nw K && (iok i && ((tokI i || sgd .detail K) && (match fnk i with|some k=>sgd k K|none=>true)))
def sgx (k:Dk):List It→Bool
 |[]=>match k with|.detail=>true|_=>false
 |i :: K=>blk k i || (trn k i && sgx k K)
def nwx:List It→Bool
 |[]=>true
 |i :: K=>nwx K && (iok i && ((tokI i || sgx .detail K) && (match fnk i with|some k=>sgx k K|none=>true)))
theorem sgx_sgd {k:Dk}{K:List It}(hK:sgd .detail K=true):∀(r:List It),sgx k r=true→sgd k (r++K)=true
 |[],h=>by cases k <;> first|exact hK|cases h
 |i :: r,h=>by
  simp only [sgx,Bool.or_eq_true,Bool.and_eq_true] at h
  simp only [List.cons_append,sgd,Bool.or_eq_true,Bool.and_eq_true]
  exact h.imp id (fun h=>⟨h.1,sgx_sgd hK r h.2⟩)
theorem nwx_nw {K:List It}(hn:nw K=true) (hK:sgd .detail K=true):∀(r:List It),nwx r=true→nw (r++K)=true
 |[],_=>hn
 |i :: r,h=>by
  simp only [nwx,Bool.and_eq_true,Bool.or_eq_true] at h
  simp only [List.cons_append,nw,Bool.and_eq_true,Bool.or_eq_true]
  refine ⟨nwx_nw hn hK r h.1,h.2.1,h.2.2.1.imp id (sgx_sgd hK r),?_⟩
  have h3:=h.2.2.2
  cases hf:fnk i with
  |none=>rfl
  |some k=>rw [hf] at h3;exact sgx_sgd hK r h3
def Gw.nx:Gw→Bool
 |.op nd r=>nwx (r++[.lv nd])
 |.ex r=>nwx r
 |.ref=>true
theorem worded_nwx (s:ByteArray):(wordedR s).nx=true:=by
 unfold wordedR
 repeat' split
 all_goals kernel_rfl
theorem drow_nwx (o:Option Tv) (m:M):(drow o m).nx=true:=by
 cases m with
 |kind=>
  simp only [drow]
  by_cases h1:o.elim false (wk 2 ⟨#[97,114,114,97,121]⟩)=true
  ·rw [if_pos h1];kernel_rfl
  ·rw [if_neg h1]
   by_cases h2:o.elim false (wk 2 ⟨#[114,101,99,111,114,100]⟩)=true
   ·rw [if_pos h2];kernel_rfl
   ·rw [if_neg h2];kernel_rfl
 |statement=>
  cases o with
  |none=>rfl
  |some t=>
   simp only [drow]
   by_cases h1:(t.k == 1)=true
   ·rw [if_pos h1];kernel_rfl
   ·rw [if_neg h1]
    by_cases h2:(t.k == 2)=true
    ·rw [if_pos h2];exact worded_nwx t.t
    ·rw [if_neg h2];rfl
 |factor=>
  cases o with
  |none=>rfl
  |some t=>
   simp only [drow,M.row]
   by_cases h1:(facN t == 25)=true
   ·rw [if_pos h1];kernel_rfl
   rw [if_neg h1]
   by_cases h1:(facN t == 26)=true
   ·rw [if_pos h1];kernel_rfl
   rw [if_neg h1]
   by_cases h1:(facN t == 27)=true
   ·rw [if_pos h1];kernel_rfl
   rw [if_neg h1]
   by_cases h1:(facN t == 32)=true
   ·rw [if_pos h1];kernel_rfl
   rw [if_neg h1]
   by_cases h1:(facN t == 28)=true
   ·rw [if_pos h1];kernel_rfl
   rw [if_neg h1];rfl
 |_=>simp only [drow,M.row];kernel_rfl
theorem rok_nw {K:List It}(hn:nw K=true) (hK:sgd .detail K=true):∀(r:List Fl),rok r=true→nw (r.map It.fl++K)=true
 |[],_=>hn
 |x :: r,h=>by
  simp only [rok,Bool.and_eq_true,Bool.or_eq_true] at h
  simp only [List.map_cons,List.cons_append,nw,Bool.and_eq_true,Bool.or_eq_true]
  refine ⟨rok_nw hn hK r h.1,rfl,h.2.imp id (fun h2=>?_),rfl⟩
  cases r with
  |nil=>exact hK
  |cons y r=>
   simp only [List.map_cons,List.cons_append,sgd,Bool.or_eq_true]
   exact .inl h2
theorem nw_cons {i:It}{K:List It}(h:nw (i :: K)=true):nw K=true∧iok i=true∧(tokI i=false→sgd .detail K=true)∧(∀k,fnk i=some k→sgd k K=true):=by
 simp only [nw,Bool.and_eq_true,Bool.or_eq_true] at h
 refine ⟨h.1,h.2.1,fun e=>h.2.2.1.resolve_left (by rw [e];decide),fun k e=>?_⟩
 have:=h.2.2.2
 rw [e] at this
 exact this
theorem dpick_iok {o:Option Tv}{p:Pk}{j:It}(h:dpick o p=some j) (hp:∀r,p=.row r→rok r=true):iok j=true∧fnk j=none∧tokI j=false:=by
 cases o with
 |none=>cases h
 |some t=>
  cases p with
  |fn d=>
   simp only [dpick] at h
   split at h
   ·simp only [Option.map_eq_some_iff] at h
    obtain ⟨m,_,rfl⟩:=h
    exact ⟨rfl,rfl,rfl⟩
   ·cases h
  |row r=>
   simp only [dpick,Pk.pick] at h
   split at h
   ·cases h;exact ⟨hp r rfl,rfl,rfl⟩
   ·cases h
  |ex m=>
   simp only [dpick,Pk.pick] at h
   split at h
   ·cases h
   ·cases h;exact ⟨rfl,rfl,rfl⟩
theorem dst_nw {L:List Tv}{i:It}{K:List It}{d:D}(h:nw (i :: K)=true):nw ((dst L i d).1++K)=true:=by
 obtain ⟨h1,h2,h3,h4⟩:=nw_cons h
 cases i with
 |fl x=>
  by_cases hx:∃m,x=.mt m
  ·obtain ⟨m,rfl⟩:=hx
   have hr:=drow_nwx (nxt L d) m
   simp only [dst]
   cases hd:drow (nxt L d) m with
   |ref=>exact h1
   |ex r=>rw [hd] at hr;exact nwx_nw h1 (h3 rfl) r hr
   |op nd r=>rw [hd] at hr;exact nwx_nw h1 (h3 rfl) _ hr
  ·have e:dst L (.fl x) d=([],tkD L (qn L d (fun t=>x.takes t)) d):=by
    cases x with
    |mt m=>exact absurd ⟨m,rfl⟩ hx
    |_=>rfl
   rw [e]
   exact h1
 |lv n=>exact h1
 |all r=>exact rok_nw h1 (h3 rfl) r h2
 |once p=>
  simp only [dst]
  cases hp:dpick (nxt L d) p with
  |none=>exact h1
  |some j=>
   obtain ⟨a,b,c⟩:=dpick_iok hp (fun r e=>by subst e;exact h2)
   show nw (j :: K)=true
   simp only [nw,Bool.and_eq_true,Bool.or_eq_true,a,b,h1,h3 rfl,and_self,or_true]
 |again p=>
  simp only [dst]
  cases hp:dpick (nxt L d) p with
  |none=>exact h1
  |some j=>
   have hr:(∀r,p=.row r→rok r=true)∧trn .detail (.again p)=true:=by
    cases p with
    |fn k=>exact ⟨(fun r e=>by cases e),rfl⟩
    |row r=>
     simp only [iok,Bool.and_eq_true] at h2
     exact ⟨(fun r' e=>by cases e;exact h2.1),h2.2⟩
    |ex m=>cases h2
   obtain ⟨a,b,c⟩:=dpick_iok hp hr.1
   show nw (j :: .again p :: K)=true
   have hs:sgd .detail (.again p :: K)=true:=by
    simp only [sgd,Bool.or_eq_true,Bool.and_eq_true]
    exact .inr ⟨hr.2,h3 rfl⟩
   rw [nw]
   simp only [Bool.and_eq_true,Bool.or_eq_true,a,b,h,hs,and_self,or_true]
theorem nw_prog:nw (progR++[.lv 1])=true:=by kernel_rfl
theorem ru_ref_no {t:Tv}{i:It}(hs:It.step t i=.ref) {k:Nat}{K:List It}{n:Int}{E:List Ev}{R:Ro}(h:Ru t k (i :: K) n E R):R=.no:=by
 cases h with
 |ref _=>rfl
 |tk h=>rw [hs] at h;cases h
 |go h _=>rw [hs] at h;cases h
theorem step_wd {t:Tv}{q:Int}{ts:List ByteArray}(h:Fl.takes t (.wd q ts)=false):It.step t (.fl (.wd q ts))=.ref:=by
 simp [It.step,Fl.step,h]
theorem ru_op_no {t:Tv}{i:It}{q:Int}{ts:List ByteArray}{d:Int}{o:List Ev}{r:List It}(hs:It.step t i=.go d o (.fl (.wd q ts) :: r)) (hq:(t.k == q)=false) {k:Nat}{K:List It}{n:Int}{E:List Ev}{R:Ro}(h:Ru t k (i :: K) n E R):R=.no:=by
 cases h with
 |ref _=>rfl
 |tk h=>rw [hs] at h;cases h
 |go h hr=>
  rw [hs] at h
  cases h
  exact ru_ref_no (step_wd (by simp [Fl.takes,hq])) hr
theorem ru_fn_no {t:Tv}{k:Dk}{m:M}(hm:k.pick t=some m) (hk:(t.k == k.kd)=false) {j:Nat}{K:List It}{n:Int}{E:List Ev}{R:Ro}(h:Ru t j (.fl (.mt m) :: K) n E R):R=.no:=by
 cases k <;> simp only [Dk.pick] at hm <;> simp only [Dk.kd] at hk
 all_goals (repeat' (split at hm))
 all_goals first
  | (cases hm;done)
  | (cases hm;exact ru_op_no rfl hk h)
theorem opD_put {n:Int}{d:D}(he:d.e=0):opD n d=putE d [⟨1,n,tv0⟩]:=by
 unfold opD
 rw [if_pos he]
 rfl
theorem clD_put {n:Int}{d:D}(he:d.e=0):clD n d=putE d [⟨3,n,tv0⟩]:=by
 unfold clD
 rw [if_pos he]
 rfl
theorem drow_any {t:Tv}{m:M}(h1:m≠.kind) (h2:m≠.statement):drow (some t) m=M.row t m:=by
 cases m <;> first|rfl|exact absurd rfl h1|exact absurd rfl h2
theorem worded_form (s:ByteArray):wordedR s=.ref∨∃nd r,wordedR s=.op nd (.fl (.wd 2 [s]) :: r):=by
 unfold wordedR
 repeat' split
 all_goals first
  |exact .inl rfl
  |exact .inr ⟨_,_,rfl⟩
theorem same_row {L:List Tv}{d:D}{t:Tv}(hn:nxt L d=some t) {m:M}{dn:Int}{o:List Ev}{r:List It}(hs:It.step t (.fl (.mt m))=.go dn o r) (he:drow (some t) m=M.row t m):dst L (.fl (.mt m)) d=(r,putE d o):=by
 have hz:=(nxt_lt hn).1
 simp only [dst,hn,he]
 simp only [It.step,Fl.step] at hs
 cases hr:M.row t m with
 |ref=>rw [hr] at hs;cases hs
 |ex r'=>rw [hr] at hs;cases hs;simp only [putE_nil]
 |op nd r'=>rw [hr] at hs;cases hs;simp only [opD_put hz]
theorem pick_same {t:Tv}{p:Pk}:dpick (some t) p=Pk.pick t p∨∃k m,p=.fn k∧k.pick t=some m∧(t.k == k.kd)=false∧dpick (some t) p=none:=by
 cases p with
 |fn k=>
  simp only [dpick,Pk.pick]
  by_cases h:(t.k == k.kd)=true
  ·exact .inl (if_pos h)
  ·have h':(t.k == k.kd)=false:=by simpa using h
   rw [if_neg h]
   cases hp:k.pick t with
   |none=>exact .inl rfl
   |some m=>exact .inr ⟨k,m,rfl,hp,h',rfl⟩
 |row r=>exact .inl rfl
 |ex m=>exact .inl rfl
theorem bad_of {t:Tv}{k:Dk}{m:M}(hm:k.pick t=some m) (hk:(t.k == k.kd)=false):bad k t:=by
 refine ⟨hk,fun e=>?_⟩
 subst e
 simp only [Dk.pick] at hm
 cases h1:t.is [91] with
 |true=>rfl
 |false=>
  cases h2:t.is [46] with
  |true=>rfl
  |false=>
   cases h3:t.is [40] with
   |true=>rfl
   |false=>rw [h1,h2,h3] at hm;cases hm
theorem step_sim {t:Tv}{L:List Tv}{d:D}(hn:nxt L d=some t) {i:It}{dn:Int}{o:List Ev}{r:List It}(hs:It.step t i=.go dn o r) :
  dst L i d=(r,putE d o)∨((∀k K n E R,Ru t k (r++K) n E R→R=.no)∧(∀K,nw (i :: K)=true→Refd L (i :: K) d)):=by
 have hz:=(nxt_lt hn).1
 cases i with
 |fl x=>
  cases x with
  |mt m=>
   by_cases h1:m=.kind
   ·subst h1
    by_cases k1:(t.k == 1)=true
    ·refine .inl (same_row hn hs ?_)
     have hk:t.k=1:=by simpa using k1
     simp [drow,M.row,wk,hk]
    ·have k1':(t.k == 1)=false:=by simpa using k1
     by_cases k2:(t.k == 2)=true
     ·have a1:wk 2 ⟨#[97,114,114,97,121]⟩ t=t.is [97,114,114,97,121]:=by rw [wk_is,k2,show (ByteArray.mk #[97,114,114,97,121]).toList=[97,114,114,97,121] by decide +kernel];rfl
      have a2:wk 2 ⟨#[114,101,99,111,114,100]⟩ t=t.is [114,101,99,111,114,100]:=by rw [wk_is,k2,show (ByteArray.mk #[114,101,99,111,114,100]).toList=[114,101,99,111,114,100] by decide +kernel];rfl
      by_cases b1:t.is [97,114,114,97,121]=true
      ·refine .inl (same_row hn hs ?_)
       simp [drow,M.row,a1,b1,k1']
      ·by_cases b2:t.is [114,101,99,111,114,100]=true
       ·refine .inl (same_row hn hs ?_)
        simp [drow,M.row,a1,a2,b1,b2,k1']
       ·simp [It.step,Fl.step,M.row,k1',b1,b2,Gw.sr] at hs
     ·have k2':(t.k == 2)=false:=by simpa using k2
      have a1:wk 2 ⟨#[97,114,114,97,121]⟩ t=false:=by simp only [wk,k2',Bool.false_and]
      have a2:wk 2 ⟨#[114,101,99,111,114,100]⟩ t=false:=by simp only [wk,k2',Bool.false_and]
      refine .inr ⟨?_,fun K _=>?_⟩
      ·intro k K n E R hR
       by_cases b1:t.is [97,114,114,97,121]=true
       ·simp only [It.step,Fl.step,M.row,k1',b1,Bool.false_eq_true,if_false,if_true,Gw.sr] at hs
        cases hs
        exact ru_ref_no (step_wd (by simp [Fl.takes,k2'])) hR
       ·by_cases b2:t.is [114,101,99,111,114,100]=true
        ·simp only [It.step,Fl.step,M.row,k1',b1,b2,Bool.false_eq_true,if_false,if_true,Gw.sr] at hs
         cases hs
         exact ru_ref_no (step_wd (by simp [Fl.takes,k2'])) hR
        ·simp [It.step,Fl.step,M.row,k1',b1,b2,Gw.sr] at hs
      ·have e:dst L (.fl (.mt .kind)) d=([.fl .nm,.lv 8],opD 8 d):=by
        simp only [dst,hn,drow,Option.elim,a1,a2,Bool.false_eq_true,if_false]
        rfl
       refine Refd.step ?_ ?_
       ·rw [e]
        refine ref_tk (t:=t) ?_ ne_nm (by simp [Fl.takes,k1'])
        rw [opD_put hz]
        exact hn
       ·rw [e,opD_put hz]
        rfl
   ·by_cases h2:m=.statement
    ·subst h2
     by_cases k1:(t.k == 1)=true
     ·refine .inl (same_row hn hs ?_)
      simp [drow,M.row,k1]
     ·have k1':(t.k == 1)=false:=by simpa using k1
      by_cases k2:(t.k == 2)=true
      ·refine .inl (same_row hn hs ?_)
       simp [drow,M.row,k1',k2]
      ·have k2':(t.k == 2)=false:=by simpa using k2
       refine .inr ⟨?_,fun K _=>?_⟩
       ·intro k K n E R hR
        simp only [It.step,Fl.step,M.row,k1',Bool.false_eq_true,if_false] at hs
        rcases worded_form t.t with e|⟨nd,r',e⟩
        ·rw [e] at hs;cases hs
        ·rw [e] at hs
         cases hs
         exact ru_ref_no (step_wd (by simp [Fl.takes,k2'])) hR
       ·have e:dst L (.fl (.mt .statement)) d=([],tkD L false d):=by
         simp only [dst,hn,drow,k1',k2',Bool.false_eq_true,if_false]
        refine ⟨K,tkD L false d,?_,?_,.inl ?_⟩
        ·refine .step ?_
         rw [e]
         exact .refl
        ·simp [tkD,hz,(nxt_lt hn).2.2]
        ·simp [tkD,hz,(nxt_lt hn).2.2]
    ·exact .inl (same_row hn hs (drow_any h1 h2))
  |_=>
   simp only [It.step,Fl.step] at hs
   split at hs <;> cases hs
 |lv n=>
  cases hs
  exact .inl (by simp only [dst,clD_put (n:=n) hz])
 |all r=>cases hs;exact .inl (by rw [putE_nil];rfl)
 |once p=>
  rcases pick_same (t:=t) (p:=p) with e|⟨k,m,rfl,hm,hk,e⟩
  ·cases hs
   refine .inl ?_
   simp only [dst,hn,e,putE_nil]
  ·refine .inr ⟨?_,fun K hK=>?_⟩
   ·intro j K n E R hR
    simp only [It.step,Pk.pick,hm,Option.map_some,Option.toList] at hs
    cases hs
    exact ru_fn_no hm hk hR
   ·have hK':=nw_cons hK
    refine Refd.step ?_ rfl
    simp only [dst,hn,e]
    exact sgd_ref (bad_of hm hk) K d (hK'.2.2.2 k rfl) hn
 |again p=>
  rcases pick_same (t:=t) (p:=p) with e|⟨k,m,rfl,hm,hk,e⟩
  ·cases hs
   refine .inl ?_
   simp only [dst,hn,e,putE_nil]
  ·refine .inr ⟨?_,fun K hK=>?_⟩
   ·intro j K n E R hR
    simp only [It.step,Pk.pick,hm,Option.map_some,agR] at hs
    cases hs
    exact ru_fn_no hm hk hR
   ·have hK':=nw_cons hK
    refine Refd.step ?_ rfl
    simp only [dst,hn,e]
    exact sgd_ref (bad_of hm hk) K d (hK'.2.2.2 k rfl) hn
theorem sim {t:Tv}{L:List Tv}{k:Nat}{K:List It}{n:Int}{E:List Ev}{R:Ro}(h:Ru t k K n E R):∀(d:D),nxt L d=some t→nw K=true →
  (∀K2 m F,R=.yes K2 m F→nw K2=true∧∃x o,F=E++o∧(∀m,x≠Fl.mt m)∧x.takes t=true∧Rch L K d (.fl x :: K2) (putE d o))∧(R=.no→Refd L K d):=by
 induction h with
 |nil=>
  intro d hn _
  exact ⟨(fun K2 m F e=>by cases e),fun _=>⟨[],d,.refl,rfl,.inr ⟨rfl,(nxt_lt hn).1⟩⟩⟩
 |ref hs=>
  rename_i i K n E
  intro d hn hw
  refine ⟨(fun K2 m F e=>by cases e),fun _=>?_⟩
  cases i with
  |fl x=>
   by_cases hx:∃m,x=.mt m
   ·obtain ⟨m,rfl⟩:=hx
    have hz:=(nxt_lt hn).1
    have fin:drow (some t) m=.ref→Refd L (.fl (.mt m) :: K) d:=fun e=>by
     refine ⟨K,tkD L false d,?_,by simp [tkD,hz,(nxt_lt hn).2.2],.inl (by simp [tkD,hz,(nxt_lt hn).2.2])⟩
     refine .step ?_
     simp only [dst,hn,e]
     exact .refl
    by_cases h1:m=.kind
    ·subst h1
     simp only [It.step,Fl.step,M.row] at hs
     by_cases k1:(t.k == 1)=true
     ·rw [if_pos k1] at hs;cases hs
     rw [if_neg k1] at hs
     by_cases b1:t.is [97,114,114,97,121]=true
     ·rw [if_pos b1] at hs;cases hs
     rw [if_neg b1] at hs
     by_cases b2:t.is [114,101,99,111,114,100]=true
     ·rw [if_pos b2] at hs;cases hs
     have a1:wk 2 ⟨#[97,114,114,97,121]⟩ t=false:=by
      rw [wk_is,show (ByteArray.mk #[97,114,114,97,121]).toList=[97,114,114,97,121] by decide +kernel]
      have:(t.t.toList == [97,114,114,97,121])=false:=by simpa [Tv.is] using b1
      rw [this,Bool.and_false]
     have a2:wk 2 ⟨#[114,101,99,111,114,100]⟩ t=false:=by
      rw [wk_is,show (ByteArray.mk #[114,101,99,111,114,100]).toList=[114,101,99,111,114,100] by decide +kernel]
      have:(t.t.toList == [114,101,99,111,114,100])=false:=by simpa [Tv.is] using b2
      rw [this,Bool.and_false]
     have e:dst L (.fl (.mt .kind)) d=([.fl .nm,.lv 8],opD 8 d):=by
      simp only [dst,hn,drow,Option.elim,a1,a2,Bool.false_eq_true,if_false]
      rfl
     refine Refd.step ?_ ?_
     ·rw [e]
      refine ref_tk (t:=t) ?_ ne_nm (by simpa [Fl.takes] using k1)
      rw [opD_put hz]
      exact hn
     ·rw [e,opD_put hz]
      rfl
    ·by_cases h2:m=.statement
     ·subst h2
      refine fin ?_
      simp only [It.step,Fl.step,M.row] at hs
      by_cases k1:(t.k == 1)=true
      ·rw [if_pos k1] at hs;cases hs
      rw [if_neg k1] at hs
      simp only [drow,if_neg k1]
      split
      ·rcases worded_form t.t with e|⟨nd,r',e⟩
       ·exact e
       ·rw [e] at hs;cases hs
      ·rfl
     ·refine fin ?_
      rw [drow_any h1 h2]
      simp only [It.step,Fl.step] at hs
      cases hr:M.row t m with
      |ref=>rfl
      |ex r=>rw [hr] at hs;cases hs
      |op nd r=>rw [hr] at hs;cases hs
   ·refine ref_tk hn (fun m e=>hx ⟨m,e⟩) ?_
    cases x with
    |mt m=>exact absurd ⟨m,rfl⟩ hx
    |_=>
     simp only [It.step,Fl.step] at hs
     split at hs
     ·cases hs
     ·rename_i h;simpa using h
  |_=>cases hs
 |tk hs=>
  rename_i i K n E
  intro d hn hw
  refine ⟨fun K2 m F e=>?_,(fun e=>by cases e)⟩
  cases e
  refine ⟨(nw_cons hw).1,?_⟩
  cases i with
  |fl x=>
   have hx:∀m,x≠.mt m:=by
    intro m e
    subst e
    simp only [It.step,Fl.step] at hs
    cases hr:M.row t m <;> rw [hr] at hs <;> cases hs
   refine ⟨x,[],by simp,hx,?_,by rw [putE_nil];exact .refl⟩
   cases x with
   |mt m=>exact absurd rfl (hx m)
   |_=>
    simp only [It.step,Fl.step] at hs
    split at hs
    ·rename_i h;exact h
    ·cases hs
  |_=>cases hs
 |go hs hr ih=>
  rename_i k i K n dn E o r R
  intro d hn hw
  rcases step_sim hn hs with e|⟨e1,e2⟩
  ·have hw':=dst_nw (L:=L) (d:=d) hw
   have hn':nxt L (putE d o)=some t:=hn
   rw [e] at hw'
   obtain ⟨h1,h2⟩:=ih (putE d o) hn' hw'
   refine ⟨fun K2 m F eR=>?_,fun eR=>?_⟩
   ·obtain ⟨a,x,o2,b,c,f,g⟩:=h1 K2 m F eR
    refine ⟨a,x,o++o2,by rw [b,List.append_assoc],c,f,.step ?_⟩
    rw [e,←putE_app]
    exact g
   ·refine Refd.step ?_ (by rw [e];rfl)
    rw [e]
    exact h2 eR
  ·have:=e1 _ _ _ _ _ hr
   subst this
   exact ⟨(fun K2 m F e=>by cases e),fun _=>e2 K hw⟩
inductive Pst|live (K:List It) (n:Int)|stuck (e n:Int)|shut
def beg (K:List It) (n:Int):List It:=if n == 0 then progR++.lv 1 :: K else K
def begN (n:Int):Int:=if n == 0 then 1 else n
def begE (n:Int):List Ev:=if n == 0 then [⟨1,1,tv0⟩] else []
inductive Putr (t:Tv):Pst→List Ev→Int→Pst→Prop
 |shut:Putr t .shut [] 4 .shut
 |stuck {e n:Int}:Putr t (.stuck e n) [] e (.stuck e n)
 |note {K:List It} {n:Int}:(t.k == 7 || t.k == 8)=true→Putr t (.live K n) (begE n++[⟨4,0,t⟩]) 0 (.live (beg K n) (begN n))
 |no {K:List It} {n:Int} {k:Nat}:(t.k == 7 || t.k == 8)=false→Ru t k (beg K n) (begN n) (begE n) .no→k≤(beg K n).length+20→Putr t (.live K n) [] 120 (.stuck 120 n)
 |deep {K L:List It} {n m:Int} {E:List Ev} {k:Nat}:(t.k == 7 || t.k == 8)=false→Ru t k (beg K n) (begN n) (begE n) (.yes L m E)→k≤(beg K n).length+20→1000<m→Putr t (.live K n) [] 122 (.stuck 122 n)
 |yes {K L:List It} {n m:Int} {E:List Ev} {k:Nat}:(t.k == 7 || t.k == 8)=false→Ru t k (beg K n) (begN n) (begE n) (.yes L m E)→k≤(beg K n).length+20→m≤1000→Putr t (.live K n) (E++[⟨2,0,t⟩]) 0 (.live L m)
structure Lz (K:List It) (n:Int):Prop where
 wf:wfs K
 lv:((lvs K).length:Int)=n
 sn:(lvs K).length≤5000000
 sk:K.length≤500000
def Pst.ok:Pst→Prop
 |.live K n=>Lz K n
 |.stuck e n=>e≠0
 |.shut=>True
inductive Clor:Pst→List Ev→Int→Prop
 |shut:Clor .shut [] 4
 |stuck {e n:Int}:Clor (.stuck e n) [] e
 |all {K:List It} {n:Int}:K.length=1→Clor (.live K n) [⟨3,1,tv0⟩] 0
 |open {K:List It} {n:Int}:K.length≠1→Clor (.live K n) [] 121
def Fl.ht:Fl→Nat
 |.mt .typed=>5
 |.mt .list=>3
 |_=>1
def rh:List Fl→Nat
 |[]=>0
 |x :: r=>max (x.ht+r.length) (rh r)
def Pk.ht:Pk→Nat
 |.row r=>rh r
 |.fn _=>1
 |.ex m=>(Fl.mt m).ht
def It.ht:It→Nat
 |.fl x=>x.ht
 |.lv _=>0
 |.once p=>max 1 p.ht
 |.again p=>1+max 1 p.ht
 |.all r=>max 1 (rh r)
def cnt:List It→Nat
 |[]=>0
 |.lv _ :: _=>0
 |_ :: K=>1+cnt K
def fb:List It→Prop
 |[]=>True
 |.lv _ :: K=>fb K
 |i :: K=>i.ht+cnt K≤15∧fb K
theorem Fl.ht_pos (x:Fl):1≤x.ht:=by
 cases x with
 |mt m=>cases m <;> decide
 |_=>exact Nat.le_refl _
theorem It.ht_pos (i:It) (h:∀n,i≠.lv n):1≤i.ht:=by
 cases i with
 |fl x=>exact x.ht_pos
 |lv n=>exact absurd rfl (h n)
 |once p=>simp only [It.ht];omega
 |again p=>simp only [It.ht];omega
 |all r=>simp only [It.ht];omega
theorem cnt_cons {i:It}(h:∀n,i≠.lv n) (K:List It):cnt (i :: K)=1+cnt K:=by
 cases i with
 |lv n=>exact absurd rfl (h n)
 |_=>rfl
theorem fb_cons {i:It}(h:∀n,i≠.lv n) (K:List It):fb (i :: K)↔i.ht+cnt K≤15∧fb K:=by
 cases i with
 |lv n=>exact absurd rfl (h n)
 |_=>exact Iff.rfl
theorem fb_cnt:∀{K:List It},fb K→cnt K≤15
 |[],_=>Nat.zero_le _
 |i :: K,h=>by
  by_cases hl:∃n,i=.lv n
  ·obtain ⟨n,rfl⟩:=hl;exact Nat.zero_le _
  ·have hn:∀n,i≠.lv n:=fun n e=>hl ⟨n,e⟩
   have h1:=((fb_cons hn K).1 h).1
   have:=i.ht_pos hn
   rw [cnt_cons hn]
   omega
theorem fb_len:∀{K:List It},fb K→K.length≤16*(lvs K).length+cnt K
 |[],_=>Nat.zero_le _
 |i :: K,h=>by
  by_cases hl:∃n,i=.lv n
  ·obtain ⟨n,rfl⟩:=hl
   have h':fb K:=h
   have:=fb_len h'
   have:=fb_cnt h'
   simp [lvs,cnt]
   omega
  ·have hn:∀n,i≠.lv n:=fun n e=>hl ⟨n,e⟩
   have:=fb_len ((fb_cons hn K).1 h).2
   have e:lvs (i :: K)=lvs K:=by
    cases i with
    |lv n=>exact absurd rfl (hn n)
    |_=>rfl
   rw [cnt_cons hn,e]
   simp
   omega
theorem fb_row (r:List Fl) (K:List It) (h:rh r+cnt K≤15) (hK:fb K):fb (r.map It.fl++K)∧cnt (r.map It.fl++K)=r.length+cnt K:=by
 induction r with
 |nil=>exact ⟨hK,by simp⟩
 |cons x r ih=>
  simp only [rh] at h
  obtain ⟨h1,h2⟩:=ih (by omega)
  refine ⟨(fb_cons (fun n e=>by cases e) _).2 ⟨?_,h1⟩,?_⟩
  ·show x.ht+cnt (r.map It.fl++K)≤15
   rw [h2];omega
  ·show cnt (.fl x :: (r.map It.fl++K))=_
   rw [cnt_cons (fun n e=>by cases e),h2,List.length_cons];omega
theorem pick_ht {t:Tv}{p:Pk}{i:It}(h:Pk.pick t p=some i):i.ht≤max 1 p.ht∧∀n,i≠.lv n:=by
 cases p with
 |fn d=>
  simp only [Pk.pick,Option.map_eq_some_iff] at h
  obtain ⟨m,hm,rfl⟩:=h
  have:=dk_pick hm
  refine ⟨?_,fun n e=>by cases e⟩
  rcases this with rfl|rfl|rfl|rfl|rfl|rfl|rfl <;> exact Nat.le_refl 1
 |row r=>
  simp only [Pk.pick] at h
  split at h
  ·cases h;exact ⟨Nat.le_refl _,fun n e=>by cases e⟩
  ·cases h
 |ex m=>
  simp only [Pk.pick] at h
  split at h
  ·cases h
  ·cases h;exact ⟨by show (Fl.mt m).ht≤max 1 (Fl.mt m).ht;omega,fun n e=>by cases e⟩
def Gw.fb (m:M):Gw→Prop
 |.ref=>True
 |.ex r=>∀K,(Fl.mt m).ht+cnt K≤15→Go.Proofs.YtkigadnkclkopaaGreatDoor.fb K→Go.Proofs.YtkigadnkclkopaaGreatDoor.fb (r++K)
 |.op nd r=>∀K,Go.Proofs.YtkigadnkclkopaaGreatDoor.fb K→Go.Proofs.YtkigadnkclkopaaGreatDoor.fb (r++.lv nd :: K)
theorem row_fb (t:Tv) (m:M):(M.row t m).fb m:=by
 cases m <;> simp only [M.row,wordedR] <;> (repeat' split) <;> simp [Gw.fb,fb,cnt,It.ht,Fl.ht,Pk.ht,rh]
 all_goals (intro K h1 h2;simp only [h2,and_true];omega)
theorem step_fb {t:Tv}{i:It}{d:Int}{o:List Ev}{r K:List It}(h:It.step t i=.go d o r) (hf:fb (i :: K)):fb (r++K):=by
 cases i with
 |fl x=>
  obtain ⟨h1,h2⟩:=(fb_cons (fun n e=>by cases e) K).1 hf
  have hm:∃m,x=.mt m:=by
   cases x with
   |mt m=>exact ⟨m,rfl⟩
   |_=>simp only [It.step,Fl.step] at h;split at h <;> cases h
  obtain ⟨m,rfl⟩:=hm
  have hr:=row_fb t m
  simp only [It.step,Fl.step] at h
  cases hrow:M.row t m with
  |ref=>rw [hrow] at h;cases h
  |ex r'=>rw [hrow] at h hr;cases h;exact hr K h1 h2
  |op nd r'=>rw [hrow] at h hr;cases h;rw [List.append_assoc];exact hr K h2
 |lv n=>cases h;exact hf
 |once p=>
  obtain ⟨h1,h2⟩:=(fb_cons (fun n e=>by cases e) K).1 hf
  simp only [It.step] at h
  cases hp:Pk.pick t p with
  |none=>rw [hp] at h;cases h;exact h2
  |some j=>
   rw [hp] at h
   cases h
   obtain ⟨a,b⟩:=pick_ht hp
   exact (fb_cons b K).2 ⟨by simp only [It.ht] at h1;omega,h2⟩
 |again p=>
  have hn:∀n,It.again p≠.lv n:=fun n e=>by cases e
  obtain ⟨h1,h2⟩:=(fb_cons hn K).1 hf
  simp only [It.step] at h
  cases hp:Pk.pick t p with
  |none=>rw [hp] at h;cases h;exact h2
  |some j=>
   rw [hp] at h
   cases h
   obtain ⟨a,b⟩:=pick_ht hp
   refine (fb_cons b _).2 ⟨?_,hf⟩
   show j.ht+cnt (.again p :: K)≤15
   rw [cnt_cons hn]
   simp only [It.ht] at h1
   omega
 |all r'=>
  obtain ⟨h1,h2⟩:=(fb_cons (fun n e=>by cases e) K).1 hf
  cases h
  exact (fb_row r' K (by simp only [It.ht] at h1;omega) h2).1
def play:List Int→List Ev→Option (List Int)
 |s,[]=>some s
 |s,e :: r=>if e.k=1 then play (e.n :: s) r else if e.k=3 then (match s with|n :: s'=>if n=e.n then play s' r else none|[]=>none) else play s r
theorem play_app:∀(a b:List Ev) (s s':List Int),play s a=some s'→play s (a++b)=play s' b
 |[],b,s,s',h=>by cases h;rfl
 |e :: r,b,s,s',h=>by
  simp only [play,List.cons_append] at h ⊢
  split
  ·rename_i h1;rw [if_pos h1] at h;exact play_app r b _ _ h
  ·rename_i h1
   rw [if_neg h1] at h
   split
   ·rename_i h2
    rw [if_pos h2] at h
    cases s with
    |nil=>cases h
    |cons n s=>
     simp only at h ⊢
     split
     ·rename_i h3;rw [if_pos h3] at h;exact play_app r b _ _ h
     ·rename_i h3;rw [if_neg h3] at h;cases h
   ·rename_i h2;rw [if_neg h2] at h;exact play_app r b _ _ h
theorem step_play {t:Tv}{i:It}{d:Int}{o:List Ev}{r K:List It}(h:It.step t i=.go d o r) (hi:i.wf):play (lvs (i :: K)) o=some (lvs (r++K)):=by
 have hk:=step_ok (K:=K) h hi
 cases i with
 |fl x=>
  have hm:∃m,x=.mt m:=by
   cases x with
   |mt m=>exact ⟨m,rfl⟩
   |_=>simp only [It.step,Fl.step] at h;split at h <;> cases h
  obtain ⟨m,rfl⟩:=hm
  have hr:=row_ok t m
  simp only [It.step,Fl.step] at h
  cases hrow:M.row t m with
  |ref=>rw [hrow] at h;cases h
  |ex r'=>rw [hrow] at h hr;cases h;rw [lvs_app,hr.2.2];rfl
  |op nd r'=>rw [hrow] at h hr;cases h;rw [lvs_app,lvs_app,hr.2.2.1];rfl
 |lv n=>cases h;simp [play,lvs]
 |once p=>
  simp only [It.step] at h
  cases hp:Pk.pick t p with
  |none=>rw [hp] at h;cases h;rfl
  |some j=>rw [hp] at h;cases h;show some (lvs K)=some (lvs ([j]++K));rw [lvs_app,(pick_wf hi hp).2];rfl
 |again p=>
  simp only [It.step] at h
  cases hp:Pk.pick t p with
  |none=>rw [hp] at h;cases h;rfl
  |some j=>rw [hp] at h;cases h;show some (lvs K)=some (lvs ([j]++([.again p]++K)));rw [lvs_app,(pick_wf hi hp).2];rfl
 |all r'=>cases h;rw [lvs_app,lvs_fl];rfl
structure Ok (K:List It) (n:Int):Prop where
 wf:wfs K
 fb:fb K
 lv:((lvs K).length:Int)=n
 le:n≤1000
theorem Ok.lz {K:List It}{n:Int}(h:Ok K n):Lz K n:=by
 have h1:=h.lv
 have h2:=h.le
 have h3:=fb_len h.fb
 have h4:=fb_cnt h.fb
 exact ⟨h.wf,h.lv,by omega,by omega⟩
theorem ru_keep {t:Tv}{k:Nat}{K:List It}{n:Int}{E:List Ev}{R:Ro}(h:Ru t k K n E R):∀{L:List It}{m:Int}{F:List Ev},R=.yes L m F→wfs K→fb K→((lvs K).length:Int)=n →
  wfs L∧fb L∧((lvs L).length:Int)=m∧∃o,F=E++o∧play (lvs K) o=some (lvs L)∧(∀e∈o,e.d=tv0∧(e.k=1∨e.k=3)∧(e.k=1→e.n≠1))∧o.length≤k:=by
 induction h with
 |nil=>intro L m F h;cases h
 |ref _=>intro L m F h;cases h
 |tk hs=>
  rename_i i K n E
  intro L m F h hw hf hn
  cases h
  have hl:∀a,i≠.lv a:=fun a e=>by subst e;cases hs
  have e:lvs (i :: K)=lvs K:=by
   cases i with
   |lv a=>exact absurd rfl (hl a)
   |_=>rfl
  rw [e] at hn
  exact ⟨fun j hj=>hw j (List.mem_cons_of_mem _ hj),((fb_cons hl K).1 hf).2,hn,[],by simp,by rw [e];rfl,fun x hx=>by simp at hx,Nat.zero_le _⟩
 |go hs _ ih=>
  rename_i k i K n d E o r R _
  intro L m F h hw hf hn
  have hi:=hw i (List.mem_cons_self ..)
  obtain ⟨a1,a2,a3,a4⟩:=step_ok (K:=K) hs hi
  obtain ⟨b1,b2,b3,o2,b4,b5,b6,b7⟩:=ih h (wfs_app a1 (fun j hj=>hw j (List.mem_cons_of_mem _ hj))) (step_fb hs hf) (by omega)
  refine ⟨b1,b2,b3,o++o2,by rw [b4,List.append_assoc],(play_app o o2 _ _ (step_play hs hi)).trans b5,?_,by simp;omega⟩
  intro x hx
  rcases List.mem_append.1 hx with hx|hx
  ·cases i with
   |fl y=>
    have hm:∃m,y=.mt m:=by
     cases y with
     |mt m=>exact ⟨m,rfl⟩
     |_=>simp only [It.step,Fl.step] at hs;split at hs <;> cases hs
    obtain ⟨mm,rfl⟩:=hm
    have hr:=row_ok t mm
    simp only [It.step,Fl.step] at hs
    cases hrow:M.row t mm with
    |ref=>rw [hrow] at hs;cases hs
    |ex r'=>rw [hrow] at hs;cases hs;simp at hx
    |op nd r'=>rw [hrow] at hs hr;cases hs;simp at hx;subst hx;exact ⟨rfl,.inl rfl,fun _=>by have:=hr.2.2.2.1;show nd≠1;omega⟩
   |lv a=>cases hs;simp at hx;subst hx;exact ⟨rfl,.inr rfl,fun e=>by cases e⟩
   |once p=>cases hs;simp at hx
   |again p=>cases hs;simp at hx
   |all r'=>cases hs;simp at hx
  ·exact b6 x hx
theorem ok_beg {K:List It}{n:Int}(h:Ok K n) (h0:n=0→K=[]):wfs (beg K n)∧fb (beg K n)∧((lvs (beg K n)).length:Int)=begN n∧play (lvs K) (begE n)=some (lvs (beg K n))∧(beg K n).length≤20000:=by
 have hz:=h.lz
 have h3:=fb_len h.fb
 have h4:=fb_cnt h.fb
 have h1:=h.lv
 have h2:=h.le
 by_cases hn:n=0
 ·obtain rfl:=h0 hn
  subst hn
  refine ⟨?_,?_,rfl,rfl,by simp [beg,progR]⟩
  ·intro i hi
   simp [beg,progR] at hi
   rcases hi with rfl|rfl|rfl|rfl|rfl|rfl <;> trivial
  ·simp [beg,progR,fb,It.ht,Fl.ht,cnt]
 ·have hb:(n == 0)=false:=by simpa using hn
  simp only [beg,begN,begE,hb,Bool.false_eq_true,if_false]
  exact ⟨h.wf,h.fb,h.lv,rfl,by omega⟩
def Bot (K:List It):Prop:=∃X,K=X++[.lv 1]
theorem ru_bot {t:Tv}{k:Nat}{K:List It}{n:Int}{E:List Ev}{R:Ro}(h:Ru t k K n E R):∀{L:List It}{m:Int}{F:List Ev},R=.yes L m F→Bot K→Bot L:=by
 induction h with
 |nil=>intro L m F h;cases h
 |ref _=>intro L m F h;cases h
 |tk hs=>
  rename_i i K n E
  intro L m F h hb
  cases h
  obtain ⟨X,hX⟩:=hb
  cases X with
  |nil=>simp at hX;obtain ⟨rfl,rfl⟩:=hX;cases hs
  |cons j X=>simp at hX;exact ⟨X,hX.2⟩
 |go hs hr ih=>
  rename_i k i K n d E o r R
  intro L m F h hb
  obtain ⟨X,hX⟩:=hb
  cases X with
  |nil=>
   simp at hX
   obtain ⟨rfl,rfl⟩:=hX
   cases hs
   cases hr
   cases h
  |cons j X=>
   simp at hX
   obtain ⟨rfl,rfl⟩:=hX
   exact ih h ⟨r++X,by simp⟩
theorem bot_lv {K:List It}(h:Bot K):1≤(lvs K).length:=by
 obtain ⟨X,rfl⟩:=h
 rw [lvs_app]
 simp [lvs]
def Good:Pst→Prop
 |.live K n=>Ok K n∧((n=0∧K=[])∨Bot K)
 |.stuck e n=>e=120∨e=122
 |.shut=>True
theorem Good.ok {st:Pst}(h:Good st):st.ok:=by
 cases st with
 |live K n=>exact h.1.lz
 |stuck e n=>
  show e≠0
  rcases h with rfl|rfl <;> decide
 |shut=>trivial
theorem good_new:Good (.live [] 0):=⟨⟨wfs_nil,trivial,rfl,by decide⟩,.inl ⟨rfl,rfl⟩⟩
def Pst.path:Pst→List Int
 |.live K _=>lvs K
 |_=>[]
theorem good_beg {K:List It}{n:Int}(h:Good (.live K n)):wfs (beg K n)∧fb (beg K n)∧((lvs (beg K n)).length:Int)=begN n∧play (lvs K) (begE n)=some (lvs (beg K n))∧(beg K n).length≤20000∧Bot (beg K n)∧begN n≤1000∧(begE n).length≤1:=by
 have hn0:n=0→K=[]:=by
  intro e
  rcases h.2 with h2|h2
  ·exact h2.2
  ·have:=bot_lv h2;have:=h.1.lv;omega
 obtain ⟨b1,b2,b3,b4,b5⟩:=ok_beg h.1 hn0
 have hle:=h.1.le
 refine ⟨b1,b2,b3,b4,b5,?_,by unfold begN;split <;> omega,by unfold begE;split <;> simp⟩
 by_cases e:n=0
 ·obtain rfl:=hn0 e
  subst e
  exact ⟨progR,by simp [beg]⟩
 ·rcases h.2 with h2|h2
  ·exact absurd h2.1 e
  ·have hb:(n == 0)=false:=by simpa using e
   simp only [beg,hb,Bool.false_eq_true,if_false]
   exact h2
theorem put_keep {st st':Pst}{t:Tv}{ev:List Ev}{code:Int}(h:Good st) (hp:Putr t st ev code st'):Good st'∧ev.length≤30000∧(code=0→∃K n,st'=.live K n∧Bot K)∧(code=0→play st.path ev=some st'.path):=by
 cases hp with
 |shut=>exact ⟨trivial,by simp,fun h=>(by cases h),fun h=>(by cases h)⟩
 |stuck=>exact ⟨h,by simp,fun h0=>(by subst h0;rcases h with h|h <;> cases h),fun h0=>(by subst h0;rcases h with h|h <;> cases h)⟩
 |note hc=>
  obtain ⟨b1,b2,b3,b4,b5,hbot,hbn,hbe⟩:=good_beg h
  refine ⟨⟨⟨b1,b2,b3,hbn⟩,.inr hbot⟩,by simp;omega,fun _=>⟨_,_,rfl,hbot⟩,fun _=>?_⟩
  refine (play_app _ _ _ _ b4).trans ?_
  simp [play]
  rfl
 |no hc hR hk=>exact ⟨.inl rfl,by simp,fun h=>(by cases h),fun h=>(by cases h)⟩
 |deep hc hR hk hm=>exact ⟨.inr rfl,by simp,fun h=>(by cases h),fun h=>(by cases h)⟩
 |yes hc hR hk hm=>
  obtain ⟨b1,b2,b3,b4,b5,hbot,hbn,hbe⟩:=good_beg h
  obtain ⟨c1,c2,c3,o,c4,c5,c6,c7⟩:=ru_keep hR rfl b1 b2 b3
  have hL:=ru_bot hR rfl hbot
  refine ⟨⟨⟨c1,c2,c3,by omega⟩,.inr hL⟩,by rw [c4];simp;omega,fun _=>⟨_,_,rfl,hL⟩,fun _=>?_⟩
  rw [c4,List.append_assoc]
  refine (play_app _ _ _ _ b4).trans ((play_app _ _ _ _ c5).trans ?_)
  simp [play]
  rfl
theorem put_ex {st:Pst}(h:Good st) (t:Tv):∃ev code st',Putr t st ev code st':=by
 cases st with
 |shut=>exact ⟨_,_,_,.shut⟩
 |stuck e n=>exact ⟨_,_,_,.stuck⟩
 |live K n=>
  obtain ⟨b1,b2,b3,b4,b5,hbot,hbn,hbe⟩:=good_beg h
  by_cases hc:(t.k == 7 || t.k == 8)=true
  ·exact ⟨_,_,_,.note hc⟩
  ·have hc':(t.k == 7 || t.k == 8)=false:=by simpa using hc
   obtain ⟨k,R,hk,hR⟩:=ru_ex t (beg K n) b1 (begN n) (begE n)
   cases R with
   |no=>exact ⟨_,_,_,.no hc' hR hk⟩
   |yes L m F=>
    by_cases hm:1000<m
    ·exact ⟨_,_,_,.deep hc' hR hk hm⟩
    ·exact ⟨_,_,_,.yes hc' hR hk (by omega)⟩
theorem close_ex (st:Pst):∃ev code,Clor st ev code∧ev.length≤1:=by
 cases st with
 |live K n=>
  by_cases h:K.length=1
  ·exact ⟨_,_,.all h,by simp⟩
  ·exact ⟨_,_,.open h,by simp⟩
 |stuck e n=>exact ⟨_,_,.stuck,by simp⟩
 |shut=>exact ⟨_,_,.shut,by simp⟩
inductive Alr:Pst→List Tv→List Ev→Int→Nat→Prop
 |nil {st:Pst} {ev:List Ev} {code:Int}:Clor st ev code→Alr st [] ev code 0
 |err {st st':Pst} {t:Tv} {l:List Tv} {ev:List Ev} {code:Int}:Putr t st ev code st'→code≠0→Alr st (t :: l) [] code 0
 |on {st st':Pst} {t:Tv} {l:List Tv} {ev E:List Ev} {code:Int} {k:Nat}:Putr t st ev 0 st'→Alr st' l E code k→Alr st (t :: l) (ev++E) code (k+1)
theorem alr_ex:∀(l:List Tv) (st:Pst),Good st→∃E code k,Alr st l E code k
 |[],st,h=>by
  obtain ⟨ev,code,h1,_⟩:=close_ex st
  exact ⟨_,_,_,.nil h1⟩
 |t :: l,st,h=>by
  obtain ⟨ev,code,st',h1⟩:=put_ex h t
  have h2:=(put_keep h h1).1
  by_cases hc:code=0
  ·subst hc
   obtain ⟨E,c,k,h3⟩:=alr_ex l st' h2
   exact ⟨_,_,_,.on h1 h3⟩
  ·exact ⟨_,_,_,.err h1 hc⟩
theorem Alr.inv {st:Pst}{t:Tv}{l:List Tv}{E:List Ev}{code:Int}{k:Nat}(h:Alr st (t :: l) E code k):(∃ev st',Putr t st ev code st'∧code≠0∧E=[]∧k=0)∨(∃ev st' E2 k2,Putr t st ev 0 st'∧Alr st' l E2 code k2∧E=ev++E2∧k=k2+1):=by
 cases h with
 |err h1 h2=>exact .inl ⟨_,_,h1,h2,rfl,rfl⟩
 |on h1 h2=>exact .inr ⟨_,_,_,_,h1,h2,rfl,rfl⟩
theorem Alr.end {st:Pst}{E:List Ev}{code:Int}{k:Nat}(h:Alr st [] E code k):Clor st E code∧k=0:=by
 cases h with
 |nil h1=>exact ⟨h1,rfl⟩
inductive Cmt (t:Tv):List It→Prop
 |fl {x:Fl} {K:List It}:Cmt t (.fl x :: K)
 |all {r:List Fl} {K:List It}:rwf r→Cmt t (.all r :: K)
 |onceS {p:Pk} {i:It} {K:List It}:Pk.pick t p=some i→Cmt t (.once p :: K)
 |againS {p:Pk} {i:It} {K:List It}:Pk.pick t p=some i→Cmt t (.again p :: K)
 |onceN {p:Pk} {K:List It}:Pk.pick t p=none→Cmt t K→Cmt t (.once p :: K)
 |againN {p:Pk} {K:List It}:Pk.pick t p=none→Cmt t K→Cmt t (.again p :: K)
def Gw.cm (t:Tv):Gw→Prop
 |.ref=>True
 |.ex r=>∀K,Cmt t (r++K)
 |.op nd r=>∀K,Cmt t (r++K)
theorem cmt_decl (t:Tv) (p:Pk) (x:Fl) (K:List It):Cmt t (.again p :: .fl x :: K):=by
 cases h:Pk.pick t p with
 |none=>exact .againN h .fl
 |some i=>exact .againS h
theorem row_cm (t:Tv) (m:M):(M.row t m).cm t:=by
 cases m <;> simp only [M.row,wordedR] <;> (repeat' split)
 all_goals first
  |trivial
  | (intro K;exact .fl)
  | (intro K;exact cmt_decl t _ _ _)
theorem pick_cmt {t:Tv}{p:Pk}(hp:p.wf) {i:It}(h:Pk.pick t p=some i) (K:List It):Cmt t (i :: K):=by
 cases p with
 |fn d=>
  simp only [Pk.pick,Option.map_eq_some_iff] at h
  obtain ⟨m,_,rfl⟩:=h
  exact .fl
 |row r=>
  simp only [Pk.pick] at h
  split at h
  ·cases h;exact .all hp
  ·cases h
 |ex m=>
  simp only [Pk.pick] at h
  split at h
  ·cases h
  ·cases h;exact .fl
theorem step_cmt {t:Tv}{i:It}{d:Int}{o:List Ev}{r K:List It}(h:It.step t i=.go d o r) (hi:i.wf) (hc:Cmt t (i :: K)):Cmt t (r++K)∧(∀e∈o,e.k=1)∧0≤d:=by
 cases i with
 |fl x=>
  have hm:∃m,x=.mt m:=by
   cases x with
   |mt m=>exact ⟨m,rfl⟩
   |_=>simp only [It.step,Fl.step] at h;split at h <;> cases h
  obtain ⟨m,rfl⟩:=hm
  have hr:=row_cm t m
  simp only [It.step,Fl.step] at h
  cases hrow:M.row t m with
  |ref=>rw [hrow] at h;cases h
  |ex r'=>rw [hrow] at h hr;cases h;exact ⟨hr K,fun e he=>by simp at he,by omega⟩
  |op nd r'=>rw [hrow] at h hr;cases h;rw [List.append_assoc];exact ⟨hr _,fun e he=>by simp at he;subst he;rfl,by omega⟩
 |lv n=>cases hc
 |once p=>
  simp only [It.step] at h
  cases hp:Pk.pick t p with
  |none=>
   rw [hp] at h
   cases h
   cases hc with
   |onceS h2=>rw [hp] at h2;cases h2
   |onceN _ h2=>exact ⟨h2,fun e he=>by simp at he,by omega⟩
  |some j=>rw [hp] at h;cases h;exact ⟨pick_cmt hi hp K,fun e he=>by simp at he,by omega⟩
 |again p=>
  simp only [It.step] at h
  cases hp:Pk.pick t p with
  |none=>
   rw [hp] at h
   cases h
   cases hc with
   |againS h2=>rw [hp] at h2;cases h2
   |againN _ h2=>exact ⟨h2,fun e he=>by simp at he,by omega⟩
  |some j=>rw [hp] at h;cases h;exact ⟨pick_cmt hi hp _,fun e he=>by simp at he,by omega⟩
 |all r'=>
  cases h
  obtain ⟨⟨k,ts,rest,rfl⟩,_⟩:=hi
  exact ⟨.fl,fun e he=>by simp at he,by omega⟩
theorem ru_opens {t:Tv}{k:Nat}{K:List It}{n:Int}{E:List Ev}{R:Ro}(h:Ru t k K n E R):∀{L:List It}{m:Int}{F:List Ev},R=.yes L m F→wfs K→Cmt t K→∃o,F=E++o∧(∀e∈o,e.k=1):=by
 induction h with
 |nil=>intro L m F h;cases h
 |ref _=>intro L m F h;cases h
 |tk hs=>intro L m F h _ _;cases h;exact ⟨[],by simp,fun e he=>by simp at he⟩
 |go hs _ ih=>
  rename_i k i K n d E o r R _
  intro L m F h hw hc
  have hi:=hw i (List.mem_cons_self ..)
  obtain ⟨a1,a2,a3⟩:=step_cmt hs hi hc
  obtain ⟨o2,b1,b2⟩:=ih h (wfs_app (step_ok (K:=K) hs hi).1 (fun j hj=>hw j (List.mem_cons_of_mem _ hj))) a1
  exact ⟨o++o2,by rw [b1,List.append_assoc],fun e he=>(List.mem_append.1 he).elim (a2 e) (b2 e)⟩
theorem ru_phase {t:Tv}{k:Nat}{K:List It}{n:Int}{E:List Ev}{R:Ro}(h:Ru t k K n E R):∀{L:List It}{m:Int}{F:List Ev},R=.yes L m F→wfs K→∃c o,F=E++(c++o)∧(∀e∈c,e.k=3)∧(∀e∈o,e.k=1):=by
 induction h with
 |nil=>intro L m F h;cases h
 |ref _=>intro L m F h;cases h
 |tk hs=>intro L m F h _;cases h;exact ⟨[],[],by simp,fun e he=>by simp at he,fun e he=>by simp at he⟩
 |go hs hr ih=>
  rename_i k i K n d E o r R
  intro L m F h hw
  have hi:=hw i (List.mem_cons_self ..)
  have hw2:=wfs_app (step_ok (K:=K) hs hi).1 (fun j hj=>hw j (List.mem_cons_of_mem _ hj))
  by_cases hl:∃a,i=.lv a
  ·obtain ⟨a,rfl⟩:=hl
   cases hs
   obtain ⟨c,o2,b1,b2,b3⟩:=ih h hw2
   exact ⟨⟨3,a,tv0⟩ :: c,o2,by rw [b1];simp,fun e he=>(List.mem_cons.1 he).elim (fun e1=>by rw [e1]) (b2 e),b3⟩
  ·
   by_cases hc:Cmt t (i :: K)
   ·obtain ⟨a1,a2,a3⟩:=step_cmt hs hi hc
    obtain ⟨o2,b1,b2⟩:=ru_opens hr h hw2 a1
    exact ⟨[],o++o2,by rw [b1];simp,fun e he=>by simp at he,fun e he=>(List.mem_append.1 he).elim (a2 e) (b2 e)⟩
   ·have ho:o=[]:=by
     cases i with
     |fl x=>exact absurd .fl hc
     |lv a=>exact absurd ⟨a,rfl⟩ hl
     |once p=>cases hs;rfl
     |again p=>cases hs;rfl
     |all r'=>cases hs;rfl
    subst ho
    obtain ⟨c,o2,b1,b2,b3⟩:=ih h hw2
    exact ⟨c,o2,by rw [b1];simp,b2,b3⟩
def cmm (t:Tv):Bool:=t.k == 7 || t.k == 8
theorem ru_pre {t:Tv}{k:Nat}{K:List It}{n:Int}{E:List Ev}{R:Ro}(h:Ru t k K n E R) :
  (R=.no→∀E',Ru t k K n E' .no)∧(∀L m F,R=.yes L m F→∃o,F=E++o∧∀E',Ru t k K n E' (.yes L m (E'++o))):=by
 induction h with
 |nil=>exact ⟨fun _ E'=>.nil,fun L m F e=>by cases e⟩
 |ref hs=>exact ⟨fun _ E'=>.ref hs,fun L m F e=>by cases e⟩
 |tk hs=>
  refine ⟨(fun e=>by cases e),fun L m F e=>?_⟩
  cases e
  exact ⟨[],by simp,fun E'=>by simpa using Ru.tk hs⟩
 |go hs hr ih=>
  refine ⟨fun e E'=>.go hs (ih.1 e _),fun L m F e=>?_⟩
  obtain ⟨o2,rfl,h2⟩:=ih.2 L m F e
  refine ⟨_,(List.append_assoc ..),fun E'=>.go hs ?_⟩
  rw [←List.append_assoc]
  exact h2 _
end Go.Proofs.YtkigadnkclkopaaGreatDoor
