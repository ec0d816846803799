import Derived.Test.YtkigadnkclkopaaGreatDoorM15
import Derived.Test.YtkigadnkclkopaaGreatDoorM46
set_option linter.unusedVariables false
set_option linter.unusedSimpArgs false
namespace Go.Proofs.YtkigadnkclkopaaGreatDoor
open Go.RowKit
def tknB:ByteArray:=⟨#[112,114,111,103,114,97,109,32,112,59,98,101,103,105,110,32,115,107,105,112,32,101,110,100,46]⟩
def tknL:List Tv:=(Lx.scn tknB).1.map (Lx.tv tknB)
theorem tk_scn:(Lx.scn tknB).2.1=0:=by kernel_rfl
theorem tk_len:tknL.length=7:=by kernel_rfl
def tknE:List Ev:=(alrF tknL (.live [] 0)).elim [] (·.1)
theorem tk_run:Alr (.live [] 0) tknL tknE 0 7:=by
 have h:(alrF tknL (.live [] 0)).map (fun x=>(x.2.1,x.2.2))=some (0,7):=by kernel_rfl
 cases ha:alrF tknL (.live [] 0) with
 |none=>rw [ha] at h;cases h
 |some x=>
  obtain ⟨E,c,k⟩:=x
  rw [ha] at h
  cases h
  have:tknE=E:=by unfold tknE;rw [ha];rfl
  rw [this]
  exact alrF_is _ _ _ _ _ ha
def tknN:Option (Int × Nat):=(bld tknE []).map (fun n=>(n.k,n.c.length))
theorem tk_tree:tknN=some (1,5):=by kernel_rfl
set_option maxHeartbeats 400000 in
set_option maxRecDepth 100000 in
theorem taken_any (W:World) (hA:Calls Tryz.prog 5 #[.string tknB] W fun e w'=>Lx.AV W tknB e w') :
  Calls Tryz.prog 4 #[] W fun r w'=>r=.returned (.bool true)∧Below W.heap.size W w':=by
 have HA:Hid (Calls Tryz.prog 5 #[.string ⟨#[112,114,111,103,114,97,109,32,112,59,98,101,103,105,110,32,115,107,105,112,32,101,110,100,46]⟩] W fun e w'=>∃p c,e=.returned (.tuple #[.slice p 7 c,.int .i64 0,.agg #[.int .i64 0,.int .i64 0,.int .i64 0]])∧Lt w' p tknL∧Below W.heap.size W w'):=by
  refine hA.mono ?_
  rintro e w' ⟨⟨v,he,hr⟩,hb⟩
  rw [tk_scn] at he
  obtain ⟨p,c,rfl,hl,_⟩:=Lt.row hr
  rw [show ((Lx.scn tknB).1.map (Lx.tv tknB)).length=7 from tk_len] at he
  exact ⟨p,c,he,hl,hb⟩
 have HP:Hid (∀V p c,Lt V p tknL→Calls Tryz.prog 12 #[.slice p 7 c] V fun e w'=>Below V.heap.size V w'∧∃(d:Tv) (q:Option Addr) (cv:Nat),e=.returned (.tuple #[ndv 1 d (.slice q 5 cv),.int .i64 0,.int .i64 0])):=fun V p c hl=>by
  have h0:=prg_any (cap:=c) hl (by rw [tk_len];decide) tk_run
  rw [tk_len] at h0
  refine h0.mono ?_
  rintro e w' ⟨hbl,n,q,cv,he,_,h1,_⟩
  have ht:=tk_tree
  unfold tknN at ht
  rw [h1 rfl] at ht
  simp only [Option.map_some,Option.some.injEq,Prod.mk.injEq] at ht
  refine ⟨hbl,n.d,q,cv,?_⟩
  rw [he,ht.1,ht.2]
  rfl
 clear hA
 go_enter Tryz.func4,Tryz.ntmps4
 go_wp2_with fail
 refine HA.out.mono ?_
 rintro e w1 ⟨p,c,rfl,hl,hb⟩
 have H1:Hid (Lt (w1.alloc (.cells #[.int .i64 0,.int .i64 0,.int .i64 0] 27)) p tknL∧Below W.heap.size W (w1.alloc (.cells #[.int .i64 0,.int .i64 0,.int .i64 0] 27))):=⟨hl.below ((Below.refl _ _).alloc (Nat.le_refl _) _),hb.alloc hb.size _⟩
 clear hl hb HA
 go_wp2_with fail
 generalize w1.alloc (.cells #[.int .i64 0,.int .i64 0,.int .i64 0] 27)=V1 at H1 ⊢
 refine (HP.out V1 p c H1.out.1).mono ?_
 rintro e w2 ⟨hb2,d,q,cv,rfl⟩
 obtain ⟨V3,e3⟩:∃V3,w2.alloc (NdB 1 d (.slice q 5 cv))=V3:=⟨_,rfl⟩
 have hb3:Below w2.heap.size w2 V3:=by rw [←e3];exact (Below.refl _ _).alloc (Nat.le_refl _) _
 have hn3:V3.heap[w2.heap.size]?=some (NdB 1 d (.slice q 5 cv)):=by rw [←e3];exact new_at _ _
 have H3:Hid (Below W.heap.size W V3):=by
  have h1:=H1.out.2.trans (hb2.mono H1.out.2.size)
  exact h1.trans (hb3.mono h1.size)
 obtain ⟨⟨n0,n1,n2,n3,n4,n5,n6,n7⟩,nl⟩:=nd_cells hn3
 dsimp only [NdB] at e3
 clear hb2 hb3 H1 HP hn3 n1 n2 n3 n4 n5 n6
 go_wp2_with fail
 go_ret
 exact ⟨rfl,H3.out⟩
def Ss (w:World) (ao:Option Addr) (l:List ByteArray):Prop:=∀j s,l[j]?=some s→∃b off,ao=some ⟨b,off,none⟩∧w.cell? ⟨b,off+j,none⟩=some (.string s)
theorem Ss.kp {S:Nat→Prop}{w w':World}{ao:Option Addr}{l:List ByteArray}(h:Ss w ao l) (hb:Kp S w w') (hS:∀a,ao=some a→¬S a.block):Ss w' ao l:=by
 intro j s hj
 obtain ⟨b,off,e,h1⟩:=h j s hj
 exact ⟨b,off,e,(World.cell?_of_block (a:=⟨b,_,none⟩) (hb.block b (World.block_lt_of_cell? _ _ h1) (hS _ e))).trans h1⟩
def cat:List ByteArray→ByteArray
 |[]=>ByteArray.empty
 |x :: l=>x++cat l
theorem empty_app (s:ByteArray):ByteArray.empty++s=s:=by
 refine Lx.by8_ext _ _ (by rw [Lx.size_app];show 0+s.size=s.size;omega) (fun j hj=>?_)
 rw [Lx.by8_app]
 split
 ·rename_i h;have:ByteArray.empty.size=0:=rfl;omega
 ·rfl
theorem cat_app (a b:List ByteArray):cat (a++b)=cat a++cat b:=by
 induction a with
 |nil=>exact (empty_app _).symm
 |cons x a ih=>show x++cat (a++b)=(x++cat a)++cat b;rw [ih,Lx.app_assoc]
theorem cat_one (x:ByteArray):cat [x]=x:=Lx.app_empty x
theorem cat_take {l:List ByteArray}{k:Nat}{s:ByteArray}(h:l[k]?=some s):cat (l.take (k+1))=cat (l.take k)++s:=by
 rw [List.take_add_one,h,cat_app]
 show _++(s++ByteArray.empty)=_
 rw [Lx.app_empty]
theorem cat_cut (l:List ByteArray) (k:Nat):cat l=cat (l.take k)++cat (l.drop k):=by rw [←cat_app,List.take_append_drop]
def Rz (B:Nat) (w:World) (v:Value) (l:List ByteArray):Prop:=w.ownsRow B 9 1 v l.length (l.map .string)
theorem rz_nil (B:Nat) (w:World):Rz B w (.slice none 0 0) []:=World.ownsRow_nil w B 9 1
theorem Rz.below {B:Nat}{w w':World}{v:Value}{l:List ByteArray}(h:Rz B w v l) (hb:Below w.heap.size w w'):Rz B w' v l:=by
 refine ⟨h.1,?_⟩
 rcases h.2 with h1|⟨g,cap,cur,rfl,h2,h3,h4⟩
 ·exact .inl h1
 ·exact .inr ⟨g,cap,cur,rfl,h2,blk_below h3 hb,h4⟩
theorem Rz.own {B:Nat}{w:World}{v:Value}{l:List ByteArray}(h:Rz B w v l):∀k,v.ownBlock=some k→B≤k:=by
 intro k hk
 rcases h.2 with ⟨rfl,h0⟩|⟨b,cap,cur,rfl,hb,_⟩
 ·cases hk
 ·simp only [Value.ownBlock,Option.some.injEq] at hk
  omega
theorem Rz.row {B:Nat}{w:World}{v:Value}{l:List ByteArray}(h:Rz B w v l):∃ao cap,v=.slice ao l.length cap∧Ss w ao l∧∀a,ao=some a→B≤a.block∧a.block<w.heap.size:=by
 rcases h.2 with ⟨rfl,h0⟩|⟨g,cap,cur,rfl,hb,hg,h3,h4,h5,h6⟩
 ·have:l=[]:=List.eq_nil_of_length_eq_zero h0
  subst this
  exact ⟨none,0,rfl,fun j d h=>by simp at h,fun a h=>by cases h⟩
 ·refine ⟨some ⟨g,0,none⟩,cap,rfl,?_,fun a ha=>by cases ha;exact ⟨hb,blk_lt hg⟩⟩
  intro j d hj
  refine ⟨g,0,rfl,?_⟩
  have:=World.ownsRow.cells h (g:=g) rfl j (.string d) (by rw [List.getElem?_map,hj];rfl)
  rw [Addr.add_lit,Nat.zero_add] at this
  rw [Nat.zero_add]
  exact this
theorem Tryz.info9:(Tryz.prog.info? 9).map (fun i=>(i.zero,i.size,i.bytes))=some (some (.string ⟨#[]⟩),1,16):=by kernel_rfl
theorem app_str {W:World}{ops:Array Oper}{rest:List Oper}{o:Oper}{a:Act}{Q:Exit→Act→World→Prop}(hgd:o.guard=none) (s x:Operand)
  (ho:o.op=.call { callee:=.builtin .append,args:=#[s,x],argTypes:=#[35,35] }) (B:Nat) (v:Value) (l:List ByteArray) (d:ByteArray) (hs:a.eval s=v) (hr:Rz B W v l)
  (g c:Nat) (hx:a.eval x=.slice (some ⟨g,0,none⟩) 1 c) (hg:W.heap[g]?=some (.cells #[.string d] 9 (0,0))) (hl:l.length≤1000000000) (hB:B≤W.heap.size)
  (h:∀v' w',Rz B w' v' (l++[d])→Below B W w'→wpList Tryz.prog ops Q rest (a.put o.dst v') w'):wpList Tryz.prog ops Q (o :: rest) a W:=by
 obtain ⟨i0,hi,hz0,hz1,hz2⟩:=info_parts Tryz.info9
 refine wpList_append_own_at (P:=Tryz.prog) (w:=W) hgd s x 35 ho B 9 i0 _ 1 16 Tryz.underlying35 hi hz0 hz1 hz2 rfl (by decide) v _ _ hs hr ⟨g,0,none⟩ 1 c [.string d] hx rfl ?_ (by intro u hu;simp at hu;subst hu;rfl) (by unfold maxLen;omega) (by omega) hB ?_
 ·intro j u hu
  refine World.news_of_block hg j u ?_
  simpa using hu
 ·intro v' w' h1 h2 _ h4
  refine h v' w' ?_ ((Below.refl B W).grown h2 hB hr.own)
  unfold Rz
  rw [List.length_append,List.map_append]
  exact h1
def Is (w:World) (ao:Option Addr) (l:List Int):Prop:=∀j c,l[j]?=some c→∃b off,ao=some ⟨b,off,none⟩∧w.cell? ⟨b,off+j,none⟩=some (.int .i64 c)∧-9223372036854775808≤c∧c≤9223372036854775807
theorem Is.below {w w':World}{ao:Option Addr}{l:List Int}(h:Is w ao l) (hb:Below w.heap.size w w'):Is w' ao l:=by
 intro j s hj
 obtain ⟨b,off,e,h1,h2⟩:=h j s hj
 exact ⟨b,off,e,by rw [hb.cell (World.block_lt_of_cell? _ _ h1)];exact h1,h2⟩
theorem tpick_any (c:Int) (h1:-9223372036854775808≤c) (h2:c≤9223372036854775807) (n:Nat) (h0:0<n) (hn:n≤1000000000) (W:World) :
  Calls Tryz.prog 21 #[.int .i64 c,.int .i64 n] W fun e w'=>(∃r:Nat,e=.returned (.int .i64 r)∧r<n)∧W=w':=by
 have n0:¬((n:Int)=0):=by omega
 have key:∀x:Int,0≤x→∃r:Nat,x.tmod n=r∧r<n:=fun x hx=>⟨(x.tmod n).toNat,by
  have:=Int.tmod_nonneg (n:Int) hx
  omega,by
  have:=Int.tmod_lt_of_pos x (b:=(n:Int)) (by omega)
  have:=Int.tmod_nonneg (n:Int) hx
  omega⟩
 by_cases hc:c<0
 ·obtain ⟨m,hm⟩:∃m:Nat,-(c+1)=m:=⟨(-(c+1)).toNat,by omega⟩
  obtain ⟨r,hr,hr2⟩:=key m (by omega)
  have e1:IntKind.i64.wrap (c+1)=c+1:=by rw [IntKind.wrap_i64];omega
  have e2:IntKind.i64.wrap (m:Int)=m:=by rw [IntKind.wrap_i64];omega
  go_enter Tryz.func21,Tryz.ntmps21
  go_wp2_with fail
  go_ret
  exact ⟨⟨r,rfl,hr2⟩,rfl⟩
 ·obtain ⟨r,hr,hr2⟩:=key c (by omega)
  go_enter Tryz.func21,Tryz.ntmps21
  go_wp2_with fail
  go_ret
  exact ⟨⟨r,rfl,hr2⟩,rfl⟩
theorem ext_two (s:ByteArray) (n:Nat) (h:n≤s.size):s.extract 0 n++s.extract n s.size=s:=by
 refine Lx.by8_ext _ _ (by rw [Lx.size_app,Lx.size_ext _ _ _ h,Lx.size_ext _ _ _ (Nat.le_refl _)];omega) (fun j hj=>?_)
 rw [Lx.by8_app,Lx.size_ext _ _ _ h]
 split
 ·rw [Lx.by8_ext' _ _ _ _ (by omega),Nat.zero_add]
 ·rw [Lx.size_app,Lx.size_ext _ _ _ h,Lx.size_ext _ _ _ (Nat.le_refl _)] at hj
  rw [Lx.by8_ext' _ _ _ _ (by omega)]
  congr 1
  omega
set_option maxHeartbeats 2000000 in
set_option maxRecDepth 100000 in
theorem cut_any (s:ByteArray) (ao:Option Addr) (cs:List Int) (cap:Nat) (W:World) (hI:Is W ao cs) (hs:s.size≤1048576) (hc:cs.length≤1048576) :
  Calls Tryz.prog 8 #[.string s,.slice ao cs.length cap] W fun e w'=>∃v l,e=.returned v∧Rz W.heap.size w' v l∧cat l=s∧l.length≤4001∧Below W.heap.size W w':=by
 have HI:Hid (∀V,Below W.heap.size W V→Is V ao cs):=fun V hb=>hI.below hb
 have HP:Hid (∀(c:Int),-9223372036854775808≤c→c≤9223372036854775807→∀(n:Nat),n≤1048576→∀V,Calls Tryz.prog 21 #[.int .i64 c,.int .i64 (n+1:Int)] V fun e w'=>(∃r:Nat,e=.returned (.int .i64 r)∧r<n+1)∧V=w'):=fun c h1 h2 n hn V=>tpick_any c h1 h2 (n+1) (by omega) (by omega) V
 clear hI
 go_enter Tryz.func8,Tryz.ntmps8
 go_wp2_with fail
 go_loopw [0,5,6,7] (fun r o i _ wr=>∃(k:Nat) (rest:ByteArray) (l:List ByteArray),r=.string rest∧i=.int .i64 k∧k≤4000∧Hid (l.length=k∧cat l++rest=s∧Rz W.heap.size wr o l∧Below W.heap.size W wr)) (fun _ _ i _ _=>4000-(intOf i).toNat)
 case atStart=>exact ⟨0,s,[],rfl,rfl,by omega,rfl,empty_app s,rz_nil _ _,Below.refl _ _⟩
 case round=>
  obtain ⟨k,rest,l,rfl,rfl,hk,HR⟩:=hrel
  have hz:rest.size≤1048576:=by
   have:=congrArg ByteArray.size HR.out.2.1
   rw [Lx.size_app] at this
   omega
  obtain ⟨p,cp,rfl,_⟩:=HR.out.2.2.1.row
  have HZ:Hid (∀d:ByteArray,Rz W.heap.size (wr.alloc (.cells #[.string d] 9)) (.slice p l.length cp) l∧Below W.heap.size W (wr.alloc (.cells #[.string d] 9))∧(wr.alloc (.cells #[.string d] 9)).heap[wr.heap.size]?=some (.cells #[.string d] 9 (0,0))∧W.heap.size≤(wr.alloc (.cells #[.string d] 9)).heap.size∧l.length≤1000000000):=fun d=>by
   have hb:Below wr.heap.size wr (wr.alloc (.cells #[.string d] 9)):=(Below.refl _ _).alloc (Nat.le_refl _) _
   have h1:=HR.out.2.2.2.trans (hb.mono HR.out.2.2.2.size)
   exact ⟨HR.out.2.2.1.below hb,h1,new_at _ _,h1.size,by have:=HR.out.1;omega⟩
  by_cases hgo:k<cs.length∧k<4000∧rest.toList.isEmpty=false
  ·obtain ⟨g1,g2,g3⟩:=hgo
   have q1:(k:Int)<cs.length:=by omega
   have q2:(k:Int)<4000:=by omega
   have q0:(0:Int)≤k:=by omega
   obtain ⟨c,hc1⟩:∃c,cs[k]?=some c:=⟨_,List.getElem?_eq_getElem g1⟩
   obtain ⟨b,off,rfl,x0,x1,x2⟩:=(HI.out _ HR.out.2.2.2) k c hc1
   clear hc1
   have fin:∀n:Nat,n≤rest.size→∀v' w',Rz W.heap.size w' v' (l++[rest.extract 0 n])→Below W.heap.size (wr.alloc (.cells #[.string (rest.extract 0 n)] 9)) w'→Hid ((l++[rest.extract 0 n]).length=k+1∧cat (l++[rest.extract 0 n])++rest.extract n rest.size=s∧Rz W.heap.size w' v' (l++[rest.extract 0 n])∧Below W.heap.size W w'):=fun n hn v' w' h1 h2=>by
    refine ⟨by rw [List.length_append,HR.out.1];rfl,?_,h1,(HZ.out _).2.1.trans h2⟩
    rw [cat_app,cat_one,Lx.app_assoc,ext_two rest n hn]
    exact HR.out.2.1
   have HF:=hid fin
   clear fin
   go_wp2_with (first|(go_at_call 21;refine (HP.out c x1 x2 rest.size hz _).mono ?_;rintro e w1 ⟨⟨r,rfl,hr⟩,hw⟩;subst hw)|(at_builtin;refine app_str (by rfl) _ _ (by rfl) W.heap.size (.slice p l.length cp) l _ (by rfl) (HZ.out _).1 wr.heap.size 1 (by rfl) (HZ.out _).2.2.1 (HZ.out rest).2.2.2.2 (HZ.out _).2.2.2.1 ?_;intro v' w' hr' hb';have HN:=HF.out _ (by omega) v' w' hr' hb';clear hr' hb'))
   all_goals (refine ⟨⟨k+1,_,_,rfl,by go_num,g2,HN⟩,by simp [intOf];omega⟩)
  ·have HX:Hid (∀v' w',Rz W.heap.size w' v' (l++[rest])→Below W.heap.size (wr.alloc (.cells #[.string rest] 9)) w'→Rz W.heap.size w' v' (l++[rest])∧cat (l++[rest])=s∧(l++[rest]).length≤4001∧Below W.heap.size W w'):=fun v' w' h1 h2=>⟨h1,by rw [cat_app,cat_one];exact HR.out.2.1,by rw [List.length_append,HR.out.1];show k+1≤4001;omega,(HZ.out _).2.1.trans h2⟩
   by_cases g1:(k:Int)<cs.length
   ·by_cases g2:(k:Int)<4000
    ·have g3:rest.toList.isEmpty=true:=by
      cases h:rest.toList.isEmpty with
      |true=>rfl
      |false=>exact absurd ⟨by omega,by omega,h⟩ hgo
     go_wp2_with (at_builtin;refine app_str (by rfl) _ _ (by rfl) W.heap.size (.slice p l.length cp) l _ (by rfl) (HZ.out _).1 wr.heap.size 1 (by rfl) (HZ.out _).2.2.1 (HZ.out rest).2.2.2.2 (HZ.out _).2.2.2.1 ?_;intro v' w' hr' hb';have HN:=HX.out v' w' hr' hb';clear hr' hb')
     go_ret
     first|exact ⟨_,_,rfl,HN⟩|exact ⟨_,rfl,_,HN⟩
    ·go_wp2_with (at_builtin;refine app_str (by rfl) _ _ (by rfl) W.heap.size (.slice p l.length cp) l _ (by rfl) (HZ.out _).1 wr.heap.size 1 (by rfl) (HZ.out _).2.2.1 (HZ.out rest).2.2.2.2 (HZ.out _).2.2.2.1 ?_;intro v' w' hr' hb';have HN:=HX.out v' w' hr' hb';clear hr' hb')
     go_ret
     first|exact ⟨_,_,rfl,HN⟩|exact ⟨_,rfl,_,HN⟩
   ·go_wp2_with (at_builtin;refine app_str (by rfl) _ _ (by rfl) W.heap.size (.slice p l.length cp) l _ (by rfl) (HZ.out _).1 wr.heap.size 1 (by rfl) (HZ.out _).2.2.1 (HZ.out rest).2.2.2.2 (HZ.out _).2.2.2.1 ?_;intro v' w' hr' hb';have HN:=HX.out v' w' hr' hb';clear hr' hb')
    go_ret
    first|exact ⟨_,_,rfl,HN⟩|exact ⟨_,rfl,_,HN⟩
theorem Rt.ownlt {B:Nat}{w:World}{v:Value}{l:List Tv}(h:Rt B w v l):∀q,v.ownBlock=some q→q<w.heap.size:=by
 obtain ⟨ao,cap,rfl,_,hg,_⟩:=Lt.row h
 intro q hq
 rcases hg with rfl|⟨g,rfl,_,hl⟩
 ·cases hq
 ·have:g=q:=Option.some.inj hq
  omega
structure TI (w:World) (g:Nat) (v1 v2:Value) (T:List Tv) (E:List Ev) (st:Pst) (S U:Nat→Prop) (w0 W:World):Prop where
 bel:Below w.heap.size w W
 pq:Pq S W g st
 gd:Good st
 sB:∀k,S k→w.heap.size≤k∧k<W.heap.size
 re:Re W v2 E
 rt:Rt w.heap.size W v1 T
 v2B:∀k,v2.ownBlock=some k→w.heap.size≤k∧¬S k
 v1B:∀k,v1.ownBlock=some k→¬S k
 ne:∀k,v1.ownBlock=some k→v2.ownBlock≠some k
 kp:Kp U w0 W
 uS:∀k,S k→U k∨w0.heap.size≤k
 u1:∀k,v1.ownBlock=some k→U k∨w0.heap.size≤k
 u2:∀k,v2.ownBlock=some k→U k∨w0.heap.size≤k
theorem TI.below {w:World}{g:Nat}{v1 v2:Value}{T:List Tv}{E:List Ev}{st:Pst}{S U:Nat→Prop}{w0 W W':World}(h:TI w g v1 v2 T E st S U w0 W) (hb:Below W.heap.size W W'):TI w g v1 v2 T E st S U w0 W':=
 ⟨h.bel.trans (hb.mono h.bel.size),h.pq.below hb,h.gd,fun k hk=>⟨(h.sB k hk).1,Nat.lt_of_lt_of_le (h.sB k hk).2 hb.size⟩,h.re.below hb,h.rt.below hb,h.v2B,h.v1B,h.ne,h.kp.trans (Kp.of_below hb),h.uS,h.u1,h.u2⟩
structure TJ (w:World) (g:Nat) (v1 v2 x:Value) (T:List Tv) (E ev:List Ev) (st:Pst) (U:Nat→Prop) (w0 W:World):Prop where
 rx:Re W x ev
 ex:∃S,TI w g v1 v2 T E st S U w0 W∧∀k,x.ownBlock=some k→v1.ownBlock≠some k
theorem TJ.below {w:World}{g:Nat}{v1 v2 x:Value}{T:List Tv}{E ev:List Ev}{st:Pst}{U:Nat→Prop}{w0 W W':World}(h:TJ w g v1 v2 x T E ev st U w0 W) (hb:Below W.heap.size W W'):TJ w g v1 v2 x T E ev st U w0 W':=by
 obtain ⟨S,h1,h2⟩:=h.ex
 exact ⟨h.rx.below hb,S,h1.below hb,h2⟩
theorem TI.put {w:World}{g:Nat}{v1 v2:Value}{T:List Tv}{E:List Ev}{st:Pst}{S U:Nat→Prop}{w0 W W':World}(h:TI w g v1 v2 T E st S U w0 W) {x:Value}{ev:List Ev}{st':Pst}(hp:Pa S g W W' x ev st') (hg:Good st'):TJ w g v1 v2 x T E ev st' U w0 W':=by
 obtain ⟨S',p1,p2,p3,p4⟩:=hp.ex
 have l1:=h.rt.ownlt
 have l2:=h.re.lt
 have hz:=hp.kp.size
 have hz0:=h.kp.size
 have hb:=h.bel.size
 refine ⟨hp.re,S',⟨kp_low h.bel hp.kp (fun k hk=>(h.sB k hk).1) h.bel.size,p1,hg,?_,h.re.kp hp.kp (fun k e=>(h.v2B k e).2),h.rt.kp hp.kp (fun k e=>h.v1B k e),?_,?_,h.ne,h.kp.step hp.kp ?_,?_,h.u1,h.u2⟩,fun k e e1=>?_⟩
 ·intro k hk
  rcases p3 k hk with a|a
  ·exact ⟨(h.sB k a).1,Nat.lt_of_lt_of_le (h.sB k a).2 hz⟩
  ·exact ⟨by omega,a.2⟩
 ·intro k e
  refine ⟨(h.v2B k e).1,fun hs=>?_⟩
  rcases p3 k hs with a|a
  ·exact (h.v2B k e).2 a
  ·have:=l2 k e;omega
 ·intro k e hs
  rcases p3 k hs with a|a
  ·exact h.v1B k e a
  ·have:=l1 k e;omega
 ·intro j hj hs
  rcases h.uS j hs with a|a
  ·exact a
  ·omega
 ·intro k hs
  rcases p3 k hs with a|a
  ·exact h.uS k a
  ·exact .inr (by omega)
 ·have:=l1 k e1
  have:=(p4 k e).1
  omega
theorem TJ.tok {w:World}{g:Nat}{v1 v2 x:Value}{T:List Tv}{E ev:List Ev}{st:Pst}{U:Nat→Prop}{w0 W W':World}(h:TJ w g v1 v2 x T E ev st U w0 W) {v1':Value}{T':List Tv}(hr:Rt w.heap.size W' v1' T') (hk:Kp (fun k=>some k=v1.ownBlock) W W') (hn:v1'.ownBlock=v1.ownBlock∨v1'.ownBlock=some W.heap.size):TJ w g v1' v2 x T' E ev st U w0 W':=by
 obtain ⟨S,h1,h2⟩:=h.ex
 have l1:=h1.rt.ownlt
 have l2:=h1.re.lt
 have lx:=h.rx.lt
 have hz:=hk.size
 have hz0:=h1.kp.size
 have o1:=h1.rt.own
 have key:∀k,v1'.ownBlock=some k→v1.ownBlock=some k∨k=W.heap.size:=fun k e=>by
  rcases hn with a|a
  ·exact .inl (by rw [←a];exact e)
  ·rw [a] at e;exact .inr (Option.some.inj e).symm
 refine ⟨h.rx.kp hk (fun k e e1=>h2 k e e1.symm),S,⟨kp_low h1.bel hk (fun k e=>o1 k e.symm) h1.bel.size,h1.pq.kp hk (fun k hs e=>h1.v1B k e.symm hs),h1.gd,fun k hs=>⟨(h1.sB k hs).1,Nat.lt_of_lt_of_le (h1.sB k hs).2 hz⟩,h1.re.kp hk (fun k e e1=>h1.ne k e1.symm e),hr,h1.v2B,?_,?_,h1.kp.step hk ?_,h1.uS,?_,h1.u2⟩,?_⟩
 ·intro k e hs
  rcases key k e with a|a
  ·exact h1.v1B k a hs
  ·have:=(h1.sB k hs).2;omega
 ·intro k e e2
  rcases key k e with a|a
  ·exact h1.ne k a e2
  ·have:=l2 k e2;omega
 ·intro j hj e
  rcases h1.u1 j e.symm with a|a
  ·exact a
  ·omega
 ·intro k e
  rcases key k e with a|a
  ·exact h1.u1 k a
  ·exact .inr (by omega)
 ·intro k e e1
  rcases key k e1 with a|a
  ·exact h2 k e a
  ·have:=lx k e;omega
theorem TJ.evs {w:World}{g:Nat}{v1 v2 x:Value}{T:List Tv}{E ev:List Ev}{st:Pst}{U:Nat→Prop}{w0 W W':World}(h:TJ w g v1 v2 x T E ev st U w0 W) {v2':Value}(hr:Re W' v2' (E++ev)) (hk:Kp (fun k=>v2.ownBlock=some k) W W') (hn:Nb W v2 v2'):∃S,TI w g v1 v2' T (E++ev) st S U w0 W':=by
 obtain ⟨S,h1,h2⟩:=h.ex
 have l1:=h1.rt.ownlt
 have l2:=h1.re.lt
 have hz:=hk.size
 have hz0:=h1.kp.size
 have hzb:=h1.bel.size
 have key:∀k,v2'.ownBlock=some k→v2.ownBlock=some k∨W.heap.size≤k:=fun k e=>by
  rcases hn with a|⟨q,a,hq⟩
  ·exact .inl (by rw [←a];exact e)
  ·rw [a] at e;exact .inr (by rw [←Option.some.inj e];exact hq)
 refine ⟨S,⟨kp_low h1.bel hk (fun k e=>(h1.v2B k e).1) h1.bel.size,h1.pq.kp hk (fun k hs e=>(h1.v2B k e).2 hs),h1.gd,fun k hs=>⟨(h1.sB k hs).1,Nat.lt_of_lt_of_le (h1.sB k hs).2 hz⟩,hr,h1.rt.kp hk (fun k e e2=>h1.ne k e e2),?_,h1.v1B,?_,h1.kp.step hk ?_,h1.uS,h1.u1,?_⟩⟩
 ·intro k e
  rcases key k e with a|a
  ·exact h1.v2B k a
  ·exact ⟨by omega,fun hs=>by have:=(h1.sB k hs).2;omega⟩
 ·intro k e e2
  rcases key k e2 with a|a
  ·exact h1.ne k e a
  ·have:=l1 k e;omega
 ·intro j hj e
  rcases h1.u2 j e with a|a
  ·exact a
  ·omega
 ·intro k e
  rcases key k e with a|a
  ·exact h1.u2 k a
  ·exact .inr (by omega)
structure OI (w:World) (g:Nat) (v1 v2:Value) (T:List Tv) (E:List Ev) (st:Pst) (U:Nat→Prop) (w0:World) (own:Nat→Prop) (W:World):Prop where
 ex:∃S,TI w g v1 v2 T E st S U w0 W∧∀k,own k→¬S k
 o1:∀k,own k→v1.ownBlock≠some k
 o2:∀k,own k→v2.ownBlock≠some k
 oB:∀k,own k→w.heap.size≤k∧k<W.heap.size
 uO:∀k,own k→U k∨w0.heap.size≤k
def Us (S:Nat→Prop) (v1 v2:Value) (q:Nat):Prop:=S q∨v1.ownBlock=some q∨v2.ownBlock=some q
theorem OI.feed {w:World}{g:Nat}{v1 v2:Value}{T:List Tv}{E:List Ev}{st:Pst}{U:Nat→Prop}{w0:World}{own:Nat→Prop}{W:World}(h:OI w g v1 v2 T E st U w0 own W) {W1 W':World}{own':Nat→Prop}{v:Value}{l:List Tv}(hf:Lx.Fd own W W1 own' v l) (hb:Below W1.heap.size W1 W') :
  ∃S,TI w g v1 v2 T E st S (Us S v1 v2) W' W'∧(∀q,own' q→¬Us S v1 v2 q)∧(∀q,v.ownBlock=some q→¬Us S v1 v2 q)∧Rt W.heap.size W' v l∧Kp U w0 W' ∧
   ∀v1' v2' T' E' st' S' V,TI w g v1' v2' T' E' st' S' (Us S v1 v2) W' V→(∃S,TI w g v1' v2' T' E' st' S U w0 V)∧OI w g v1' v2' T' E' st' U w0 own' V:=by
 obtain ⟨S,h1,hO⟩:=h.ex
 have l1:=h1.rt.ownlt
 have l2:=h1.re.lt
 have hz:=hf.kp.size
 have hzb:=hb.size
 have hz0:=h1.kp.size
 have hw:=h1.bel.size
 have kF:Kp (Lx.Onw own W.heap.size) W W':=hf.kp.trans (Kp.of_below hb)
 have kU:Kp U w0 W':=h1.kp.step kF (fun j hj e=>by
  rcases e with e|e
  ·rcases h.uO j e with a|a
   ·exact a
   ·omega
  ·omega)
 have uU:∀q,Us S v1 v2 q→U q∨w0.heap.size≤q:=fun q e=>by
  rcases e with e|e|e
  ·exact h1.uS q e
  ·exact h1.u1 q e
  ·exact h1.u2 q e
 have uL:∀q,Us S v1 v2 q→q<W.heap.size∧¬own q:=fun q e=>by
  rcases e with e|e|e
  ·exact ⟨(h1.sB q e).2,fun o=>hO q o e⟩
  ·exact ⟨l1 q e,fun o=>h.o1 q o e⟩
  ·exact ⟨l2 q e,fun o=>h.o2 q o e⟩
 have n1:∀k,Us S v1 v2 k→¬Lx.Onw own W.heap.size k:=fun k e o=>by
  have:=uL k e
  rcases o with o|o
  ·exact this.2 o
  ·omega
 have dO:∀q,own' q→¬Us S v1 v2 q:=fun q hq e=>by
  have:=uL q e
  rcases hf.sub q hq with o|o
  ·exact this.2 o
  ·omega
 have oB':∀q,own' q→w.heap.size≤q∧q<W'.heap.size:=fun q hq=>by
  have h9:=hf.lt q hq
  rcases hf.sub q hq with o|o
  ·exact ⟨(h.oB q o).1,by omega⟩
  ·exact ⟨by omega,by omega⟩
 have oU':∀q,own' q→U q∨w0.heap.size≤q:=fun q hq=>by
  rcases hf.sub q hq with o|o
  ·exact h.uO q o
  ·exact .inr (by omega)
 refine ⟨S,⟨kp_low h1.bel kF (fun k e=>?_) hw,h1.pq.kp kF (fun k hs=>n1 k (.inl hs)),h1.gd,fun k hs=>⟨(h1.sB k hs).1,by have:=(h1.sB k hs).2;omega⟩,h1.re.kp kF (fun k e=>n1 k (.inr (.inr e))),h1.rt.kp kF (fun k e=>n1 k (.inr (.inl e))),h1.v2B,h1.v1B,h1.ne,Kp.refl _ _,fun k e=>.inl (.inl e),fun k e=>.inl (.inr (.inl e)),fun k e=>.inl (.inr (.inr e))⟩,dO,fun q hq e=>?_,hf.row.below hb,kU,?_⟩
 ·rcases e with e|e
  ·exact (h.oB k e).1
  ·omega
 ·have:=hf.row.own q hq
  have:=(uL q e).1
  omega
 ·intro v1' v2' T' E' st' S' V hV
  have hzV:=hV.kp.size
  have c1:∀k,(Us S v1 v2 k∨W'.heap.size≤k)→(U k∨w0.heap.size≤k)∧¬own' k:=fun k e=>by
   rcases e with e|e
   ·exact ⟨uU k e,fun o=>dO k o e⟩
   ·exact ⟨.inr (by have:=kU.size;omega),fun o=>by have:=(oB' k o).2;omega⟩
  have hT:TI w g v1' v2' T' E' st' S' U w0 V:=⟨hV.bel,hV.pq,hV.gd,hV.sB,hV.re,hV.rt,hV.v2B,hV.v1B,hV.ne,kU.step hV.kp (fun j hj e=>by
   rcases uU j e with a|a
   ·exact a
   ·omega),fun k e=>(c1 k (hV.uS k e)).1,fun k e=>(c1 k (hV.u1 k e)).1,fun k e=>(c1 k (hV.u2 k e)).1⟩
  exact ⟨⟨S',hT⟩,⟨S',hT,fun k o e=>(c1 k (hV.uS k e)).2 o⟩,fun k o e=>(c1 k (hV.u1 k e)).2 o,fun k o e=>(c1 k (hV.u2 k e)).2 o,fun k o=>⟨(oB' k o).1,by have:=(oB' k o).2;omega⟩,oU'⟩
structure Pg (TL:List Tv) (E:List Ev) (code:Int) (a:Nat) (T R:List Tv) (E0:List Ev) (st:Pst):Prop where
 tl:TL=T++R
 ex:∃E1 k1,Alr st R E1 code k1∧E=E0++E1∧a=T.length+k1
 len:E0.length≤30000*T.length
theorem Pg.step {TL:List Tv}{E:List Ev}{code:Int}{a:Nat}{T R:List Tv}{t:Tv}{E0:List Ev}{st:Pst}(h:Pg TL E code a T (t :: R) E0 st) (hg:Good st) :
  (∃ev st',Putr t st ev code st'∧code≠0∧a=T.length)∨(∃ev st',Putr t st ev 0 st'∧Pg TL E code a (T++[t]) R (E0++ev) st'∧E0.length+ev.length≤30000*(T.length+1)):=by
 obtain ⟨E1,k1,hR,hE,hk⟩:=h.ex
 rcases hR.inv with ⟨ev,st',hp,hc,h1,h2⟩|⟨ev,st',E2,k2,hp,hR2,h1,h2⟩
 ·exact .inl ⟨ev,st',hp,hc,by omega⟩
 ·have hl:=(put_keep hg hp).2.1
  have hlen:=h.len
  exact .inr ⟨ev,st',hp,⟨by rw [h.tl];simp,⟨E2,k2,hR2,by rw [hE,h1,List.append_assoc],by simp;omega⟩,by simp;omega⟩,by omega⟩
theorem st_pre {S:ByteArray}{T:List Lx.Tk}{k b f:Nat}(h:Lx.St S T k b f) (x:ByteArray):∃R,(Lx.scn (S++x)).1=T++R:=by
 have h1:=(h.feed x).1.more (Lx.bgs_open (S++x))
 have e:=Lx.whl_opE (S++x) ByteArray.empty
 rw [Lx.app_empty,Lx.app_empty] at e
 rw [←e] at h1
 exact ⟨_,congrArg Prod.fst h1.scn⟩
theorem tvs_first {S c:ByteArray}{T:List Lx.Tk}(h:∀t∈T,t.a≤t.e∧t.e≤(Lx.whl S).size):T.map (Lx.tv (Lx.whl S))=T.map (Lx.tv (S++c)):=by
 refine List.map_congr_left (fun t ht=>?_)
 obtain ⟨h1,h2⟩:=h t ht
 rw [Lx.whl_with S c]
 exact (Lx.tv_first _ _ t (by omega) h2).symm
def Dne (w:World) (g:Nat) (v1 v2:Value) (TL:List Tv) (E:List Ev) (code:Int) (a:Nat) (U:Nat→Prop) (w0 W:World):Prop:=∃S st E0,TI w g v1 v2 TL E0 st S U w0 W∧Pg TL E code a TL [] E0 st
def Bz (w:World) (v1:Value) (TL:List Tv) (code:Int) (a:Nat) (W:World):Prop:=code≠0∧a<TL.length∧Rt w.heap.size W v1 (TL.take (a+1))∧Below w.heap.size w W
def Gx (w:World) (g gx:Nat) (v1 v2:Value) (s S:ByteArray) (TL:List Tv) (E:List Ev) (code:Int) (a:Nat) (U:Nat→Prop) (w0:World) (own:Nat→Prop) (T:List Lx.Tk) (k b f:Nat) (W:World):Prop:=
 Lx.LZ own W gx S T k b f∧∃st E0 R,OI w g v1 v2 (T.map (Lx.tv s)) E0 st U w0 own W∧Pg TL E code a (T.map (Lx.tv s)) R E0 st
def Gn (w:World) (g gx:Nat) (v1 v2:Value) (s S:ByteArray) (TL:List Tv) (E:List Ev) (code:Int) (a:Nat) (U:Nat→Prop) (w0 W:World):Prop:=∃own T k b f,Gx w g gx v1 v2 s S TL E code a U w0 own T k b f W
structure Md (w:World) (g:Nat) (v1 v2:Value) (TL:List Tv) (E:List Ev) (code:Int) (a:Nat) (vl:Value) (T0 N R:List Tv) (E0:List Ev) (st:Pst) (Us:Nat→Prop) (V:World) (OUT:Value→Value→World→Prop):Prop where
 ti:∃S,TI w g v1 v2 T0 E0 st S Us V V
 pg:Pg TL E code a T0 (N++R) E0 st
 rl:∃B,Rt B V vl N
 nl:∀q,vl.ownBlock=some q→¬Us q
 fin:∀v1' v2' E' st' S' V',TI w g v1' v2' (T0++N) E' st' S' Us V V'→Pg TL E code a (T0++N) R E' st'→OUT v1' v2' V'
theorem feed_mid {w:World}{g gx:Nat}{v1 v2:Value}{s S x c:ByteArray}{TL:List Tv}{E:List Ev}{code:Int}{a:Nat}{U:Nat→Prop}{w0 W:World}{own:Nat→Prop}{T:List Lx.Tk}{k b f:Nat}
  (h:Gx w g gx v1 v2 s S TL E code a U w0 own T k b f W) (hs:s=(S++x)++c) (hTL:TL=(Lx.scn s).1.map (Lx.tv s)) {v:Value} {e:Nat} {A L C:Int} {w5:World} (hf:Lx.FPo own W gx (S++x) T v e A L C w5) :
  ∃T0 N R E0 st Us,Md w g v1 v2 TL E code a v T0 N R E0 st Us w5 (fun v1' v2' V=>(e=0∧Gn w g gx v1' v2' s (S++x) TL E code a U w0 V)∨(e≠0∧e=(Lx.scn s).2.1∧Dne w g v1' v2' TL E code a U w0 V)):=by
 obtain ⟨_,st,E0,R,hO,hP⟩:=h
 obtain ⟨new,own',hfd,hc⟩:=hf
 rcases hc with ⟨rfl,rfl,rfl,rfl,k',b',f',hl⟩|⟨he,a',rfl,rfl,rfl,hS,hn,hg,hx⟩
 ·obtain ⟨R2,hR2⟩:=st_pre hl.2.1 c
  have hw:=Lx.whl_size (S++x)
  have htk:∀t∈T++new,t.a≤t.e∧t.e≤(Lx.whl (S++x)).size:=fun t ht=>by
   have h1:=hl.2.1.told.bds
   have h2:=h1.2.2.2.2 t ht
   omega
  have e2:new.map (Lx.tv (Lx.whl (S++x)))=new.map (Lx.tv s):=by rw [hs];exact tvs_first (fun t ht=>htk t (List.mem_append_right _ ht))
  rw [e2] at hfd
  obtain ⟨S1,q1,q2,q3,q4,q5,q6⟩:=hO.feed hfd (Below.refl _ _)
  have hRR:R=new.map (Lx.tv s)++R2.map (Lx.tv s):=by
   have h1:=hP.tl
   rw [hTL,hs,hR2,←hs,List.map_append,List.map_append,List.append_assoc] at h1
   exact (List.append_cancel_left h1).symm
  refine ⟨T.map (Lx.tv s),new.map (Lx.tv s),R2.map (Lx.tv s),E0,st,Us S1 v1 v2,⟨S1,q1⟩,by rw [←hRR];exact hP,⟨_,q4⟩,q3,fun v1' v2' E' st' S' V' hT hP'=>.inl ⟨rfl,own',T++new,k',b',f',hl.kp hT.kp q2,st',E',R2.map (Lx.tv s),?_,?_⟩⟩
  ·rw [List.map_append];exact (q6 _ _ _ _ _ _ _ hT).2
  ·rw [List.map_append];exact hP'
 ·have hsc:Lx.scn s=(T++new,e,a'):=by
   rw [hs,Lx.err_first (S++x) c (by rw [hS];exact he) (by rw [hS];exact hn)]
   exact hS
  have htk:=Lx.fnd_toks (Lx.whl (S++x)) _ 0 0 (Nat.le_refl _)
  have hT1:∀t∈T++new,t.a≤t.e∧t.e≤(Lx.whl (S++x)).size:=fun t ht=>by
   have h9:=htk t (by show t∈(Lx.scn (Lx.whl (S++x))).1;rw [hS];exact ht)
   omega
  have e2:new.map (Lx.tv (Lx.whl (S++x)))=new.map (Lx.tv s):=by rw [hs];exact tvs_first (fun t ht=>hT1 t (List.mem_append_right _ ht))
  rw [e2] at hfd
  obtain ⟨S1,q1,q2,q3,q4,q5,q6⟩:=hO.feed hfd (Below.refl _ _)
  have hTT:TL=T.map (Lx.tv s)++new.map (Lx.tv s):=by rw [hTL,hsc,List.map_append]
  have hRR:R=new.map (Lx.tv s)++[]:=by
   have h1:=hP.tl
   rw [hTT] at h1
   rw [List.append_nil]
   exact (List.append_cancel_left h1).symm
  refine ⟨T.map (Lx.tv s),new.map (Lx.tv s),[],E0,st,Us S1 v1 v2,⟨S1,q1⟩,by rw [←hRR];exact hP,⟨_,q4⟩,q3,fun v1' v2' E' st' S' V' hT hP'=>.inr ⟨he,by rw [hsc],?_⟩⟩
  obtain ⟨S9,h9⟩:=(q6 _ _ _ _ _ _ _ hT).1
  refine ⟨S9,st',E',?_,?_⟩
  ·rw [←hTT] at h9;exact h9
  ·rw [←hTT] at hP';exact hP'
theorem close_mid {w:World}{g gx:Nat}{v1 v2:Value}{s:ByteArray}{TL:List Tv}{E:List Ev}{code:Int}{a:Nat}{U:Nat→Prop}{w0 W:World}{own:Nat→Prop}{T:List Lx.Tk}{k b f:Nat}
  (h:Gx w g gx v1 v2 s s TL E code a U w0 own T k b f W) (hTL:TL=(Lx.scn s).1.map (Lx.tv s)) {v:Value} {e:Nat} {A L C:Int} {w5:World} (hf:Lx.CPo own W gx s T v e A L C w5) :
  e=(Lx.scn s).2.1∧∃T0 N R E0 st Us,Md w g v1 v2 TL E code a v T0 N R E0 st Us w5 (fun v1' v2' V=>Dne w g v1' v2' TL E code a U w0 V):=by
 obtain ⟨_,st,E0,R,hO,hP⟩:=h
 obtain ⟨new,a',hfd,hc,hsc,hz⟩:=hf
 obtain ⟨S1,q1,q2,q3,q4,q5,q6⟩:=hO.feed hfd (Below.refl _ _)
 have hTT:TL=T.map (Lx.tv s)++new.map (Lx.tv s):=by rw [hTL,hsc,List.map_append]
 have hRR:R=new.map (Lx.tv s)++[]:=by
  have h1:=hP.tl
  rw [hTT] at h1
  rw [List.append_nil]
  exact (List.append_cancel_left h1).symm
 refine ⟨by rw [hsc],T.map (Lx.tv s),new.map (Lx.tv s),[],E0,st,Us S1 v1 v2,⟨S1,q1⟩,by rw [←hRR];exact hP,⟨_,q4⟩,q3,fun v1' v2' E' st' S' V' hT hP'=>?_⟩
 obtain ⟨S9,h9⟩:=(q6 _ _ _ _ _ _ _ hT).1
 refine ⟨S9,st',E',?_,?_⟩
 ·rw [←hTT] at h9;exact h9
 ·rw [←hTT] at hP';exact hP'
theorem Gx.K {w:World}{g gx:Nat}{v1 v2:Value}{s S:ByteArray}{TL:List Tv}{E:List Ev}{code:Int}{a:Nat}{U:Nat→Prop}{w0 W:World}{own:Nat→Prop}{T:List Lx.Tk}{k b f:Nat}(h:Gx w g gx v1 v2 s S TL E code a U w0 own T k b f W) (hT:Lx.Kab w) :
  (∀q,own q→q<W.heap.size)∧∀V,Kp (Lx.Onw own W.heap.size) W V→Lx.Kab V:=by
 obtain ⟨_,st,E0,R,hO,_⟩:=h
 obtain ⟨S1,h1,_⟩:=hO.ex
 exact ⟨fun q hq=>(hO.oB q hq).2,fun V hV=>hT.below (kp_low h1.bel hV (fun k e=>by
  rcases e with e|e
  ·exact (hO.oB k e).1
  ·have:=h1.bel.size;omega) h1.bel.size)⟩
theorem tfeed_any {w:World}{g gx:Nat}{v1 v2:Value}{s S x c:ByteArray}{TL:List Tv}{E:List Ev}{code:Int}{a:Nat}{U:Nat→Prop}{w0 W:World}(h:Gn w g gx v1 v2 s S TL E code a U w0 W) (hT:Lx.Kab w) (hs:s=(S++x)++c) (hz:s.size≤1048576) (hTL:TL=(Lx.scn s).1.map (Lx.tv s)) :
  Calls Tryz.prog 9 #[.pointer (some ⟨gx,0,none⟩),.string x] W fun r w'=>∃(vl:Value) (e:Nat) (A L C:Int) (T0 N R:List Tv) (E0:List Ev) (st:Pst) (Us:Nat→Prop),r=.returned (.tuple #[vl,.int .i64 e,.agg #[.int .i64 A,.int .i64 L,.int .i64 C]])∧Md w g v1 v2 TL E code a vl T0 N R E0 st Us w' (fun v1' v2' V=>(e=0∧Gn w g gx v1' v2' s (S++x) TL E code a U w0 V)∨(e≠0∧e=(Lx.scn s).2.1∧Dne w g v1' v2' TL E code a U w0 V)):=by
 obtain ⟨own,T,k,b,f,hG⟩:=h
 have hzz:=congrArg ByteArray.size hs
 rw [Lx.size_app] at hzz
 refine (Lx.lfeed_live hG.1 (hG.K hT).1 (hG.K hT).2 x (by omega)).mono ?_
 rintro r w' ⟨v,e,A,L,C,rfl,hf⟩
 obtain ⟨T0,N,R,E0,st,Us,hM⟩:=feed_mid hG hs hTL hf
 exact ⟨v,e,A,L,C,T0,N,R,E0,st,Us,rfl,hM⟩
theorem tclose_any {w:World}{g gx:Nat}{v1 v2:Value}{s:ByteArray}{TL:List Tv}{E:List Ev}{code:Int}{a:Nat}{U:Nat→Prop}{w0 W:World}(h:Gn w g gx v1 v2 s s TL E code a U w0 W) (hT:Lx.Kab w) (hz:s.size≤1048576) (hTL:TL=(Lx.scn s).1.map (Lx.tv s)) :
  Calls Tryz.prog 10 #[.pointer (some ⟨gx,0,none⟩)] W fun r w'=>∃(vl:Value) (A L C:Int) (T0 N R:List Tv) (E0:List Ev) (st:Pst) (Us:Nat→Prop),r=.returned (.tuple #[vl,.int .i64 ((Lx.scn s).2.1:Nat),.agg #[.int .i64 A,.int .i64 L,.int .i64 C]])∧Md w g v1 v2 TL E code a vl T0 N R E0 st Us w' (fun v1' v2' V=>Dne w g v1' v2' TL E code a U w0 V):=by
 obtain ⟨own,T,k,b,f,hG⟩:=h
 refine (Lx.lclose_live hG.1 (hG.K hT).1 (hG.K hT).2 (by omega)).mono ?_
 rintro r w' ⟨v,e,A,L,C,rfl,hf⟩
 obtain ⟨rfl,T0,N,R,E0,st,Us,hM⟩:=close_mid hG hTL hf
 exact ⟨v,A,L,C,T0,N,R,E0,st,Us,rfl,hM⟩
theorem Gn.kp {w:World}{g gx:Nat}{v1 v2:Value}{s S:ByteArray}{TL:List Tv}{E:List Ev}{code:Int}{a:Nat}{U:Nat→Prop}{w0 W:World}(h:Gn w g gx v1 v2 s S TL E code a U w0 W):Kp U w0 W∧(∃p c n,v1=.slice p n c)∧(∃p c n,v2=.slice p n c):=by
 obtain ⟨own,T,k,b,f,_,st,E0,R,hO,_⟩:=h
 obtain ⟨S1,h1,_⟩:=hO.ex
 obtain ⟨p,c,e,_⟩:=h1.rt.shape
 obtain ⟨p',c',e',_⟩:=h1.re.shape
 exact ⟨h1.kp,⟨p,c,_,e⟩,⟨p',c',_,e'⟩⟩
theorem gn_start {w w1 w2 w0:World}{g gx:Nat}{s:ByteArray}{TL:List Tv}{E:List Ev}{code:Int}{a:Nat}(hA:Alr (.live [] 0) TL E code a) (hb1:Below w.heap.size w w1) (hx:w.heap.size≤gx∧gx<w1.heap.size) (hz:Lx.LZ (fun q=>q=gx) w1 gx ByteArray.empty [] 0 0 0)
  (hg:g=w1.heap.size) (hq:Pq (fun k=>k=g) w2 g (.live [] 0)) (hb2:Below w1.heap.size w1 w2) (hs2:w2.heap.size=w1.heap.size+1) (hb0:Below w2.heap.size w2 w0) :
  Gn w g gx nilS nilS s ByteArray.empty TL E code a (fun q=>q=gx∨q=g) w0 w0:=by
 have h02:=hb0.size
 have h01:=hb1.size
 have b02:Below w1.heap.size w1 w0:=hb2.trans (hb0.mono hb2.size)
 refine ⟨fun q=>q=gx,[],0,0,0,hz.kp (Kp.of_below (S:=fun _=>False) b02) (fun _ _ h=>h),.live [] 0,[],TL,⟨⟨fun k=>k=g,⟨hb1.trans (b02.mono hb1.size),hq.below hb0,good_new,fun k e=>(by rw [e];omega),re_nil _,rt_nil _ _,fun k e=>(by cases e),fun k e=>(by cases e),fun k e=>(by cases e),Kp.refl _ _,fun k e=>.inl (.inr e),fun k e=>(by cases e),fun k e=>(by cases e)⟩,fun k e e'=>(by omega)⟩,fun k e e'=>(by cases e'),fun k e e'=>(by cases e'),fun k e=>(by omega),fun k e=>.inl (.inl e)⟩,⟨rfl,⟨E,a,hA,rfl,by simp⟩,by simp⟩⟩
def szS:List (Int × List Nd)→Nat
 |[]=>0
 | (_,c) :: S=>nszL c+1+szS S
theorem nszL_app (a b:List Nd):nszL (a++b)=nszL a+nszL b:=by
 induction a with
 |nil=>simp [nszL]
 |cons x r ih=>simp only [List.cons_append,nszL,ih];omega
theorem bld_nsz:∀(l:List Ev) (S:List (Int × List Nd)) (n:Nd),bld l S=some n→nsz n≤szS S+l.length
 |[],S,n,h=>by simp [bld] at h
 |x :: l,S,n,h=>by
  simp only [bld] at h
  by_cases h1:x.k=1
  ·rw [if_pos h1] at h
   split at h
   ·cases h
   ·have:=bld_nsz l _ n h
    simp only [szS,nszL,List.length_cons] at this ⊢
    omega
  ·rw [if_neg h1] at h
   by_cases h3:x.k=3
   ·rw [if_pos h3] at h
    cases S with
    |nil=>cases h
    |cons y S'=>
     obtain ⟨k,c⟩:=y
     simp only at h
     split at h
     ·cases S' with
      |nil=>
       simp only at h
       split at h
       ·cases h
        simp only [nsz,szS,List.length_cons]
        omega
       ·cases h
      |cons z S2=>
       obtain ⟨k',c'⟩:=z
       have:=bld_nsz l _ n h
       simp only [szS,nszL_app,nszL,nsz,List.length_cons] at this ⊢
       omega
     ·cases h
   ·rw [if_neg h3] at h
    split at h
    ·cases S with
     |nil=>cases h
     |cons y S'=>
      obtain ⟨k,c⟩:=y
      have:=bld_nsz l _ n h
      simp only [szS,nszL_app,nszL,nsz,List.length_cons] at this ⊢
      omega
    ·cases h
theorem fnd_len (s:ByteArray):∀(d a f:Nat),s.size-a≤d→(Lx.fnd s a f).1.length≤s.size-a
 |d,a,f,hd=>by
  by_cases h:a<s.size
  ·rw [Lx.fnd_step s a f h]
   cases d with
   |zero=>omega
   |succ d=>
    by_cases h1:Lx.by8 s a=10
    ·rw [if_pos h1];have:=fnd_len s d (a+1) (f+1) (by omega);omega
    ·rw [if_neg h1]
     by_cases h2:Lx.tkBl (Lx.by8 s a)=true
     ·rw [if_pos h2];have:=fnd_len s d (a+1) f (by omega);omega
     ·rw [if_neg h2]
      by_cases h3:Lx.tkBgn s a=0
      ·rw [if_pos h3];exact Nat.zero_le _
      ·rw [if_neg h3]
       by_cases h4:(Lx.tkEnd s a (Lx.tkBgn s a)).2≠0
       ·rw [if_pos h4];exact Nat.zero_le _
       ·rw [if_neg h4]
        have h5:=Lx.tkEnd_ok s a (Lx.tkBgn s a) (Lx.tkEnd s a (Lx.tkBgn s a)).1 h rfl h3 (Prod.ext rfl (by simpa using h4))
        have:=fnd_len s d (Lx.tkEnd s a (Lx.tkBgn s a)).1 0 (by omega)
        show (Lx.fnd s (Lx.tkEnd s a (Lx.tkBgn s a)).1 0).1.length+1≤_
        omega
  ·rw [Lx.fnd_end s a f (by omega)];exact Nat.zero_le _
theorem Cov_len {s:ByteArray}{Lk:List Lx.Tk}{E a:Nat}(h:Lx.scn s=(Lk,E,a)):Lk.length≤s.size:=by
 have:=fnd_len s s.size 0 0 (by omega)
 have e:(Lx.fnd s 0 0).1=Lk:=by show (Lx.scn s).1=Lk;rw [h]
 rw [e] at this
 omega
theorem TI.base {w:World}{g:Nat}{v1 v2:Value}{T:List Tv}{E:List Ev}{st:Pst}{S U:Nat→Prop}{w0 W:World}(h:TI w g v1 v2 T E st S U w0 W):TI w g v1 v2 T E st S (Us S v1 v2) W W:=
 ⟨h.bel,h.pq,h.gd,h.sB,h.re,h.rt,h.v2B,h.v1B,h.ne,Kp.refl _ _,fun k e=>.inl (.inl e),fun k e=>.inl (.inr (.inl e)),fun k e=>.inl (.inr (.inr e))⟩
theorem TI.us {w:World}{g:Nat}{v1 v2:Value}{T:List Tv}{E:List Ev}{st:Pst}{S U:Nat→Prop}{w0 W:World}(h:TI w g v1 v2 T E st S U w0 W):∀q,Us S v1 v2 q→q<W.heap.size:=fun q e=>by
 rcases e with e|e|e
 ·exact (h.sB q e).2
 ·exact h.rt.ownlt q e
 ·exact h.re.lt q e
end Go.Proofs.YtkigadnkclkopaaGreatDoor
