import Derived.Test.YtkigadnkclkopaaGreatDoorM28
set_option linter.unusedVariables false
set_option linter.unusedSimpArgs false
namespace Go.Proofs.YtkigadnkclkopaaGreatDoor
open Go.RowKit
section
variable {L:List Tv} {d:D}
theorem dead_nxt (he:d.e≠0):nxt L d=none:=by unfold nxt;rw [if_neg he]
theorem dead_tk (he:d.e≠0):tkD L false d=d:=by simp [tkD,he]
theorem dead_fl (he:d.e≠0) {x:Fl}(hx:∀m,x≠.mt m):Ib L (.fl x) d d:=by
 have h:=ib_tk (L:=L) (d:=d) hx
 have hq:qn L d (fun t=>x.takes t)=false:=by unfold qn;rw [dead_nxt he];rfl
 rw [hq,dead_tk he] at h
 exact h
theorem dead_wd (he:d.e≠0) {k:Int}{ts:List ByteArray}:Ib L (.fl (.wd k ts)) d d:=dead_fl he ne_wd
theorem dead_nm (he:d.e≠0):Ib L (.fl .nm) d d:=dead_fl he ne_nm
theorem dead_lv (he:d.e≠0) {n:Int}:Ib L (.lv n) d d:=by
 have h:=ib_lv (L:=L) (d:=d) (n:=n)
 rw [clD_dead he] at h
 exact h
theorem dead_pick (he:d.e≠0) {p:Pk}:dpick (nxt L d) p=none:=by rw [dead_nxt he];rfl
theorem dead_once (he:d.e≠0) {p:Pk}:Ib L (.once p) d d:=ib_once0 (dead_pick he)
theorem dead_again (he:d.e≠0) {p:Pk}:Ib L (.again p) d d:=ib_again0 (dead_pick he)
theorem rb_app {r s:List It}{d1 d2 d3:D}(h:Rb L r d1 d2) (h':Rb L s d2 d3):Rb L (r++s) d1 d3:=fun K=>by
 rw [List.append_assoc]
 exact (h (s++K)).trans (h' K)
theorem rb_one {i:It}{d1 d2:D}(h:Ib L i d1 d2):Rb L [i] d1 d2:=rb_cons h rb_nil
theorem dead_op (he:d.e≠0) {m:M}{nd:Int}{r:List It}(h:drow none m=.op nd r) (hr:Rb L r d d):Ib L (.fl (.mt m)) d d:=by
 refine ib_op (nd:=nd) (r:=r) (by rw [dead_nxt he];exact h) ?_
 rw [opD_dead he]
 exact rb_app hr (rb_one (dead_lv he))
theorem dead_ex (he:d.e≠0) {m:M}{r:List It}(h:drow none m=.ex r) (hr:Rb L r d d):Ib L (.fl (.mt m)) d d:=ib_ex (r:=r) (by rw [dead_nxt he];exact h) hr
theorem dead_ref (he:d.e≠0) {m:M}(h:drow none m=.ref):Ib L (.fl (.mt m)) d d:=by
 have:=ib_ref (L:=L) (d:=d) (m:=m) (by rw [dead_nxt he];exact h)
 rw [dead_tk he] at this
 exact this
theorem dead_mt (he:d.e≠0) (m:M):Ib L (.fl (.mt m)) d d:=by
 have w:∀k ts,Ib L (.fl (.wd k ts)) d d:=fun k ts=>dead_wd he
 have n:Ib L (.fl .nm) d d:=dead_nm he
 have a:∀p,Ib L (.again p) d d:=fun p=>dead_again he
 have o:∀p,Ib L (.once p) d d:=fun p=>dead_once he
 have factor:Ib L (.fl (.mt .factor)) d d:=dead_ref he rfl
 have statement:Ib L (.fl (.mt .statement)) d d:=dead_ref he rfl
 have kind:Ib L (.fl (.mt .kind)) d d:=dead_op he rfl (rb_one n)
 have term:Ib L (.fl (.mt .term)) d d:=dead_op he rfl (rb_cons factor (rb_one (a _)))
 have sum:Ib L (.fl (.mt .sum)) d d:=dead_op he rfl (rb_cons term (rb_one (a _)))
 have rel:Ib L (.fl (.mt .rel)) d d:=dead_op he rfl (rb_cons sum (rb_one (o _)))
 have expr:Ib L (.fl (.mt .expr)) d d:=dead_op he rfl (rb_cons rel (rb_one (a _)))
 have list:Ib L (.fl (.mt .list)) d d:=dead_ex he rfl (rb_cons expr (rb_one (a _)))
 have typed:Ib L (.fl (.mt .typed)) d d:=dead_ex he rfl (rb_cons n (rb_cons (a _) (rb_cons (w _ _) (rb_one kind))))
 have param:Ib L (.fl (.mt .param)) d d:=dead_op he rfl (rb_one typed)
 have body:Ib L (.fl (.mt .body)) d d:=dead_op he rfl (rb_cons statement (rb_one (a _)))
 have block:Ib L (.fl (.mt .block)) d d:=dead_op he rfl (rb_cons (a _) (rb_cons (w _ _) (rb_cons body (rb_one (w _ _)))))
 cases m with
 |block=>exact block
 |variables=>exact dead_op he rfl (rb_cons (w _ _) (rb_cons typed (rb_one (w _ _))))
 |constants=>exact dead_op he rfl (rb_cons (w _ _) (rb_cons n (rb_cons (w _ _) (rb_cons expr (rb_one (w _ _))))))
 |procedure=>exact dead_op he rfl (rb_cons (w _ _) (rb_cons n (rb_cons (o _) (rb_cons (o _) (rb_cons (w _ _) (rb_cons block (rb_one (w _ _))))))))
 |params=>exact dead_op he rfl (rb_cons (w _ _) (rb_cons param (rb_cons (a _) (rb_one (w _ _)))))
 |param=>exact param
 |typed=>exact typed
 |kind=>exact kind
 |member=>exact dead_op he rfl (rb_one typed)
 |body=>exact body
 |statement=>exact statement
 |expr=>exact expr
 |rel=>exact rel
 |sum=>exact sum
 |term=>exact term
 |factor=>exact factor
 |object=>exact dead_op he rfl (rb_cons n (rb_one (a _)))
 |index=>exact dead_op he rfl (rb_cons (w _ _) (rb_cons list (rb_one (w _ _))))
 |selection=>exact dead_op he rfl (rb_cons (w _ _) (rb_one n))
 |args=>exact dead_op he rfl (rb_cons (w _ _) (rb_cons (o _) (rb_one (w _ _))))
 |list=>exact list
theorem dead_fx (he:d.e≠0) (x:Fl):Ib L (.fl x) d d:=by
 cases x with
 |mt m=>exact dead_mt he m
 |wd k ts=>exact dead_wd he
 |nm=>exact dead_nm he
 |cs=>exact dead_fl he ne_cs
theorem dead_any (he:d.e≠0) (i:It):Ib L i d d:=by
 cases i with
 |fl x=>exact dead_fx he x
 |lv n=>exact dead_lv he
 |once p=>exact dead_once he
 |again p=>exact dead_again he
 |all r=>
  refine ib_all ?_
  induction r with
  |nil=>exact rb_nil
  |cons x r ih=>exact rb_cons (dead_fx he x) ih
theorem dead_rb (he:d.e≠0):∀(r:List It),Rb L r d d
 |[]=>rb_nil
 |i :: r=>rb_cons (dead_any he i) (dead_rb he r)
theorem ib_det {i:It}{d d1 d2:D}(h:Ib L i d d1) (h':Ib L i d d2):d1=d2:=by
 have:=(h []).det (h' [])
 cases this
 rfl
theorem tok_lt {x:Fl}(hx:∀m,x≠.mt m) {d':D}(h:Ib L (.fl x) d d') (he:d.e=0) (he':d'.e=0):ms L d' < ms L d:=by
 have h1:=ib_det h (ib_tk hx)
 have h2:=ms_tk (L:=L) (d:=d) (f:=fun t=>x.takes t) rfl
 rw [h1]
 refine h2.2 ?_
 unfold ms
 rw [if_pos he]
 omega
theorem rb_path {r:List It}{d':D}(hr:lvs r=[]) (h:Rb L r d d') (hl:d'.e=0):d.e=0∧d'.p=d.p:=by
 obtain ⟨h1,h2⟩:=rch_path (h []) hl
 obtain ⟨q,e1,e2⟩:=h2 d.p [] (by simp) (by rw [List.append_nil,hr];rfl)
 have:q=[]:=by simpa [lvs] using e2
 exact ⟨h1,by rw [e1,this];simp⟩
end
theorem key_ib {X:Sx}{r:Nat}{d:D}{W:World}(h:SD X r d W) (hr:r≤100) {s:ByteArray}(hz:has [s] ⟨#[]⟩=false) :
  Calls Tryz.prog 77 #[pg X.g,.string s] W fun e w'=>∃d',Ib (tks X.l) (.fl (.wd 2 [s])) d d'∧Out X (.tuple #[]) d' e w':=
 (key_sd h hr hz).mono (fun e w' ho=>⟨_,ib_w,ho⟩)
theorem sign_ib {X:Sx}{r:Nat}{d:D}{W:World}(h:SD X r d W) (hr:r≤100) {s:ByteArray}(hz:has [s] ⟨#[]⟩=false) :
  Calls Tryz.prog 79 #[pg X.g,.string s] W fun e w'=>∃d',Ib (tks X.l) (.fl (.wd 6 [s])) d d'∧Out X (.tuple #[]) d' e w':=
 (sign_sd h hr hz).mono (fun e w' ho=>⟨_,ib_w,ho⟩)
theorem name_ib {X:Sx}{r:Nat}{d:D}{W:World}(h:SD X r d W) (hr:r≤100) :
  Calls Tryz.prog 78 #[pg X.g] W fun e w'=>∃d',Ib (tks X.l) (.fl .nm) d d'∧Out X (.tuple #[]) d' e w':=
 (name_sd h hr).mono (fun e w' ho=>⟨_,ib_n,ho⟩)
def Mi (X:Sx) (r:Nat) (x:Fl) (d:D) (e:Ending) (w:World):Prop:=(qn (tks X.l) d (fun t=>x.takes t)=false∧e=.returned (.bool false)∧SD X r d w)∨(qn (tks X.l) d (fun t=>x.takes t)=true∧∃d',Ib (tks X.l) (.fl x) d d'∧Out X (.bool true) d' e w)
theorem Mb.mi {X:Sx}{r:Nat}{x:Fl}(hx:∀m,x≠.mt m) {d:D}{e:Ending}{w:World}(h:Mb X r x d e w):Mi X r x d e w:=h.imp id (fun h=>⟨h.1,_,ib_tk hx,h.2⟩)
theorem ls_new (W:World) (ts:List ByteArray):Ls (W.alloc (.cells (ts.map Value.string).toArray 9)) (some ⟨W.heap.size,0,none⟩) ts:=by
 intro j x hj
 refine ⟨_,_,rfl,blk_cell (new_at W _) ?_⟩
 simp [hj]
theorem maybeKey_ib {X:Sx}{r:Nat}{d:D}{W:World}(h:SD X r d W) (hr:r≤100) (ts:List ByteArray) (hn:ts.length≤1000) (hz:has ts ⟨#[]⟩=false) {n:Nat}(hnl:n=ts.length) {a:Array Value}(ha:a=(ts.map Value.string).toArray) :
  Calls Tryz.prog 111 #[pg X.g,.slice (some ⟨W.heap.size,0,none⟩) n n] (W.alloc (.cells a 9)) fun e w'=>Mi X r (.wd 2 ts) d e w':=by
 subst hnl ha
 exact (maybeKey_sd (h.below ((Below.refl _ _).alloc (Nat.le_refl _) _)) hr (ls_new W ts) hn hz).mono (fun e w' hm=>hm.mi ne_wd)
theorem maybeSign_ib {X:Sx}{r:Nat}{d:D}{W:World}(h:SD X r d W) (hr:r≤100) (ts:List ByteArray) (hn:ts.length≤1000) (hz:has ts ⟨#[]⟩=false) {n:Nat}(hnl:n=ts.length) {a:Array Value}(ha:a=(ts.map Value.string).toArray) :
  Calls Tryz.prog 113 #[pg X.g,.slice (some ⟨W.heap.size,0,none⟩) n n] (W.alloc (.cells a 9)) fun e w'=>Mi X r (.wd 6 ts) d e w':=by
 subst hnl ha
 exact (maybeSign_sd (h.below ((Below.refl _ _).alloc (Nat.le_refl _) _)) hr (ls_new W ts) hn hz).mono (fun e w' hm=>hm.mi ne_wd)
def RwC (f:Nat) (row:List It) (b n:Nat):Prop:=∀(X:Sx) (r:Nat) (d:D) (W:World),SD X r d W→r≤b→ms (tks X.l) d≤n →
 Calls Tryz.prog f #[pg X.g] W fun e w'=>∃d',Rb (tks X.l) row d d'∧Out X (.tuple #[]) d' e w'
theorem SD.op {X:Sx}{r:Nat}{d:D}{W W1:World}(h:SD X r d W) (nd:Int) (h1:SV X (ps X.l d.i) (d.p.length+1) (evX X d++[⟨1,nd,tv0⟩]) W1):SD X (r+1) (opD nd d) W1:=by
 have e:opD nd d={ d with p:=d.p++[(nd,d.s+1)],s:=d.s+1,v:=d.v++[⟨1,nd,tv0⟩] }:=by unfold opD;rw [if_pos h.e0]
 have ev:evX X (opD nd d)=evX X d++[⟨1,nd,tv0⟩]:=by
  rw [e]
  unfold evX
  simp only [tail_app h.v0,List.cons_append,List.append_assoc]
 have pl:(opD nd d).p.length=d.p.length+1:=by rw [e];simp
 refine ⟨?_,by rw [e];exact h.e0,by rw [e];exact h.il,by rw [e];exact h.nn,by rw [e];simp,?_,?_⟩
 ·rw [ev,pl]
  rw [e]
  exact h1
 ·have:=h.sm
  rw [e]
  show d.s+1≤100*d.i+(r+1)
  omega
 ·have:=h.el
  rw [ev,pl]
  rw [e]
  simp only [List.length_append,List.length_singleton]
  omega
theorem SD.cl {X:Sx}{r:Nat}{d:D}{W W1:World}(h:SD X r d W) (nd:Int) {n:Nat}(hp:d.p.length=n+1) (h1:SV X (ps X.l d.i) n (evX X d++[⟨3,nd,tv0⟩]) W1):SD X r (clD nd d) W1:=by
 have e:clD nd d={ d with p:=d.p.dropLast,v:=d.v++[⟨3,nd,tv0⟩] }:=by unfold clD;rw [if_pos h.e0]
 have ev:evX X (clD nd d)=evX X d++[⟨3,nd,tv0⟩]:=by
  rw [e]
  unfold evX
  simp only [tail_app h.v0,List.cons_append,List.append_assoc]
 have pl:(clD nd d).p.length=n:=by rw [e];simp [hp]
 refine ⟨?_,by rw [e];exact h.e0,by rw [e];exact h.il,by rw [e];exact h.nn,by rw [e];simp,?_,?_⟩
 ·rw [ev,pl]
  rw [e]
  exact h1
 ·rw [e]
  exact h.sm
 ·have:=h.el
  rw [ev,pl]
  rw [e]
  simp only [List.length_append,List.length_singleton]
  omega
theorem node_rb {X:Sx}{r:Nat}{d:D}{W:World}(h:SD X r d W) (nd:Int) {b:Nat}(hr:r+1≤b) (hb:b≤100) {f:Nat}{row:List It}(hrc:∀W1,SD X (r+1) (opD nd d) W1→Calls Tryz.prog f #[pg X.g] W1 fun e w'=>∃d',Rb (tks X.l) row (opD nd d) d'∧Out X (.tuple #[]) d' e w') (hf:Entr f) (hlv:lvs row=[]) :
  Calls Tryz.prog 32 #[pg X.g,.int .u8 nd,fv f X.g] W fun e w'=>∃d',Rb (tks X.l) (row++[.lv nd]) (opD nd d) d'∧Out X (.tuple #[]) d' e w':=by
 have hlen:=h.len (by omega)
 have hel:=h.el
 have hsm:=h.sm
 have hil:=h.il
 have h4:=tks_le X.l
 have h5:=h.sv.hl
 have h6:=ps_le X.l d.i
 refine node_raw h.sv (by omega) (by omega) nd hf ?_
 intro W1 h1
 have hop:=h.op nd h1
 refine (hrc W1 hop).mono ?_
 rintro e w' ⟨d1,i1,ho⟩
 rcases ho with ⟨z,rfl,h2⟩|⟨z,rfl,h2⟩
 ·obtain ⟨_,hp⟩:=rb_path hlv i1 z
  have hp2:d1.p.length=d.p.length+1:=by
   rw [hp]
   unfold opD
   rw [if_pos h.e0]
   simp
  have hlen2:=h2.len (by omega)
  refine .inl ⟨rfl,_,d.p.length,_,by rw [←hp2];exact h2.sv,by omega,by omega,fun w2 h3=>⟨clD nd d1,rb_app i1 (rb_one ib_lv),.inl ⟨by rw [clD_live];exact z,rfl,h2.cl nd hp2 h3⟩⟩⟩
 ·exact .inr ⟨_,rfl,d1,rb_app i1 (rb_one (dead_lv z)),.inr ⟨z,rfl,h2⟩⟩
theorem node_ib {X:Sx}{r:Nat}{d:D}{W:World}(h:SD X r d W) {b n:Nat}(hr:r+1≤b) (hb:b≤100) (hm:ms (tks X.l) d≤n) {f:Nat}{row:List It}(hrc:RwC f row b n) (hf:Entr f) (hlv:lvs row=[]) {nd:Int}{i:It}(hop:∀d',Rb (tks X.l) (row++[.lv nd]) (opD nd d) d'→Ib (tks X.l) i d d') :
  Calls Tryz.prog 32 #[pg X.g,.int .u8 nd,fv f X.g] W fun e w'=>∃d',Ib (tks X.l) i d d'∧Out X (.tuple #[]) d' e w':=
 (node_rb h nd hr hb (fun W1 h1=>hrc X (r+1) (opD nd d) W1 h1 hr (by rw [ms_op];exact hm)) hf hlv).mono (fun e w' ⟨d',h1,h2⟩=>⟨d',hop d' h1,h2⟩)
def RwA (X:Sx) (f:Nat) (row:List It) (n:Nat) (d:D):Prop:=∀(r:Nat) (W:World),SD X r d W→r≤90→ms (tks X.l) d≤n →
 Calls Tryz.prog f #[pg X.g] W fun e w'=>∃d',Rb (tks X.l) row d d'∧Out X (.tuple #[]) d' e w'
def Pick (X:Sx) (m:M) (n:Nat) (d:D) (u v:Value):Prop:=
 (∃nd f row,u=.int .u8 nd∧v=fv f X.g∧Entr f∧lvs row=[]∧RwA X f row n (opD nd d)∧∀d',Rb (tks X.l) (row++[.lv nd]) (opD nd d) d'→Ib (tks X.l) (.fl (.mt m)) d d') ∨
 (u=.int .u8 0∧v=.nilFunc∧∃d',Ib (tks X.l) (.fl (.mt m)) d d'∧d'.e=(tkD (tks X.l) false d).e∧d'.i=d.i)
theorem feql_nil (w:World):(binOp .eql 1 .nilFunc .nilFunc).run Tryz.prog w=.ok (.bool true) w:=by kernel_rfl
theorem feql_fn (f g:Nat) (w:World):(binOp .eql 1 (fv f g) .nilFunc).run Tryz.prog w=.ok (.bool false) w:=by kernel_rfl
theorem fneq_nil (w:World):(binOp .neq 1 .nilFunc .nilFunc).run Tryz.prog w=.ok (.bool false) w:=by kernel_rfl
theorem fneq_fn (f g:Nat) (w:World):(binOp .neq 1 (fv f g) .nilFunc).run Tryz.prog w=.ok (.bool true) w:=by kernel_rfl
set_option maxHeartbeats 1000000 in
theorem one_pick {X:Sx}{r:Nat}{d:D}{W:World}(h:SD X r d W) (hr:r+1≤90) {n:Nat}(hm:ms (tks X.l) d≤n) {m:M}{u v:Value}(hp:Pick X m n d u v) :
  Calls Tryz.prog 137 #[pg X.g,u,v] W fun e w'=>∃d',Ib (tks X.l) (.fl (.mt m)) d d'∧Out X (.tuple #[]) d' e w':=by
 rcases hp with ⟨nd,f,row,rfl,rfl,hf,hlv,hrc,hop⟩|⟨rfl,rfl,d',h1,h2,h3⟩
 ·have HN:Hid (Calls Tryz.prog 32 #[pg X.g,.int .u8 nd,fv f X.g] W fun e w'=>∃d',Ib (tks X.l) (.fl (.mt m)) d d'∧Out X (.tuple #[]) d' e w'):=(node_rb h nd hr (by omega) (fun W1 h1=>hrc (r+1) W1 h1 hr (by rw [ms_op];exact hm)) hf hlv).mono (fun e w' ⟨d',h1,h2⟩=>⟨d',hop d' h1,h2⟩)
  have hef:=feql_fn f X.g
  clear h hrc hop hf
  go_enter Tryz.func137,Tryz.ntmps137
  go_wp2_with fail
  refine HN.out.mono ?_
  rintro e w1 ⟨d1,i1,⟨z,rfl,h1⟩|⟨z,rfl,h1⟩⟩
  ·have HX:Hid (∃d',Ib (tks X.l) (.fl (.mt m)) d d'∧Out X (.tuple #[]) d' (.returned (.tuple #[])) w1):=⟨d1,i1,.inl ⟨z,rfl,h1⟩⟩
   clear i1 z h1
   go_wp2_with fail
   go_end0
   exact HX.out
  ·have HX:Hid (∃d',Ib (tks X.l) (.fl (.mt m)) d d'∧Out X (.tuple #[]) d' (.panicked (stop d1.e (ps X.l d1.i))) w1):=⟨d1,i1,.inr ⟨z,rfl,h1⟩⟩
   clear i1 z h1
   go_wp2_with fail
   exact ⟨rfl,HX.out⟩
 ·have HR:Hid (Calls Tryz.prog 81 #[pg X.g] W fun e w'=>∃c,e=.panicked c∧∃d',Ib (tks X.l) (.fl (.mt m)) d d'∧Out X (.tuple #[]) d' (.panicked c) w'):=(refuse_sd h (.tuple #[])).mono (fun e w' ⟨_,a,b,c⟩=>by
   have hi:(tkD (tks X.l) false d).i=d.i:=by unfold tkD;simp only [Bool.false_eq_true,if_false];(repeat' split) <;> rfl
   refine ⟨_,b,d',h1,.inr ⟨by rw [h2];exact a,by rw [h2,h3,hi],c⟩⟩)
  have hef:=feql_nil
  clear h h1 h2 h3
  go_enter Tryz.func137,Tryz.ntmps137
  go_wp2_with fail
  refine HR.out.mono ?_
  rintro e w1 ⟨c,rfl,hx⟩
  have HX:=hid hx
  clear hx
  go_wp2_with fail
  exact ⟨rfl,HX.out⟩
abbrev gr_block:List It:=[.again (.fn .declaration),.fl (.wd 2 [⟨#[98,101,103,105,110]⟩]),.fl (.mt .body),.fl (.wd 2 [⟨#[101,110,100]⟩])]
abbrev gr_variables:List It:=[.fl (.wd 2 [⟨#[118,97,114]⟩]),.fl (.mt .typed),.fl (.wd 6 [⟨#[59]⟩])]
abbrev gr_constant:List It:=[.fl (.wd 2 [⟨#[99,111,110,115,116]⟩]),.fl .nm,.fl (.wd 6 [⟨#[61]⟩]),.fl (.mt .expr),.fl (.wd 6 [⟨#[59]⟩])]
abbrev gr_procedure:List It:=[.fl (.wd 2 [⟨#[112,114,111,99]⟩]),.fl .nm,.once (.fn .bracket),.once (.row [.wd 6 [⟨#[58]⟩],.mt .kind]),.fl (.wd 6 [⟨#[59]⟩]),.fl (.mt .block),.fl (.wd 6 [⟨#[59]⟩])]
abbrev gr_params:List It:=[.fl (.wd 6 [⟨#[40]⟩]),.fl (.mt .param),.again (.row [.wd 6 [⟨#[59]⟩],.mt .param]),.fl (.wd 6 [⟨#[41]⟩])]
abbrev gr_typed:List It:=[.fl .nm,.again (.row [.wd 6 [⟨#[44]⟩],.nm]),.fl (.wd 6 [⟨#[58]⟩]),.fl (.mt .kind)]
abbrev gr_array:List It:=[.fl (.wd 2 [⟨#[97,114,114,97,121]⟩]),.fl (.wd 6 [⟨#[91]⟩]),.fl (.mt .expr),.fl (.wd 6 [⟨#[46,46]⟩]),.fl (.mt .expr),.fl (.wd 6 [⟨#[93]⟩]),.fl (.wd 2 [⟨#[111,102]⟩]),.fl (.mt .kind)]
abbrev gr_record:List It:=[.fl (.wd 2 [⟨#[114,101,99,111,114,100]⟩]),.fl (.mt .member),.again (.row [.wd 6 [⟨#[59]⟩],.mt .member]),.fl (.wd 2 [⟨#[101,110,100]⟩])]
abbrev gr_body:List It:=[.fl (.mt .statement),.again (.row [.wd 6 [⟨#[59]⟩],.mt .statement])]
abbrev gr_skip:List It:=[.fl (.wd 2 [⟨#[115,107,105,112]⟩])]
abbrev gr_act:List It:=[.fl (.mt .object),.once (.row [.wd 6 [⟨#[58,61]⟩],.mt .expr])]
abbrev gr_branch:List It:=[.fl (.mt .expr),.fl (.wd 2 [⟨#[116,104,101,110]⟩]),.fl (.mt .body)]
abbrev gr_done:List It:=[.fl (.wd 2 [⟨#[100,111]⟩]),.fl (.mt .body),.fl (.wd 2 [⟨#[101,110,100]⟩])]
abbrev gr_branches:List It:=[.fl (.wd 2 [⟨#[105,102]⟩]),.fl (.mt .expr),.fl (.wd 2 [⟨#[116,104,101,110]⟩]),.fl (.mt .body),.again (.row [.wd 2 [⟨#[101,108,105,102]⟩],.mt .expr,.wd 2 [⟨#[116,104,101,110]⟩],.mt .body]),.once (.row [.wd 2 [⟨#[101,108,115,101]⟩],.mt .body]),.fl (.wd 2 [⟨#[101,110,100]⟩])]
abbrev gr_while:List It:=[.fl (.wd 2 [⟨#[119,104,105,108,101]⟩]),.fl (.mt .expr),.fl (.wd 2 [⟨#[100,111]⟩]),.fl (.mt .body),.fl (.wd 2 [⟨#[101,110,100]⟩])]
abbrev gr_count:List It:=[.fl (.wd 2 [⟨#[102,111,114]⟩]),.fl .nm,.fl (.wd 6 [⟨#[58,61]⟩]),.fl (.mt .expr),.fl (.wd 2 [⟨#[116,111]⟩]),.fl (.mt .expr),.fl (.wd 2 [⟨#[100,111]⟩]),.fl (.mt .body),.fl (.wd 2 [⟨#[101,110,100]⟩])]
abbrev gr_repeat:List It:=[.fl (.wd 2 [⟨#[114,101,112,101,97,116]⟩]),.fl (.mt .body),.fl (.wd 2 [⟨#[117,110,116,105,108]⟩]),.fl (.mt .expr)]
abbrev gr_answer:List It:=[.fl (.wd 2 [⟨#[114,101,116,117,114,110]⟩]),.once (.ex .expr)]
abbrev gr_compound:List It:=[.fl (.wd 2 [⟨#[98,101,103,105,110]⟩]),.fl (.mt .body),.fl (.wd 2 [⟨#[101,110,100]⟩])]
abbrev gr_expr:List It:=[.fl (.mt .rel),.again (.row [.wd 2 [⟨#[97,110,100]⟩,⟨#[111,114]⟩],.mt .rel])]
abbrev gr_rel:List It:=[.fl (.mt .sum),.once (.row [.wd 6 [⟨#[61]⟩,⟨#[35]⟩,⟨#[60]⟩,⟨#[60,61]⟩,⟨#[62]⟩,⟨#[62,61]⟩],.mt .sum])]
abbrev gr_sum:List It:=[.fl (.mt .term),.again (.row [.wd 6 [⟨#[43]⟩,⟨#[45]⟩],.mt .term])]
abbrev gr_term:List It:=[.fl (.mt .factor),.again (.row [.wd 6 [⟨#[42]⟩,⟨#[47]⟩,⟨#[37]⟩],.mt .factor])]
abbrev gr_minus:List It:=[.fl (.wd 6 [⟨#[45]⟩]),.fl (.mt .factor)]
abbrev gr_not:List It:=[.fl (.wd 2 [⟨#[110,111,116]⟩]),.fl (.mt .factor)]
abbrev gr_group:List It:=[.fl (.wd 6 [⟨#[40]⟩]),.fl (.mt .expr),.fl (.wd 6 [⟨#[41]⟩])]
abbrev gr_object:List It:=[.fl .nm,.again (.fn .detail)]
abbrev gr_list:List It:=[.fl (.mt .expr),.again (.row [.wd 6 [⟨#[44]⟩],.mt .expr])]
abbrev gr_index:List It:=[.fl (.wd 6 [⟨#[91]⟩]),.fl (.mt .list),.fl (.wd 6 [⟨#[93]⟩])]
abbrev gr_selection:List It:=[.fl (.wd 6 [⟨#[46]⟩]),.fl .nm]
abbrev gr_args:List It:=[.fl (.wd 6 [⟨#[40]⟩]),.once (.ex .list),.fl (.wd 6 [⟨#[41]⟩])]
theorem en_block:Entr 80:=enters_of Tryz.func80 (by kernel_rfl) rfl
theorem en_variables:Entr 134:=enters_of Tryz.func134 (by kernel_rfl) rfl
theorem en_constant:Entr 135:=enters_of Tryz.func135 (by kernel_rfl) rfl
theorem en_procedure:Entr 136:=enters_of Tryz.func136 (by kernel_rfl) rfl
theorem en_params:Entr 162:=enters_of Tryz.func162 (by kernel_rfl) rfl
theorem en_typed:Entr 160:=enters_of Tryz.func160 (by kernel_rfl) rfl
theorem en_array:Entr 184:=enters_of Tryz.func184 (by kernel_rfl) rfl
theorem en_record:Entr 185:=enters_of Tryz.func185 (by kernel_rfl) rfl
theorem en_body:Entr 115:=enters_of Tryz.func115 (by kernel_rfl) rfl
theorem en_skip:Entr 165:=enters_of Tryz.func165 (by kernel_rfl) rfl
theorem en_act:Entr 164:=enters_of Tryz.func164 (by kernel_rfl) rfl
theorem en_branches:Entr 166:=enters_of Tryz.func166 (by kernel_rfl) rfl
theorem en_while:Entr 167:=enters_of Tryz.func167 (by kernel_rfl) rfl
theorem en_count:Entr 168:=enters_of Tryz.func168 (by kernel_rfl) rfl
theorem en_repeat:Entr 169:=enters_of Tryz.func169 (by kernel_rfl) rfl
theorem en_answer:Entr 170:=enters_of Tryz.func170 (by kernel_rfl) rfl
theorem en_compound:Entr 171:=enters_of Tryz.func171 (by kernel_rfl) rfl
theorem en_expr:Entr 161:=enters_of Tryz.func161 (by kernel_rfl) rfl
theorem en_rel:Entr 183:=enters_of Tryz.func183 (by kernel_rfl) rfl
theorem en_sum:Entr 200:=enters_of Tryz.func200 (by kernel_rfl) rfl
theorem en_term:Entr 207:=enters_of Tryz.func207 (by kernel_rfl) rfl
theorem en_minus:Entr 212:=enters_of Tryz.func212 (by kernel_rfl) rfl
theorem en_not:Entr 211:=enters_of Tryz.func211 (by kernel_rfl) rfl
theorem en_group:Entr 213:=enters_of Tryz.func213 (by kernel_rfl) rfl
theorem en_object:Entr 186:=enters_of Tryz.func186 (by kernel_rfl) rfl
theorem en_index:Entr 208:=enters_of Tryz.func208 (by kernel_rfl) rfl
theorem en_selection:Entr 209:=enters_of Tryz.func209 (by kernel_rfl) rfl
theorem en_args:Entr 210:=enters_of Tryz.func210 (by kernel_rfl) rfl
theorem en_name:Entr 78:=enters_of Tryz.func78 (by kernel_rfl) rfl
theorem en_take:Entr 158:=enters_of Tryz.func158 (by kernel_rfl) rfl
theorem rw_typed {b n:Nat}(h:RwC 160 gr_typed b n):RwC 160 [.fl (.mt .typed)] b n:=fun X r d W hs hr hm=>(h X r d W hs hr hm).mono (fun e w' ⟨d',h1,h2⟩=>⟨d',rb_one (ib_ex rfl h1),h2⟩)
theorem rw_name (n:Nat):RwC 78 [.fl .nm] 90 n:=fun X r d W hs hr hm=>(name_ib hs (by omega)).mono (fun e w' ⟨d',h1,h2⟩=>⟨d',rb_one h1,h2⟩)
def mW (X:Sx) (W:World):Nat:=(tks (X.l.drop (atC X.g W))).length
theorem tks_drop:∀(l:List Tv) (i:Nat),tks (l.drop (ps l i))=(tks l).drop i
 |[],i=>by simp [tks,ps]
 |t :: r,i=>by
  cases h:cmm t with
  |true=>rw [toks_c h,ps_c h,List.drop_succ_cons];exact tks_drop r i
  |false=>
   cases i with
   |zero=>rw [ps_t0 h];rfl
   |succ i=>rw [toks_t h,ps_t h,List.drop_succ_cons,List.drop_succ_cons];exact tks_drop r i
theorem mW_is {X:Sx}{r:Nat}{d:D}{W:World}(h:SD X r d W):mW X W=(tks X.l).length-d.i:=by
 obtain ⟨ve,hs,_,_⟩:=h.sv.ex
 unfold mW
 rw [atC_is hs.cells.2.1]
 simp [tks_drop]
theorem mw_lt {X:Sx}{r r':Nat}{d d':D}{W W':World}(h:SD X r d W) (h':SD X r' d' W') (hl:ms (tks X.l) d' < ms (tks X.l) d):mW X W' < mW X W:=by
 rw [mW_is h,mW_is h']
 unfold ms at hl
 rw [if_pos h.e0,if_pos h'.e0] at hl
 have:=h'.il
 omega
def PC (m:M) (f n:Nat):Prop:=∀(X:Sx) (r:Nat) (d:D) (W:World),SD X r d W →
 Calls Tryz.prog f #[pg X.g] W fun e w'=>∃u v,e=.returned (.tuple #[u,v])∧Pick X m n d u v∧Below W.heap.size W w'
def PickD (X:Sx) (k:Dk) (n:Nat) (d:D) (u v:Value):Prop:=
 (∃nd f row i,u=.int .u8 nd∧v=fv f X.g∧Entr f∧lvs row=[]∧RwC f row 90 n∧dpick (nxt (tks X.l) d) (.fn k)=some i∧∀d',Rb (tks X.l) (row++[.lv nd]) (opD nd d) d'→Ib (tks X.l) i d d') ∨
 (u=.int .u8 0∧v=.nilFunc∧dpick (nxt (tks X.l) d) (.fn k)=none)
def PD (k:Dk) (f n:Nat):Prop:=∀(X:Sx) (r:Nat) (d:D) (W:World),SD X r d W →
 Calls Tryz.prog f #[pg X.g] W fun e w'=>∃u v,e=.returned (.tuple #[u,v])∧PickD X k n d u v∧Below W.heap.size W w'
theorem dpick_fn (o:Option Tv) (k:Dk):dpick o (.fn k)=if (o.getD tv0).k == k.kd then (k.pick (o.getD tv0)).map (fun m=>.fl (.mt m)) else none:=by
 cases o with
 |none=>cases k <;> rfl
 |some t=>rfl
theorem dpick_ex (o:Option Tv) (m:M):dpick o (.ex m)=if facN (o.getD tv0) == 0 then none else some (.fl (.mt m)):=by
 cases o with
 |none=>rfl
 |some t=>rfl
theorem drow_factor (o:Option Tv):drow o .factor=M.row (o.getD tv0) .factor:=by
 cases o with
 |none=>rfl
 |some t=>rfl
theorem kt_is (k:Int) (t:Tv) {l:List UInt8}(hl:l≠[]):((kt k t).toList == l)=(t.k == k && t.is l):=by
 unfold kt Tv.is
 cases h:(t.k == k) with
 |true=>simp
 |false=>
  have e:(ByteArray.mk #[]).toList=[]:=by decide +kernel
  simp only [Bool.false_eq_true,if_false,e,Bool.false_and]
  cases l with
  |nil=>exact absurd rfl hl
  |cons a l=>rfl
theorem br_yes {X:Sx}{r:Nat}{d:D}{W:World}(h:SD X r d W) {a:ByteArray}(ea:kt 6 (nx X (ps X.l d.i))=a) (hq:(a.toList == [40])=true):dpick (nxt (tks X.l) d) (.fn .bracket)=some (.fl (.mt .params)):=by
 rw [←ea,kt_is 6 _ (by simp),Bool.and_eq_true] at hq
 rw [dpick_fn,←h.hnx]
 simp [Dk.kd,Dk.pick,hq.2,show ((nx X (ps X.l d.i)).k == 6)=true from hq.1]
theorem br_no {X:Sx}{r:Nat}{d:D}{W:World}(h:SD X r d W) {a:ByteArray}(ea:kt 6 (nx X (ps X.l d.i))=a) (hq:(a.toList == [40])=false):dpick (nxt (tks X.l) d) (.fn .bracket)=none:=by
 rw [←ea,kt_is 6 _ (by simp)] at hq
 rw [dpick_fn,←h.hnx]
 cases h6:((nx X (ps X.l d.i)).k == 6) with
 |false=>simp [Dk.kd,h6]
 |true=>
  rw [h6,Bool.true_and] at hq
  simp [Dk.kd,Dk.pick,hq]
theorem row_less {L:List Tv}{m:M}{nd:Int}{x:Fl}{rest:List It}{d d':D}(hd:drow (nxt L d) m=.op nd (.fl x :: rest)) (hx:∀m,x≠.mt m) (h:Ib L (.fl (.mt m)) d d') (he:d.e=0) (he':d'.e=0):ms L d' < ms L d:=by
 have h1:=h []
 have h2:Rch L [.fl (.mt m)] d (.fl x :: (rest++[.lv nd])) (opD nd d):=by
  refine .step ?_
  have e:dst L (.fl (.mt m)) d=((.fl x :: rest)++[.lv nd],opD nd d):=by simp only [dst,hd]
  rw [e]
  simp only [List.cons_append,List.append_nil]
  exact .refl
 have h3:Rch L [.fl (.mt m)] d (rest++[.lv nd]) (tkI L x (opD nd d)):=h2.trans (ib_tk hx _)
 have h4:=rch_ms (h3.det h1)
 have h5:=(ms_tkI (L:=L) (x:=x) (d:=opD nd d)).2 (by
  rw [ms_op]
  unfold ms
  rw [if_pos he]
  omega)
 rw [ms_op] at h5
 omega
theorem pick_lt {L:List Tv}{k:Dk}{i:It}{d d':D}(hp:dpick (nxt L d) (.fn k)=some i) (h:Ib L i d d') (he:d.e=0) (he':d'.e=0):ms L d' < ms L d:=by
 rw [dpick_fn] at hp
 split at hp
 ·simp only [Option.map_eq_some_iff] at hp
  obtain ⟨m,hm,rfl⟩:=hp
  rcases dk_pick hm with rfl|rfl|rfl|rfl|rfl|rfl|rfl <;> exact row_less rfl ne_wd h he he'
 ·cases hp
def facW (g:Nat) (t:Tv):Value:=if facN t == 25 then fv 212 g else if facN t == 26 then fv 211 g else if facN t == 27 then fv 213 g else if facN t == 32 then fv 158 g else if facN t == 28 then fv 186 g else .nilFunc
set_option maxHeartbeats 2000000 in
theorem factor_any {X:Sx}{r:Nat}{d:D}{W:World}(h:SD X r d W) :
  Calls Tryz.prog 202 #[pg X.g] W fun e w'=>e=.returned (.tuple #[.int .u8 (facN (nx X (ps X.l d.i))),facW X.g (nx X (ps X.l d.i))])∧Below W.heap.size W w':=by
 have HK:Hid (Calls Tryz.prog 110 #[pg X.g] W fun e w'=>e=.returned (nx X (ps X.l d.i)).v∧Below W.heap.size W w'):=snext_any h.sv (ps_le _ _)
 clear h
 generalize nx X (ps X.l d.i)=t at *
 have hmf:∀(fn:Fn) (first cap:Array Value) (w:World),(Instr.makeFunc fn first cap).run Tryz.prog w=.ok (.func fn first cap) w:=fun _ _ _ _=>rfl
 obtain ⟨uv,hu⟩:∃uv,(.tuple #[.int .u8 (facN t),facW X.g t]:Value)=uv:=⟨_,rfl⟩
 have HU:=hid hu
 rw [hu]
 clear hu
 have HB:Hid (∀w1,Below W.heap.size W w1→Below W.heap.size W (w1.alloc (TokB t))):=fun w1 hb=>hb.alloc hb.size _
 dsimp only [Tv.v] at HK
 go_enter Tryz.func202,Tryz.ntmps202
 go_wp2_with (go_at_call 110;refine HK.out.mono ?_;rintro e w1 ⟨rfl,hb1⟩;have HB1:=show Hid _ from HB.out _ hb1;clear hb1)
 all_goals (
  go_ret2
  refine ⟨?_,HB1.out⟩
  rw [←HU.out]
  clear HU HK HB HB1 hmf
  simp_all [facN,facW,Tv.is])
end Go.Proofs.YtkigadnkclkopaaGreatDoor
