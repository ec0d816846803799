import Derived.ScopeJumps
import Derived.Test.YtcmbkeghnmgbfaaGreatDoorM36
set_option linter.all false
set_option maxHeartbeats 4000000
namespace Go.Proofs.YtcmbkeghnmgbfaaGreatDoor
open Go.Proofs.Tryz
open Go.RowKit
variable {W w W':World}{n:Int}{K:List It}{g k:Nat}{vs vt:Value}{E:List Ev}{t:Tv}{i:It}{a:Act}
def Ip (g:Nat) (D:Nat->Prop) (vs vt:Value) (W:World) (n:Int) (K:List It) (E:List Ev) (e:Ending) (w':World):Sr->Prop
 |.tk=>e=.returned (.int .i64 2)/\Below W.heap.size W w'
 |.ref=>e=.returned (.int .i64 0)/\Below W.heap.size W w'
 |.go d o r=>e=.returned (.int .i64 1)/\ay g D vs vt W w' (n+d) (r++K) (E++o)
theorem bw {g:Nat}{D:Nat->Prop}{vs vt:Value}{W:World}{n:Int}{K:List It}{E:List Ev}{e:Ending}{w':World}{t:Tv}{m:M}(h:bq g D vs vt W n K E e w' (M.row t m)):Ip g D vs vt W n K E e w' (It.step t (.fl (.mt m))):=by
 show Ip g D vs vt W n K E e w' (M.row t m).sr
 cases u:M.row t m with
 |ref=>rw[u]at h;exact h
 |ex r=>rw[u]at h;simpa[Ip,bq,Gw.sr]using h
 |op nd r=>rw[u]at h;simpa[Ip,bq,Gw.sr]using h
theorem ua {D:Nat->Prop}{w':World}{b:Bool}(u:Kc W w'):Ip g D vs vt W n K E (.returned (.int .i64 (dd b))) w' (if b then .tk else .ref):=by
 cases b
 ·exact⟨rfl,u⟩
 ·exact⟨rfl,u⟩
theorem wT {D:Nat->Prop}(h:eG g D W n K E vs vt) {v:Value}{i:It}(J:jG g D W v i) (t:Tv) :
  ∃f I H,v=.func (.func f) I H/\Is f/\Kb f (I.push t.v++H) W fun e w'=>Ip g D vs vt W n K E e w' (It.step t i):=by
 cases J with
 |fl hx=>
  cases hx with
  |wd hl hd hn=>
   refine⟨_,_,_,rfl,enters_of func137 (by kernel_rfl) rfl,(mR _ _ _ _ t W hl hn).mono ?_⟩;rintro e w'⟨rfl,G⟩;exact ua G
  |nm=>
   refine⟨_,_,_,rfl,enters_of func94 (by kernel_rfl) rfl,(AM t W).mono ?_⟩;rintro e w'⟨rfl,G⟩;exact ua G
  |cs=>
   refine⟨_,_,_,rfl,enters_of func307 (by kernel_rfl) rfl,(iP t W).mono ?_⟩;rintro e w'⟨rfl,G⟩;exact ua G
  |mt m=>
   cases m with
   |block=>exact⟨_,_,_,rfl,enters_of func96 (by kernel_rfl) rfl,(Cl h t).mono (fun e w' u=>bw (m:=.block) u)⟩
   |variables=>exact⟨_,_,_,rfl,enters_of func176 (by kernel_rfl) rfl,(nM h t).mono (fun e w' u=>bw (m:=.variables) u)⟩
   |constants=>exact⟨_,_,_,rfl,enters_of func177 (by kernel_rfl) rfl,(o6 h t).mono (fun e w' u=>bw (m:=.constants) u)⟩
   |procedure=>exact⟨_,_,_,rfl,enters_of func178 (by kernel_rfl) rfl,(ol h t).mono (fun e w' u=>bw (m:=.procedure) u)⟩
   |params=>exact⟨_,_,_,rfl,enters_of func278 (by kernel_rfl) rfl,(xt h t).mono (fun e w' u=>bw (m:=.params) u)⟩
   |param=>exact⟨_,_,_,rfl,enters_of func297 (by kernel_rfl) rfl,(AA h t).mono (fun e w' u=>bw (m:=.param) u)⟩
   |typed=>exact⟨_,_,_,rfl,enters_of func234 (by kernel_rfl) rfl,(zh h t).mono (fun e w' u=>bw (m:=.typed) u)⟩
   |kind=>exact⟨_,_,_,rfl,enters_of func239 (by kernel_rfl) rfl,(Em h t).mono (fun e w' u=>bw (m:=.kind) u)⟩
   |member=>exact⟨_,_,_,rfl,enters_of func279 (by kernel_rfl) rfl,(xw h t).mono (fun e w' u=>bw (m:=.member) u)⟩
   |body=>exact⟨_,_,_,rfl,enters_of func141 (by kernel_rfl) rfl,(Fi h t).mono (fun e w' u=>bw (m:=.body) u)⟩
   |statement=>exact⟨_,_,_,rfl,enters_of func179 (by kernel_rfl) rfl,(nS h t).mono (fun e w' u=>bw (m:=.statement) u)⟩
   |expr=>exact⟨_,_,_,rfl,enters_of func235 (by kernel_rfl) rfl,(EK h t).mono (fun e w' u=>bw (m:=.expr) u)⟩
   |rel=>exact⟨_,_,_,rfl,enters_of func277 (by kernel_rfl) rfl,(GH h t).mono (fun e w' u=>bw (m:=.rel) u)⟩
   |sum=>exact⟨_,_,_,rfl,enters_of func296 (by kernel_rfl) rfl,(Gv h t).mono (fun e w' u=>bw (m:=.sum) u)⟩
   |term=>exact⟨_,_,_,rfl,enters_of func305 (by kernel_rfl) rfl,(Dm h t).mono (fun e w' u=>bw (m:=.term) u)⟩
   |factor=>exact⟨_,_,_,rfl,enters_of func309 (by kernel_rfl) rfl,(yy h t).mono (fun e w' u=>bw (m:=.factor) u)⟩
   |object=>exact⟨_,_,_,rfl,enters_of func240 (by kernel_rfl) rfl,(xv h t).mono (fun e w' u=>bw (m:=.object) u)⟩
   |index=>exact⟨_,_,_,rfl,enters_of func298 (by kernel_rfl) rfl,(A9 h t).mono (fun e w' u=>bw (m:=.index) u)⟩
   |selection=>exact⟨_,_,_,rfl,enters_of func299 (by kernel_rfl) rfl,(nX h t).mono (fun e w' u=>bw (m:=.selection) u)⟩
   |args=>exact⟨_,_,_,rfl,enters_of func300 (by kernel_rfl) rfl,(Fv h t).mono (fun e w' u=>bw (m:=.args) u)⟩
   |list=>exact⟨_,_,_,rfl,enters_of func306 (by kernel_rfl) rfl,(Ei h t).mono (fun e w' u=>bw (m:=.list) u)⟩
 |lv nd=>
  refine⟨_,_,_,rfl,enters_of func136 (by kernel_rfl) rfl,(AW h.1 nd t h.2.1 h.2.2.1 h.2.2.2.2).mono ?_⟩;rintro e w'⟨rfl,F⟩;exact⟨rfl,F⟩
 |once hp=>
  refine⟨_,_,_,rfl,enters_of func237 (by kernel_rfl) rfl,(D6 h.1 hp t h.2.2.2.1).mono ?_⟩;rintro e w'⟨rfl,F⟩;exact⟨rfl,by simpa using F⟩
 |again hp=>
  refine⟨_,_,_,rfl,enters_of func140 (by kernel_rfl) rfl,(Cw h.1 hp t h.2.2.2.1).mono ?_⟩;rintro e w'⟨rfl,F⟩;exact⟨rfl,by simpa using F⟩
 |all hr=>
  refine⟨_,_,_,rfl,enters_of func282 (by kernel_rfl) rfl,(Ic h.1 hr t h.2.2.2.1).mono ?_⟩;rintro e w'⟨rfl,F⟩;exact⟨rfl,by simpa using F⟩
theorem Rs.last {v:Value}{ys:List Value}{x:Value}(h:Rs W v (ys++[x])):∃b cap,v=.slice (some ⟨b,0,none⟩) (ys.length+1) cap/\ys.length+1<=cap/\W.cell? ⟨b,ys.length,none⟩=some x/\(∀j,W.frozen? ⟨b,j,none⟩=false)/\b<W.heap.size /\
  Rs (W.setCell ⟨b,ys.length,none⟩ .nilFunc) (.slice (some ⟨b,0,none⟩) ys.length cap) ys:=by
 rcases h.2 with⟨_,J⟩|⟨b,cap,u,G,M,F,H,O,h5,I⟩
 ·simp at J
 ·have hl:(ys++[x]).length=ys.length+1:=by simp
  rw[hl]at G H;have hc:=h.cells (g:=b) (by rw[G];rfl) ys.length x (by simp);rw[KV,Km]at hc;refine⟨b,cap,G,H,hc,fun j=>aj F,ai F,by simp,.inr ⟨b,cap,u.setIfInBounds ys.length .nilFunc,rfl,M,ab F _ _,by omega,O,by simpa using h5,?_⟩⟩;rw[hl]at I
  have e:u.toList.take (ys.length*1)=ys:=by
   have:=Kw (List.take ys.length) I;rw[M5]at this
   simpa[LE]using this
  rw[Array.toList_setIfInBounds];rw[List.take_set_of_le (by omega)];exact e
theorem Al.snoc {α:Type}{R:Value->α->Prop}{vs:List Value}{xs:List α}{x:α}(h:Al R vs (xs++[x])):∃us u,vs=us++[u]/\Al R us xs/\R u x:=by
 induction xs generalizing vs with
 |nil=>
  cases h with
  |cons h1 h2=>cases h2;exact⟨[],_,rfl,.nil,h1⟩
 |cons y r ih=>
  cases h with
  |cons h1 h2=>
   obtain⟨us,u,rfl,a,b⟩:=ih h2;exact⟨_ :: us,u,rfl,.cons h1 a,b⟩
structure Nx (g:Nat) (D:Nat->Prop) (vs vt:Value) (W W':World) (n:Int) (K:List It) (E:List Ev) (v:Value) (i:It):Prop where
 ps:∃vs',Ps g D W' n K E vs' vt/\vs'.ownBlock=vs.ownBlock
 rp:jG g D W' v i
 kp:Kp (fun k=>k=g\/vs.ownBlock=some k\/vt.ownBlock=some k) W W'
theorem iF {D:Nat->Prop}(h:Ps g D W n (i :: K) E vs vt) (hK:K.length<=10000000) :
  Kb 98 #[pt g] W fun e w'=>∃v,e=.returned v/\Nx g D vs vt W w' n K E v i:=by
 obtain⟨xs,H,M⟩:=h.st;rw[Ll]at M;obtain⟨ys,v,rfl,h3,h4⟩:=M.snoc;obtain⟨b,cap,rfl,hcap,hc,hf,hb,hR⟩:=H.last;have ag:ys.length<=10000000:=by rw[h3.len,KZ];exact hK
 have O:b≠g:=H.ne h.pb (by decide) b rfl;have hN:∀k,D k->¬(k=b):=fun k F e=>h.ds b rfl (e ▸ F)
 have u:PB (W.setCell ⟨b,ys.length,none⟩ .nilFunc) g false 0 n (.slice (some ⟨b,0,none⟩) (ys.length+1) cap) vt:=h.pb.kp (Kp.set W b _ _) (fun e=>O e.symm);obtain⟨fn,fi,ca,rfl⟩:=h4.isFn
 have HX:Hid (Nx g D (.slice (some ⟨b,0,none⟩) (ys.length+1) cap) vt W ((W.setCell ⟨b,ys.length,none⟩ .nilFunc).setCell ⟨g,3,none⟩ (.slice (some ⟨b,0,none⟩) ys.length cap)) n K E (.func fn fi ca) i):=by
  have I:=Kp.set W b ys.length .nilFunc;have G:=Kp.set (W.setCell ⟨b,ys.length,none⟩ .nilFunc) g 3 (.slice (some ⟨b,0,none⟩) ys.length cap);have hW:∀k o,D k->W.heap[k]?=some o->((W.setCell ⟨b,ys.length,none⟩ .nilFunc).setCell ⟨g,3,none⟩ (.slice (some ⟨b,0,none⟩) ys.length cap)).heap[k]?=some o:=fun k o F ho=>G.blk (I.blk ho (hN k F)) (fun e=>h.dg (e ▸ F))
  refine⟨⟨_,⟨ab u 3 _,⟨ys,hR.kp G (hR.ne u (by decide)),h3.mono (fun v x hx=>hx.turn (fun _ h=>h) hW)⟩,(h.ev.kp I (fun k F e=>?_)).kp G ?_,h.dg,h.ds,h.dt,fun k F=>Kl (Kl (h.dl k F) I.size) G.size⟩,rfl⟩,h4.turn (fun _ h=>h) hW,?_⟩
  ·rcases H.2 with⟨J,_⟩|⟨b',ac,ad,J,_,e3,_⟩
   ·cases J
   ·have e4:=Kw Value.ownBlock J;simp only[Value.ownBlock,Ky]at e4;exact h.ev.ne e3 (by decide) k F (e.trans e4)
  ·exact fun k F e=>h.ev.ne h.pb (by decide) k F e
  ·exact(I.sub (fun k e=>.inr (.inl (by rw[e];rfl)))).step G (fun k _ e=>.inl e)
 obtain⟨c0,c1,c2,c3,c4⟩:=h.pb.cells;have ae:=h.pb.frozen 3;have af:=h.pb.lt;have d3:(W.setCell ⟨b,ys.length,none⟩ .nilFunc).cell? ⟨g,3,none⟩=some (.slice (some ⟨b,0,none⟩) (ys.length+1) cap):=aa u rfl;have f3:(W.setCell ⟨b,ys.length,none⟩ .nilFunc).frozen? ⟨g,3,none⟩=false:=u.frozen 3;have fb:=hf ys.length;have q0:(0:Int)<=ys.length:=by omega
 have q1:(ys.length:Int)<(ys.length+1:Nat):=by omega
 have q2:((ys.length+1:Nat):Int)-1=ys.length:=by omega
 have q3:IntKind.i64.wrap (((ys.length+1:Nat):Int)-1)=(ys.length:Int):=by rw[Ki];omega
 have q4:ys.length<=cap:=by omega
 clear h H M h3 h4 hR hf hN u hK
 go_enter func98,ntmps98
 go_wp2_with fail
 go_ret
 exact⟨_,rfl,HX.out⟩
theorem FW (p:Nat->Prop):∀k,p k->∃m,p m/\∀j,p j->m<=j:=by
 intro k
 induction k using Nat.strongRecOn with
 |_ k ih=>
  intro h
  by_cases G:∃j,j<k/\p j
  ·obtain⟨j,H,u⟩:=G;exact ih j H u
  ·exact⟨k,h,fun j u=>OZ (fun F=>G ⟨j,F,u⟩)⟩
open Classical in
noncomputable def lst (J:Nat->Act->World->Prop) (a:Act) (w:World):Nat:=if h:∃k,J k a w then Classical.choose (FW (fun k=>J k a w) _ (NR h))else 0
theorem AR {J:Nat->Act->World->Prop}(h:∃k,J k a w):J (lst J a w) a w/\∀j,J j a w->lst J a w<=j:=by
 unfold lst;rw[dif_pos h];exact NR (FW (fun k=>J k a w) _ (NR h))
theorem sx {P:Program}{Q:Exit->Act->World->Prop}{r rest:Code}(l:Nat) (J:Nat->Act->World->Prop) (hf:findLabel (r.seq ((Code.label l).seq rest)) l=some (Code.skip.seq rest))
  (first:r.wp P (Exit.then (fun a w=>∃k,J k a w) (fun _ _ _=>False)) a w)
  (M:∀k a w,J k a w->rest.wp P (Exit.jump l (fun F w'=>∃I,I < k/\J I F w') Q) a w):(Code.scope (r.seq ((Code.label l).seq rest))).wp P Q a w:=by
 have u:∀a w,(∃k,J k a w)->rest.wp P (Exit.jump l (fun F w'=>(∃k,J k F w')/\lst J F w' < lst J a w) Q) a w:=by
  intro a w h;refine wp_mono (M _ a w (AR h).1) ?_;intro e F w' H;cases e with
  |goto l'=>
   obtain⟨rfl,I,hk,O⟩:=H;exact⟨rfl,⟨I,O⟩,Nat.lt_of_le_of_lt ((AR ⟨I,O⟩).2 I O) hk⟩
  |normal=>exact H
  |exit id=>exact H
  |ret=>exact H
  |panic ch=>exact H
  |outgrown=>exact H
 refine OA l _ _ hf ?_ (fun a w h=>wp_seq (wp_skip (u a w h)));refine wp_seq (wp_mono first ?_);intro e F w' h;cases e with
 |normal=>
  refine wp_seq (wp_label ?_);refine wp_mono (u F w' h) ?_;intro e2 a2 w2 G;cases e2 with
  |goto l'=>exact⟨G.1,G.2.1⟩
  |normal=>exact G
  |exit id=>exact G
  |ret=>exact G
  |panic ch=>exact G
  |outgrown=>exact G
 |goto l'=>exact h.elim
 |exit id=>exact h.elim
 |ret=>exact h.elim
 |panic ch=>exact h.elim
 |outgrown=>exact h.elim
structure Bd (k:Nat) (K:List It) (n:Int) (E:List Ev):Prop where
 wf:mG K
 lv:((cL K).length:Int)=n
 sn:(cL K).length+k<=10000000
 sk:K.length+12*k<=9000000
 se:E.length+k<=900000000
theorem Bd.psz (h:Bd k K n E) {i:It}{u:List It}(G:K=i :: u) {g:Nat}{D:Nat->Prop}{W:World}{vs vt:Value}(H:Ps g D W n u E vs vt):eG g D W n u E vs vt:=by
 have I:=h.lv;have J:=h.sn;have F:=h.sk;have M:=h.se;rw[G]at F;simp at F;exact⟨H,by omega,by omega,by omega,by omega⟩
theorem Bd.go {d:Int}{o:List Ev}{r:List It}(h:Bd (k+1) (i :: K) n E) (u:It.step t i=.go d o r):Bd k (r++K) (n+d) (E++o):=by
 obtain⟨G,J,O,a4⟩:=nR (K:=K) u (h.wf i (Ko ..));have h1:=h.lv;have h2:=h.sn;have H:=h.sk;have h4:=h.se;simp at H;refine⟨j7 G (fun j I=>h.wf j (KA _ I)),by omega,?_,by simp;omega,by simp;omega⟩
 have hd:d<=1:=by
  cases i with
  |fl x=>
   cases x with
   |mt m=>
    simp only[It.step,Fl.step]at u;cases F:M.row t m with
    |ref=>rw[F]at u;cases u
    |ex r'=>rw[F]at u;cases u;omega
    |op nd r'=>rw[F]at u;cases u;omega
   |_=>simp only[It.step,Fl.step]at u;split at u<;>cases u
  |lv nd=>cases u;omega
  |once p=>cases u;omega
  |again p=>cases u;omega
  |all r'=>cases u;omega
 omega
theorem Ru.inv {R:Ro}(h:Ru t k K n E R):(K=[]/\R=.no)\/∃i L,K=i :: L/\((It.step t i=.ref/\R=.no)\/(∃u d o r,k=u+1/\It.step t i=.go d o r/\Ru t u (r++L) (n+d) (E++o) R)\/(It.step t i=.tk/\R=.yes L n E)):=by
 cases h with
 |nil=>exact .inl ⟨rfl,rfl⟩
 |ref h=>exact .inr ⟨_,_,rfl,.inl ⟨h,rfl⟩⟩
 |tk h=>exact .inr ⟨_,_,rfl,.inr (.inr ⟨h,rfl⟩)⟩
 |go h h'=>exact .inr ⟨_,_,rfl,.inr (.inl ⟨_,_,_,_,rfl,h,h'⟩)⟩
def Rdp (g:Nat) (D:Nat->Prop) (vs vt:Value) (W:World) (t:Tv) (e:Ending) (w':World):Ro->Prop
 |.no=>e=.returned (.int .i64 120)/\∃n K E,ay g D vs vt W w' n K E
 |.yes K n E=>(1000<n->e=.returned (.int .i64 122)/\∃n K E,ay g D vs vt W w' n K E)/\(n<=1000->e=.returned (.int .i64 0)/\ay g D vs vt W w' n K (E++[⟨2,0,t⟩]))
def Jr (g:Nat) (D:Nat->Prop) (vs vt:Value) (W:World) (tb:Nat) (t:Tv) (R:Ro) (k:Nat) (a:Act) (w:World):Prop:=
 ∃n K E,ay g D vs vt W w n K E/\Ru t k K n E R/\Bd k K n E/\∃u5 u6 u7 u8 u9 u10 u11 u12 u13 u14 u15 u16 u17 u18 u19 u20 u21 u22 u23 u24 u25 u26 u27 u28 u29 u30 u31 u32 u33 u34 u35 u36 u37 u38 u39,a={ tmps:=#[pt g,.agg #[.int .u8 t.k,.string t.t,.int .i64 t.a,.int .i64 t.l,.int .i64 t.c,.int .i64 t.f],undef,.pointer (some ⟨tb,0,none⟩),.int .i64 0,u5,u6,u7,u8,u9,u10,u11,u12,u13,u14,u15,u16,u17,u18,u19,u20,u21,u22,u23,u24,u25,u26,u27,u28,u29,u30,u31,u32,u33,u34,u35,u36,u37,u38,u39],defers:=[] }
def Tb (W:World) (tb:Nat) (t:Tv):Prop:=W.heap[tb]?=some (.cells #[.int .u8 t.k,.string t.t,.int .i64 t.a,.int .i64 t.l,.int .i64 t.c,.int .i64 t.f] 76 (0,0))
theorem Tb.cells {W:World}{u:Nat}{t:Tv}(h:Tb W u t):W.cell? ⟨u,0,none⟩=some (.int .u8 t.k)/\W.cell? ⟨u,1,none⟩=some (.string t.t)/\W.cell? ⟨u,2,none⟩=some (.int .i64 t.a)/\W.cell? ⟨u,3,none⟩=some (.int .i64 t.l)/\W.cell? ⟨u,4,none⟩=some (.int .i64 t.c)/\W.cell? ⟨u,5,none⟩=some (.int .i64 t.f):=
 ⟨aa h rfl,aa h rfl,aa h rfl,aa h rfl,aa h rfl,aa h rfl⟩
theorem Tb.kp {W W':World}{u:Nat}{t:Tv}(h:Tb W u t) {g:Nat}{D:Nat->Prop}{n:Int}{K:List It}{E:List Ev}{vs vt:Value}(F:Ps g D W n K E vs vt) (H:Kp (fun k=>k=g\/vs.ownBlock=some k\/vt.ownBlock=some k) W W'):Tb W' u t:=by
 refine H.blk h ?_;obtain⟨xs,G,_⟩:=F.st;rintro(e|e|e)
 ·subst e;have:=h.symm.trans F.pb;injection this with e
  injection e with _ e
  exact absurd e (by decide)
 ·exact G.ne h (by decide) u e rfl
 ·exact F.ev.ne h (by decide) u e rfl
theorem pq {D:Nat->Prop}(hG:ay g D vs vt W w n (i :: K) E) (hB:Bd k (i :: K) n E) {tb:Nat}(hT:Tb w tb t) :
  Kb 98 #[pt g] w fun e w1=>∃f fi O,e=.returned (.func (.func f) fi O)/\Is f/\Tb w1 tb t /\
   Kb f (fi.push t.v++O) w1 fun G w2=>Tb w2 tb t/\(match It.step t i with
    |.tk=>G=.returned (.int .i64 2)/\ay g D vs vt W w2 n K E
    |.ref=>G=.returned (.int .i64 0)/\ay g D vs vt W w2 n K E
    |.go d o r=>G=.returned (.int .i64 1)/\ay g D vs vt W w2 (n+d) (r++K) (E++o)):=by
 obtain⟨D1,ac,I,p1,k1,aa,ab,d1,d2⟩:=hG;have hz:=hB.sk;simp at hz;refine(iF p1 (by omega)).mono ?_;rintro e w1⟨v,rfl,hx⟩;have H:=hT.kp p1 hx.kp;obtain⟨vs2,p2,G⟩:=hx.ps;obtain⟨f,fi,O,rfl,eg,hc⟩:=wT (hB.psz rfl p2) hx.rp t;refine⟨f,fi,O,rfl,eg,H,hc.mono ?_⟩;intro e3 w3 u
 have gg:∀{n' M J},ay g D1 vs2 I w1 w3 n' M J->Tb w3 tb t/\ay g D vs vt W w3 n' M J:=by
  intro n' M J h;have h2:ay g D1 ac I w w3 n' M J:=ay.go hx.kp (.inl G) (Nb.refl _ _) (fun _ h=>h) (fun _ h=>.inl h) h;refine⟨?_,ay.go k1 aa ab d1 d2 h2⟩;obtain⟨_,_,_,_,k5,_⟩:=h;exact H.kp p2 k5
 cases F:It.step t i with
 |tk=>
  rw[F]at u;obtain⟨a,b⟩:=gg (p2.quiet u.2);exact⟨a,u.1,b⟩
 |ref=>
  rw[F]at u;obtain⟨a,b⟩:=gg (p2.quiet u.2);exact⟨a,u.1,b⟩
 |go d o r=>
  rw[F]at u;obtain⟨a,b⟩:=gg u.2;exact⟨a,u.1,b⟩
theorem ay.drew {g:Nat}{D:Nat->Prop}{vs vt:Value}{W w w':World}{n:Int}{K:List It}{E:List Ev}(h:ay g D vs vt W w n K E) (I:Below w.heap.size w w'):ay g D vs vt W w' n K E:=by
 obtain⟨D1,O,aa,M,J,u,F,G,H⟩:=h;exact ay.go J u F G H (M.quiet I)
theorem mN {D:Nat->Prop}(h:ay g D vs vt W w n K E) (d:Ev) (hl:E.length<=1000000000) :
  Kb 97 #[pt g,d.v] w fun e w'=>e=.returned (.tuple #[])/\ay g D vs vt W w' n K (E++[d]):=by
 obtain⟨H,G,aa,O,M,u,F,I,J⟩:=h;refine(nP O d hl).mono ?_;rintro e w'⟨rfl,⟨vt2,p2,n2⟩,k2⟩;exact⟨rfl,ay.go M u F I J ⟨H,G,vt2,p2,k2.sub (fun k h=>h.elim .inl (fun h=>.inr (.inr h))),Nb.refl _ _,n2,fun _ h=>h,fun _ h=>.inl h⟩⟩
theorem Tb.below {u:Nat}(h:Tb W u t) (F:Below W.heap.size W W'):Tb W' u t:=af h F
set_option maxRecDepth 100000 in
theorem jt {D:Nat->Prop}(h:Ps g D W n K E vs vt) (t:Tv) (h7:(t.k==7)=false) (h8:(t.k==8)=false) {k:Nat}{R:Ro}(hR:Ru t k K n E R) (hB:Bd k K n E) :
  Kb 59 #[pt g,t.v] W fun e w'=>Rdp g D vs vt W t e w' R:=by
 have ab:ay g D vs vt W (W.alloc (.cells #[.int .u8 t.k,.string t.t,.int .i64 t.a,.int .i64 t.l,.int .i64 t.c,.int .i64 t.f] 76)) n K E:=h.quiet (aq _ _);have ae:Tb (W.alloc (.cells #[.int .u8 t.k,.string t.t,.int .i64 t.a,.int .i64 t.l,.int .i64 t.c,.int .i64 t.f] 76)) W.heap.size t:=am _ _;have HJ:Hid (ay g D vs vt W (W.alloc (.cells #[.int .u8 t.k,.string t.t,.int .i64 t.a,.int .i64 t.l,.int .i64 t.c,.int .i64 t.f] 76)) n K E/\Tb (W.alloc (.cells #[.int .u8 t.k,.string t.t,.int .i64 t.a,.int .i64 t.l,.int .i64 t.c,.int .i64 t.f] 76)) W.heap.size t/\Ru t k K n E R/\Bd k K n E):=⟨ab,ae,hR,hB⟩;clear ab ae hR hB h
 dsimp only[Tv.v]
 go_enter func59,ntmps59
 go_wp2_with fail
 refine sx 0 (fun k a w=>Jr g D vs vt W W.heap.size t R k a w/\Tb w W.heap.size t) (by rfl) ?_ ?_
 ·go_wp2_with fail
  exact⟨k,⟨n,K,E,HJ.out.1,HJ.out.2.2.1,HJ.out.2.2.2,_,_,_,_,_,_,_,_,_,_,_,_,_,_,_,_,_,_,_,_,_,_,_,_,_,_,_,_,_,_,_,_,_,_,_,rfl⟩,HJ.out.2.1⟩
 ·rintro k a w⟨⟨n,K,E,hG,hR,hB,u5,u6,u7,u8,u9,u10,u11,u12,u13,u14,u15,u16,u17,u18,u19,u20,u21,u22,u23,u24,u25,u26,u27,u28,u29,u30,u31,u32,u33,u34,u35,u36,u37,u38,u39,rfl⟩,hT⟩;have ah:=hG;obtain⟨D1,vs1,vt1,p1,_⟩:=ah;obtain⟨xs,r1,r2⟩:=p1.st;have H:xs.length=K.length:=by rw[r2.len,KZ]
  obtain⟨pp,cp,rfl,_⟩:=r1.shape;have c3:w.cell? ⟨g,3,none⟩=some (.slice pp xs.length cp):=aa p1.pb rfl;have HE:Hid (∃n K E,ay g D vs vt W w n K E):=⟨n,K,E,hG⟩;obtain⟨I,htb⟩:∃I,I=W.heap.size:=⟨_,rfl⟩;rw[<-htb]at hT ⊢;have ai:=ku htb;clear p1 r1 r2 h7 h8 HJ htb
  rcases hR.inv with⟨rfl,rfl⟩|⟨i,L,rfl,⟨hs,rfl⟩|⟨k',d,o,r,rfl,hs,ad⟩|⟨hs,rfl⟩⟩
  ·clear hR;have q1:((xs.length:Int)==0)=true:=by simp at H;simp[H]
   clear H hG hB hT
   go_wp2_with fail
   simp only[Exit.jump]
   go_ret
   exact⟨rfl,HE.out⟩
  ·clear hR;have q1:((xs.length:Int)==0)=false:=by rw[Kk];have:xs.length=L.length+1:=(by simpa using H);omega
   have HA:Hid (∀V,Below w.heap.size w V->Kb 98 #[pt g] V fun e w1=>∃f O M,e=.returned (.func (.func f) O M)/\Is f/\Tb w1 I t/\Kb f (O.push (.agg #[.int .u8 t.k,.string t.t,.int .i64 t.a,.int .i64 t.l,.int .i64 t.c,.int .i64 t.f])++M) w1 fun e2 w2=>Tb w2 I t/\e2=.returned (.int .i64 0)/\ay g D vs vt W w2 n L E):=fun V hb=>by
    have:=pq (hG.drew hb) hB (hT.below hb);rw[hs]at this;exact this
   obtain⟨m0,m1,m2,m3,m4,m5⟩:=hT.cells;clear H hG hB hT hs HE
   go_wp2_with fail
   go_region_with (first
    | (go_at_call 98;refine(HA.out _ (gt _ _).drew).mono ?_;rintro e w1⟨f,O,M,rfl,eg,G,hc⟩;obtain⟨m0,m1,m2,m3,m4,m5⟩:=G.cells;have HC:=ku hc;clear hc G)
    | (refine HC.out.mono ?_;rintro e w2⟨F,rfl,u⟩;have J:Hid (Tb w2 I t/\ay g D vs vt W w2 n L E):=⟨F,u⟩;clear F u))
   all_goals(
    go_wp2_with fail
    simp only[Exit.jump]
    go_ret
    exact⟨rfl,_,_,_,J.out.2⟩)
  ·clear hR;have q1:((xs.length:Int)==0)=false:=by rw[Kk];have:xs.length=L.length+1:=(by simpa using H);omega
   have HA:Hid (∀V,Below w.heap.size w V->Kb 98 #[pt g] V fun e w1=>∃f O M,e=.returned (.func (.func f) O M)/\Is f/\Tb w1 I t/\Kb f (O.push (.agg #[.int .u8 t.k,.string t.t,.int .i64 t.a,.int .i64 t.l,.int .i64 t.c,.int .i64 t.f])++M) w1 fun e2 w2=>Tb w2 I t/\e2=.returned (.int .i64 1)/\ay g D vs vt W w2 (n+d) (r++L) (E++o)):=fun V hb=>by
    have:=pq (hG.drew hb) hB (hT.below hb);rw[hs]at this;exact this
   have HX:Hid (Ru t k' (r++L) (n+d) (E++o) R/\Bd k' (r++L) (n+d) (E++o)):=⟨ad,hB.go hs⟩;obtain⟨m0,m1,m2,m3,m4,m5⟩:=hT.cells;clear H hG hB hT hs HE ad
   go_wp2_with fail
   go_region_with (first
    | (go_at_call 98;refine(HA.out _ (gt _ _).drew).mono ?_;rintro e w1⟨f,O,M,rfl,eg,G,hc⟩;obtain⟨m0,m1,m2,m3,m4,m5⟩:=G.cells;have HC:=ku hc;clear hc G)
    | (refine HC.out.mono ?_;rintro e w2⟨F,rfl,u⟩;have J:Hid (Tb w2 I t/\ay g D vs vt W w2 (n+d) (r++L) (E++o)):=⟨F,u⟩;clear F u))
   all_goals(
    go_wp2_with fail
    go_step3
    refine⟨rfl,k',M9 _,?_⟩;exact⟨⟨n+d,r++L,E++o,J.out.2,HX.out.1,HX.out.2,_,_,_,_,_,_,_,_,_,_,_,_,_,_,_,_,_,_,_,_,_,_,_,_,_,_,_,_,_,_,_,_,_,_,_,rfl⟩,J.out.1⟩)
  ·clear hR;have q1:((xs.length:Int)==0)=false:=by rw[Kk];have:xs.length=L.length+1:=(by simpa using H);omega
   have HA:Hid (∀V,Below w.heap.size w V->Kb 98 #[pt g] V fun e w1=>∃f O M,e=.returned (.func (.func f) O M)/\Is f/\Tb w1 I t/\Kb f (O.push (.agg #[.int .u8 t.k,.string t.t,.int .i64 t.a,.int .i64 t.l,.int .i64 t.c,.int .i64 t.f])++M) w1 fun e2 w2=>Tb w2 I t/\e2=.returned (.int .i64 2)/\ay g D vs vt W w2 n L E):=fun V hb=>by
    have:=pq (hG.drew hb) hB (hT.below hb);rw[hs]at this;exact this
   have HL:Hid (E.length<=1000000000):=by have:=hB.se;show E.length<=_;omega
   obtain⟨m0,m1,m2,m3,m4,m5⟩:=hT.cells;clear H hG hB hT hs HE
   by_cases hn:1000<n
   ·go_wp2_with fail
    go_region_with (first
     | (go_at_call 98;refine(HA.out _ (gt _ _).drew).mono ?_;rintro e w1⟨f,O,M,rfl,eg,G,hc⟩;obtain⟨m0,m1,m2,m3,m4,m5⟩:=G.cells;have HC:=ku hc;clear hc G)
     | (refine HC.out.mono ?_;rintro e w2⟨F,rfl,u⟩;have J:Hid (Tb w2 I t/\ay g D vs vt W w2 n L E):=⟨F,u⟩;have d2:w2.cell? ⟨g,2,none⟩=some (.int .i64 n):=(by obtain⟨_,_,_,p,_⟩:=u;exact aa p.pb rfl);clear F u))
    all_goals(
     go_wp2_with fail
     simp only[Exit.jump]
     go_ret
     exact⟨fun _=>⟨rfl,_,_,_,J.out.2⟩,fun hh=>absurd hh (by omega)⟩)
   ·go_wp2_with fail
    go_region_with (first
     | (go_at_call 98;refine(HA.out _ (gt _ _).drew).mono ?_;rintro e w1⟨f,O,M,rfl,eg,G,hc⟩;obtain⟨m0,m1,m2,m3,m4,m5⟩:=G.cells;have HC:=ku hc;clear hc G)
     | (refine HC.out.mono ?_;rintro e w2⟨F,rfl,u⟩;have J:Hid (Tb w2 I t/\ay g D vs vt W w2 n L E):=⟨F,u⟩;have d2:w2.cell? ⟨g,2,none⟩=some (.int .i64 n):=(by obtain⟨_,_,_,p,_⟩:=u;exact aa p.pb rfl);obtain⟨z0,z1,z2,z3,z4,z5⟩:=F.cells;clear F u))
    all_goals(
     have ag:=ku (mN J.out.2 ⟨2,0,t⟩ HL.out)
     go_wp2_with(go_at_call 97;refine ag.out.mono ?_;rintro e w3⟨rfl,ac⟩;have af:=ku ac;clear ac)
     simp only[Exit.jump]
     go_ret
     exact⟨fun hh=>absurd hh (by omega),fun _=>⟨rfl,af.out⟩⟩)
theorem AK {D:Nat->Prop}(h:Ps g D W n K E vs vt) (t:Tv) (G:(t.k==7||t.k==8)=true) (M:E.length<=1000000000) :
  Kb 59 #[pt g,t.v] W fun e w'=>e=.returned (.int .i64 0)/\ay g D vs vt W w' n K (E++[⟨4,0,t⟩]):=by
 have O:Kc W (W.alloc (.cells #[.int .u8 t.k,.string t.t,.int .i64 t.a,.int .i64 t.l,.int .i64 t.c,.int .i64 t.f] 76)):=aq _ _;have I:=ku (mN (h.quiet O) ⟨4,0,t⟩ M);clear h O M
 dsimp only[Tv.v]
 by_cases J:(t.k==7)=true
 ·clear G
  go_enter func59,ntmps59
  go_wp2_with fail
  refine OA 0 (fun _ _=>False) (fun _ _=>0) rfl ?_ (fun _ _ h=>h.elim)
  go_wp2_with(go_at_call 97;refine I.out.mono ?_;rintro e H⟨rfl,u⟩;have F:=ku u;clear u)
  simp only[Exit.jump]
  go_ret
  exact⟨rfl,F.out⟩
 ·have h2:(t.k==7)=false:=by simpa using J
  have h3:(t.k==8)=true:=by rw[h2]at G;simpa using G
  clear G J
  go_enter func59,ntmps59
  go_wp2_with fail
  refine OA 0 (fun _ _=>False) (fun _ _=>0) rfl ?_ (fun _ _ h=>h.elim)
  go_wp2_with(go_at_call 97;refine I.out.mono ?_;rintro e H⟨rfl,u⟩;have F:=ku u;clear u)
  simp only[Exit.jump]
  go_ret
  exact⟨rfl,F.out⟩
theorem eU {c:Bool}{e:Int}(h:PB W g c e n vs vt):Kb 57 #[pt g] W fun r w'=>r=.returned (.int .i64 (if c then 4 else e))/\w'=W:=by
 obtain⟨c0,c1,c2,c3,c4⟩:=h.cells;clear h;cases c
 ·go_enter func57,ntmps57
  go_wp2_with fail
  go_ret
  exact⟨rfl,rfl⟩
 ·go_enter func57,ntmps57
  go_wp2_with fail
  go_ret
  exact⟨rfl,rfl⟩
abbrev aS:Value:=.slice none 0 0
theorem oA (W:World):Kb 23 #[] W fun r w'=>r=.returned (pt W.heap.size)/\w'=W.alloc (.cells #[.bool false,.int .i64 0,.int .i64 0,aS,aS] 125):=by
 go_enter func23,ntmps23
 go_wp2_with fail
 go_ret
 exact⟨rfl,rfl⟩
structure Jp (S:Nat->Prop) (W:World) (g:Nat) (K:List It) (n:Int) (D:Nat->Prop) (vs:Value):Prop where
 ps:Ps g D W n K [] vs aS
 sg:S g
 ss:∀k,vs.ownBlock=some k->S k
 sd:∀k,D k->S k
def Pq (S:Nat->Prop) (W:World) (g:Nat):jd->Prop
 |.live K n=>∃D vs,Jp S W g K n D vs
 |.stuck e n=>PB W g false e n aS aS/\S g
 |.shut=>PB W g true 0 0 aS aS/\S g
theorem Pq.kp {S U:Nat->Prop}{W W':World}{g:Nat}{st:jd}(h:Pq S W g st) (u:Kp U W W') (F:∀k,S k->¬U k):Pq S W' g st:=by
 cases st with
 |live K n=>
  obtain⟨D,vs,h⟩:=h;obtain⟨xs,h1,h2⟩:=h.ps.st;exact⟨D,vs,⟨h.ps.pb.kp u (F g h.sg),⟨xs,h1.kp u (fun k e=>F k (h.ss k e)),h2.mono (fun v x H=>H.turn (fun _ h=>h) (fun k o hd G=>u.blk G (F k (h.sd k hd))))⟩,h.ps.ev.kp u (fun k e=>by cases e),h.ps.dg,h.ps.ds,h.ps.dt,fun k hd=>Kl (h.ps.dl k hd) u.size⟩,h.sg,h.ss,h.sd⟩
 |stuck e n=>exact⟨h.1.kp u (F g h.2),h.2⟩
 |shut=>exact⟨h.1.kp u (F g h.2),h.2⟩
theorem Pq.below {S:Nat->Prop}{st:jd}(h:Pq S W g st) (u:Below W.heap.size W W'):Pq S W' g st:=h.kp (Kp.of_below (S:=fun _=>False) u) (fun _ _ h=>h)
structure Pa (S:Nat->Prop) (g:Nat) (W W':World) (v:Value) (ev:List Ev) (st:jd):Prop where
 re:Re W' v ev
 ex:∃S',Pq S' W' g st/\(∀k,S k->S' k)/\(∀k,S' k->S k\/(W.heap.size<=k/\k<W'.heap.size))/\(∀k,v.ownBlock=some k->W.heap.size<=k/\¬S' k)
 kp:Kp S W W'
theorem oy {S:Nat->Prop}{st:jd}(h:Pq S W' g st) (u:Kp S W W'):Pa S g W W' aS [] st:=
 ⟨sX _,⟨S,h,fun _ h=>h,fun _ h=>.inl h,fun k e=>by cases e⟩,u⟩
theorem D4 {S:Nat->Prop}{K':List It}{n':Int}{D:Nat->Prop}(h:Jp S W g K n D vs) (hl:∀k,S k->k<W.heap.size) {E:List Ev}(hG:ay g D vs aS W w n' K' E) :
  ∃vs' vt',PB w g false 0 n' vs' vt'/\Pa S g W (w.setCell ⟨g,4,none⟩ aS) vt' E (.live K' n'):=by
 obtain⟨D1,G,O,u,k1,ac,ad,d1,d2⟩:=hG;have J:=Kp.set w g 4 aS;obtain⟨xs,h1,h2⟩:=u.st
 have M:∀k,O.ownBlock=some k->W.heap.size<=k:=by
  intro k e
  rcases ad with H|⟨q,H,hq⟩
  ·rw[H]at e;cases e
  ·rw[H]at e;simp at e;omega
 have aa:∀k,G.ownBlock=some k->S k\/W.heap.size<=k:=by
  intro k e
  rcases ac with H|⟨q,H,hq⟩
  ·exact .inl (h.ss k (by rw[<-H];exact e))
  ·rw[H]at e;simp at e;exact .inr (by omega)
 have hsz:(w.setCell ⟨g,4,none⟩ aS).heap.size=w.heap.size:=by show(w.heap.modify g _).size=_;rw[LK]
 refine⟨G,O,u.pb,u.ev.kp J (u.ev.ne u.pb (by decide)),⟨fun k=>S k\/D1 k\/G.ownBlock=some k,⟨D1,G,⟨ab u.pb 4 _,⟨xs,h1.kp J (h1.ne u.pb (by decide)),h2.mono (fun v x hx=>hx.turn (fun _ h=>h) (fun k o hd ho=>J.blk ho (fun e=>u.dg (e ▸ hd))))⟩,sX _,u.dg,u.ds,(fun k e=>by cases e),(fun k hd=>by rw[hsz];exact u.dl k hd)⟩,.inl h.sg,fun k e=>.inr (.inr e),fun k hd=>.inr (.inl hd)⟩,fun k J=>.inl J,?_,?_⟩,?_⟩
 ·rintro k (a|a|a)
  ·exact .inl a
  ·rcases d2 k a with b|b
   ·exact .inl (h.sd k b)
   ·exact .inr ⟨b,by rw[hsz];exact u.dl k a⟩
  ·rcases aa k a with b|b
   ·exact .inl b
   ·exact .inr ⟨b,by rw[hsz];exact h1.lt k a⟩
 ·intro k e;refine⟨M k e,?_⟩;rintro(a|a|a)
  ·have:=hl k a;have:=M k e;omega
  ·exact u.dt k e a
  ·obtain⟨b,F,I,hv,hc⟩:∃b F I,G=.slice (some ⟨b,0,none⟩) xs.length F/\w.heap[b]?=some (.cells I 184 (0,0)):=by
    rcases h1.2 with⟨H,_⟩|⟨b,F,I,hv,_,h3,_⟩
    ·rw[H]at a;cases a
    ·exact⟨b,F,I,hv,h3⟩
   rw[hv]at a;simp only[Value.ownBlock,Ky]at a;exact u.ev.ne hc (by decide) k e a.symm
 ·refine(k1.sub ?_).step J (fun k _ e=>by rw[e];exact h.sg);rintro k (e|e|e)
  ·rw[e];exact h.sg
  ·exact h.ss k e
  ·cases e
theorem GM {S:Nat->Prop}{D:Nat->Prop}(h:Jp S W g K n D vs) {n':Int}{I:List It}{E:List Ev}(J:ay g D vs aS W w n' I E) (e m:Int) :
  (∃vs' vt',PB w g false 0 n' vs' vt')/\PB (((((w.setCell ⟨g,0,none⟩ (.bool false)).setCell ⟨g,1,none⟩ (.int .i64 e)).setCell ⟨g,2,none⟩ (.int .i64 m)).setCell ⟨g,3,none⟩ aS).setCell ⟨g,4,none⟩ aS) g false e m aS aS /\
  Pa S g W ((((((w.setCell ⟨g,0,none⟩ (.bool false)).setCell ⟨g,1,none⟩ (.int .i64 e)).setCell ⟨g,2,none⟩ (.int .i64 m)).setCell ⟨g,3,none⟩ aS).setCell ⟨g,4,none⟩ aS).setCell ⟨g,4,none⟩ aS) aS [] (.stuck e m):=by
 obtain⟨D1,u,F,G,M,_⟩:=J;have H:=ab (ab (ab (ab (ab G.pb 0 (.bool false)) 1 (.int .i64 e)) 2 (.int .i64 m)) 3 aS) 4 aS;refine⟨⟨u,F,G.pb⟩,H,oy ⟨ab H 4 _,h.sg⟩ ?_⟩;have O:=((((((Kp.set w g 0 (.bool false)).trans (Kp.set _ g 1 (.int .i64 e))).trans (Kp.set _ g 2 (.int .i64 m))).trans (Kp.set _ g 3 aS)).trans (Kp.set _ g 4 aS)).trans (Kp.set _ g 4 aS));refine(M.sub ?_).step O (fun k _ e=>by rw[e];exact h.sg);rintro k (e|e|e)
 ·rw[e];exact h.sg
 ·exact h.ss k e
 ·cases e
theorem vc {S:Nat->Prop}{W:World}{g:Nat}{st:jd}(h:Pq S W g st) (hl:∀k,S k->k<W.heap.size) (t:Tv) {c:Bool}{e n:Int}(G:PB W g c e n aS aS) (hc:(if c then 4 else e)≠0) :
  Kb 32 #[pt g,t.v] W fun r w'=>r=.returned (.tuple #[aS,.int .i64 (if c then 4 else e)])/\Pa S g W w' aS [] st:=by
 obtain⟨z,F⟩:∃z:Int,(if c then 4 else e)=z:=⟨_,rfl⟩;rw[F]at hc ⊢;have u:Kc W (W.alloc (.cells #[.int .u8 t.k,.string t.t,.int .i64 t.a,.int .i64 t.l,.int .i64 t.c,.int .i64 t.f] 76)):=cE W t
 have H:Hid (Kb 57 #[pt g] (W.alloc (.cells #[.int .u8 t.k,.string t.t,.int .i64 t.a,.int .i64 t.l,.int .i64 t.c,.int .i64 t.f] 76)) fun r w'=>r=.returned (.int .i64 z)/\w'=W.alloc (.cells #[.int .u8 t.k,.string t.t,.int .i64 t.a,.int .i64 t.l,.int .i64 t.c,.int .i64 t.f] 76)):=by
  have:=eU (G.below u);rw[F]at this;exact this
 have I:=ku (oy (h.below u) (Kp.of_below u));have J:(z != 0)=true:=by simpa using hc
 clear h G u F hc hl
 dsimp only[Tv.v]
 go_enter func32,ntmps32
 go_wp2_with(go_at_call 57;refine H.out.mono ?_;rintro r M⟨rfl,rfl⟩)
 refine Kv (v:=.tuple #[aS,.int .i64 z]) (by simp[results,Tryz.f32,go_sem]) rfl ?_;exact⟨rfl,I.out⟩
theorem um (h:Lz K n) {k:Nat}(O:k<=(beg K n).length+20):Bd k (beg K n) (eM n) (ec n):=by
 have M:=h.lv;have h2:=h.sn;have h3:=h.sk
 by_cases u:n=0
 ·subst u;have hl:(beg K 0).length=K.length+6:=by simp[beg,gY]
  have e:cL (beg K 0)=1 :: cL K:=by simp[beg,gY,cL]
  have F:(cL K).length=0:=by omega
  refine⟨?_,?_,?_,by omega,by simp[ec];omega⟩
  ·refine j7 ?_ (fX trivial h.wf);intro i G;simp[gY]at G
   rcases G with rfl|rfl|rfl|rfl|rfl<;>trivial
  ·rw[e];simp[eM,F]
  ·rw[e];simp;omega
 ·have aa:(n==0)=false:=by simpa using u
  have H:beg K n=K:=by simp[beg,u]
  have I:eM n=n:=by simp[eM,u]
  have J:ec n=[]:=by simp[ec,u]
  rw[H]at O ⊢;rw[I,J];exact⟨h.wf,M,by omega,by omega,by simp;omega⟩
theorem Aa {D:Nat->Prop}(hG:ay g D vs vt W w (eM n) (beg K n) (ec n)) (I:Lz K n) {t:Tv}{G:List Ev}{u:Int}{st:jd}(hp:jZ t (.live K n) G u st) :
  Kb 59 #[pt g,t.v] w fun e w'=>e=.returned (.int .i64 u)/\((u=0/\∃L m,st=.live L m/\ay g D vs vt W w' m L G)\/(u≠0/\st=.stuck u n/\G=[]/\∃m L E,ay g D vs vt W w' m L E)):=by
 obtain⟨D1,O,aa,F,k1,J,M,d1,d2⟩:=hG;have up:∀{w' m L E},ay g D1 O aa w w' m L E->ay g D vs vt W w' m L E:=fun h=>ay.go k1 J M d1 d2 h
 cases hp with
 |note h7=>
  refine(AK F t h7 (by unfold ec;split<;>simp)).mono ?_;rintro e w'⟨rfl,h⟩;exact⟨rfl,.inl ⟨rfl,_,_,rfl,up h⟩⟩
 |no h7 hR hk=>
  rw[MZ]at h7;refine(jt F t h7.1 h7.2 hR (um I hk)).mono ?_;rintro e w'⟨rfl,m,L,E,h⟩;exact⟨rfl,.inr ⟨by decide,rfl,rfl,m,L,E,up h⟩⟩
 |deep h7 hR hk hm=>
  rw[MZ]at h7;refine(jt F t h7.1 h7.2 hR (um I hk)).mono ?_;intro e w' h;obtain⟨rfl,m,L,E,H⟩:=h.1 hm;exact⟨rfl,.inr ⟨by decide,rfl,rfl,m,L,E,up H⟩⟩
 |yes h7 hR hk hm=>
  rw[MZ]at h7;refine(jt F t h7.1 h7.2 hR (um I hk)).mono ?_;intro e w' h;obtain⟨rfl,H⟩:=h.2 hm;exact⟨rfl,.inl ⟨rfl,_,_,rfl,up H⟩⟩
theorem Ac {S:Nat->Prop}{D:Nat->Prop}(h:Jp S W g K n D vs) (hl:∀k,S k->k<W.heap.size) (hz:Lz K n) {t:Tv}{O:List Ev}{F:Int}{st:jd}(hp:jZ t (.live K n) O F st) :
  Kb 32 #[pt g,t.v] W fun r w'=>∃v,r=.returned (.tuple #[v,.int .i64 F])/\Pa S g W w' v O st:=by
 obtain⟨V,hV⟩:∃V,W.alloc (.cells #[.int .u8 t.k,.string t.t,.int .i64 t.a,.int .i64 t.l,.int .i64 t.c,.int .i64 t.f] 76)=V:=⟨_,rfl⟩;have hb:Kc W V:=by rw[<-hV];exact cE W t
 have hT:Tb V W.heap.size t:=by rw[<-hV];exact am _ _
 have pV:=h.ps.below' hb;have HV:=ku hV;have HR:=ku (eU pV.pb);have ac:=ku fun w (hw:ay g D vs aS W w (eM n) (beg K n) (ec n))=>Aa hw hz hp
 have M:=ku fun w L m (hG:ay g D vs aS W w m L O)=>D4 h hl hG
 have aa:=ku fun w L m E (hG:ay g D vs aS W w m L E)=>GM h hG F n
 obtain⟨c0,c1,c2,c3,c4⟩:=pV.pb.cells;have af:Hid (ay g D vs aS W V n K []/\Tb V W.heap.size t/\Ps g D V n K [] vs aS):=⟨h.ps.quiet hb,hT,pV⟩
 have ab:Hid (n=0->Kb 58 #[pt g] V fun e w'=>e=.returned (.int .i64 1)/\ay g D vs aS W w' (eM n) (beg K n) (ec n)/\Tb w' W.heap.size t):=fun h0=>by
  subst h0;have aj:=hz.sk;refine(ti (g:=g) (D:=D) (W:=V) (n:=0) (K:=K) (E:=[]) (vs:=vs) (vt:=aS) ⟨pV,by omega,by omega,by omega,by simp⟩).mono ?_;rintro e w'⟨rfl,hG⟩;refine⟨rfl,ay.go (Kp.of_below hb) (Nb.refl _ _) (Nb.refl _ _) (fun _ h=>h) (fun _ h=>.inl h) hG,?_⟩;obtain⟨_,_,_,_,k5,_⟩:=hG;exact hT.kp pV k5
 have ai:0<=n:=by have:=hz.lv;omega
 clear h hl hz hp hV hb pV
 dsimp only[Tv.v]
 by_cases h0:n=0
 ·have q0:(n==0)=true:=by simpa using h0
  have ah:=ku (ab.out h0)
  generalize eM n=n1 at *
  generalize beg K n=K1 at *
  generalize ec n=E1 at *
  clear ab h0
  go_enter func32,ntmps32
  go_wp2_with fail
  rw[HV.out];refine HR.out.mono ?_;rintro r w1⟨rfl,rfl⟩
  go_wp2_with fail
  refine ah.out.mono ?_;rintro r w3⟨rfl,ad,ae⟩;obtain⟨m0,m1,m2,m3,m4,m5⟩:=ae.cells;have ag:=ku ad;clear ad ae
  go_wp2_with fail
  refine(ac.out _ ag.out).mono ?_;rintro r w2⟨rfl,h2⟩
  rcases h2 with⟨rfl,L,m,rfl,G⟩|⟨J,rfl,rfl,m,L,E2,G⟩
  ·obtain⟨vs',vt',u,I⟩:=M.out _ _ _ G;obtain⟨x0,x1,x2,x3,x4⟩:=u.cells;have f4:=u.frozen 4;have HX:=ku I;obtain⟨pv,cv,hvt,_⟩:=I.re.shape;subst hvt;clear I u G
   go_wp2_with fail
   refine Kv (v:=.tuple #[.slice pv O.length cv,.int .i64 0]) (by simp[results,Tryz.f32,go_sem]) rfl ?_;exact⟨_,rfl,HX.out⟩
  ·obtain⟨⟨vs',vt',u⟩,H,I⟩:=aa.out _ _ _ _ G;obtain⟨x0,x1,x2,x3,x4⟩:=u.cells;obtain⟨y0,y1,y2,y3,y4⟩:=H.cells;have f0:=u.frozen 0;have f1:=u.frozen 1;have f2:=u.frozen 2;have f3:=u.frozen 3;have f4:=u.frozen 4;have g4:=H.frozen 4;have HX:=ku I;have q5:(F != 0)=true:=by simpa using J
   clear I u H G J
   go_wp2_with fail
   refine Kv (v:=.tuple #[aS,.int .i64 F]) (by simp[results,Tryz.f32,go_sem]) rfl ?_;exact⟨_,rfl,HX.out⟩
 ·have q0:(n==0)=false:=by simpa using h0
  have e1:beg K n=K:=by simp[beg,h0]
  have e2:eM n=n:=by simp[eM,h0]
  have e3:ec n=[]:=by simp[ec,h0]
  rw[e1,e2,e3]at ac;clear e1 e2 e3 ab h0;obtain⟨m0,m1,m2,m3,m4,m5⟩:=hT.cells
  go_enter func32,ntmps32
  go_wp2_with fail
  rw[HV.out];refine HR.out.mono ?_;rintro r w1⟨rfl,rfl⟩
  go_wp2_with fail
  refine(ac.out _ af.out.1).mono ?_;rintro r w2⟨rfl,h2⟩
  rcases h2 with⟨rfl,L,m,rfl,G⟩|⟨J,rfl,rfl,m,L,E2,G⟩
  ·obtain⟨vs',vt',u,I⟩:=M.out _ _ _ G;obtain⟨x0,x1,x2,x3,x4⟩:=u.cells;have f4:=u.frozen 4;have HX:=ku I;obtain⟨pv,cv,hvt,_⟩:=I.re.shape;subst hvt;clear I u G
   go_wp2_with fail
   refine Kv (v:=.tuple #[.slice pv O.length cv,.int .i64 0]) (by simp[results,Tryz.f32,go_sem]) rfl ?_;exact⟨_,rfl,HX.out⟩
  ·obtain⟨⟨vs',vt',u⟩,H,I⟩:=aa.out _ _ _ _ G;obtain⟨x0,x1,x2,x3,x4⟩:=u.cells;obtain⟨y0,y1,y2,y3,y4⟩:=H.cells;have f0:=u.frozen 0;have f1:=u.frozen 1;have f2:=u.frozen 2;have f3:=u.frozen 3;have f4:=u.frozen 4;have g4:=H.frozen 4;have HX:=ku I;have q5:(F != 0)=true:=by simpa using J
   clear I u H G J
   go_wp2_with fail
   refine Kv (v:=.tuple #[aS,.int .i64 F]) (by simp[results,Tryz.f32,go_sem]) rfl ?_;exact⟨_,rfl,HX.out⟩
