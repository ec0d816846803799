import Derived.ScopeJumps
import Derived.Test.YtpdlohfdjiaegaaGreatDoorM43
set_option linter.unusedVariables false
set_option linter.unusedSimpArgs false
set_option maxHeartbeats 4000000
namespace Go.Proofs.YtpdlohfdjiaegaaGreatDoor
open Go.RowKit
variable {W w W' w':World}{n:Int}{g k:Nat}{K:List It}{vs vt:Value}{E:List Ev}{t:Tv}{i:It}{a:Act}{st:Pst}
def Stp (g:Nat) (D:Nat->Prop) (vs vt:Value) (W:World) (n:Int) (K:List It) (E:List Ev) (e:Ending) (w':World):Sr->Prop
 |.tk=>e=.returned (.int .i64 2)/\Below W.heap.size W w'
 |.ref=>e=.returned (.int .i64 0)/\Below W.heap.size W w'
 |.go d o r=>e=.returned (.int .i64 1)/\aq g D vs vt W w' (n+d) (r++K) (E++o)
theorem br {g:Nat}{D:Nat->Prop}{vs vt:Value}{W:World}{n:Int}{K:List It}{E:List Ev}{e:Ending}{w':World}{t:Tv}{m:M}(h:bi g D vs vt W n K E e w' (M.row t m)):Stp g D vs vt W n K E e w' (It.step t (.fl (.mt m))):=by
 show Stp g D vs vt W n K E e w' (M.row t m).sr
 cases hr:M.row t m with
 |ref=>rw [hr] at h;exact h
 |ex r=>rw [hr] at h;simpa [Stp,bi,Gw.sr] using h
 |op nd r=>rw [hr] at h;simpa [Stp,bi,Gw.sr] using h
theorem pH {D:Nat->Prop}{b:Bool}(hb:Below W.heap.size W w'):Stp g D vs vt W n K E (.returned (.int .i64 (dd b))) w' (if b then .tk else .ref):=by
 cases b
 ·exact ⟨rfl,hb⟩
 ·exact ⟨rfl,hb⟩
theorem rR {D:Nat->Prop}(h:Psz g D W n K E vs vt) {v:Value}{i:It}(hv:Rep g D W v i) (t:Tv) :
  ∃f fi ca,v=.func (.func f) fi ca/\Ent f/\Da f (fi.push t.v++ca) W fun e w'=>Stp g D vs vt W n K E e w' (It.step t i):=by
 cases hv with
 |fl hx=>
  cases hx with
  |wd hl hd hn=>
   refine ⟨_,_,_,rfl,enters_of Tryz.func147 (by kernel_rfl) rfl,(kq _ _ _ _ t W hl hn).mono ?_⟩;rintro e w' ⟨rfl,hb⟩;exact pH hb
  |nm=>
   refine ⟨_,_,_,rfl,enters_of Tryz.func96 (by kernel_rfl) rfl,(jI t W).mono ?_⟩;rintro e w' ⟨rfl,hb⟩;exact pH hb
  |cs=>
   refine ⟨_,_,_,rfl,enters_of Tryz.func262 (by kernel_rfl) rfl,(gJ t W).mono ?_⟩;rintro e w' ⟨rfl,hb⟩;exact pH hb
  |mt m=>
   cases m with
   |block=>exact ⟨_,_,_,rfl,enters_of Tryz.func98 (by kernel_rfl) rfl,(wM h t).mono (fun e w' ha=>br (m:=.block) ha)⟩
   |variables=>exact ⟨_,_,_,rfl,enters_of Tryz.func189 (by kernel_rfl) rfl,(kY h t).mono (fun e w' ha=>br (m:=.variables) ha)⟩
   |constants=>exact ⟨_,_,_,rfl,enters_of Tryz.func190 (by kernel_rfl) rfl,(mi h t).mono (fun e w' ha=>br (m:=.constants) ha)⟩
   |procedure=>exact ⟨_,_,_,rfl,enters_of Tryz.func191 (by kernel_rfl) rfl,(lE h t).mono (fun e w' ha=>br (m:=.procedure) ha)⟩
   |params=>exact ⟨_,_,_,rfl,enters_of Tryz.func239 (by kernel_rfl) rfl,(sE h t).mono (fun e w' ha=>br (m:=.params) ha)⟩
   |param=>exact ⟨_,_,_,rfl,enters_of Tryz.func252 (by kernel_rfl) rfl,(vf h t).mono (fun e w' ha=>br (m:=.param) ha)⟩
   |typed=>exact ⟨_,_,_,rfl,enters_of Tryz.func219 (by kernel_rfl) rfl,(t7 h t).mono (fun e w' ha=>br (m:=.typed) ha)⟩
   |kind=>exact ⟨_,_,_,rfl,enters_of Tryz.func224 (by kernel_rfl) rfl,(yE h t).mono (fun e w' ha=>br (m:=.kind) ha)⟩
   |member=>exact ⟨_,_,_,rfl,enters_of Tryz.func240 (by kernel_rfl) rfl,(sJ h t).mono (fun e w' ha=>br (m:=.member) ha)⟩
   |body=>exact ⟨_,_,_,rfl,enters_of Tryz.func151 (by kernel_rfl) rfl,(zn h t).mono (fun e w' ha=>br (m:=.body) ha)⟩
   |statement=>exact ⟨_,_,_,rfl,enters_of Tryz.func192 (by kernel_rfl) rfl,(li h t).mono (fun e w' ha=>br (m:=.statement) ha)⟩
   |expr=>exact ⟨_,_,_,rfl,enters_of Tryz.func220 (by kernel_rfl) rfl,(yV h t).mono (fun e w' ha=>br (m:=.expr) ha)⟩
   |rel=>exact ⟨_,_,_,rfl,enters_of Tryz.func238 (by kernel_rfl) rfl,(AI h t).mono (fun e w' ha=>br (m:=.rel) ha)⟩
   |sum=>exact ⟨_,_,_,rfl,enters_of Tryz.func251 (by kernel_rfl) rfl,(Ap h t).mono (fun e w' ha=>br (m:=.sum) ha)⟩
   |term=>exact ⟨_,_,_,rfl,enters_of Tryz.func260 (by kernel_rfl) rfl,(xq h t).mono (fun e w' ha=>br (m:=.term) ha)⟩
   |factor=>exact ⟨_,_,_,rfl,enters_of Tryz.func264 (by kernel_rfl) rfl,(tf h t).mono (fun e w' ha=>br (m:=.factor) ha)⟩
   |object=>exact ⟨_,_,_,rfl,enters_of Tryz.func225 (by kernel_rfl) rfl,(sF h t).mono (fun e w' ha=>br (m:=.object) ha)⟩
   |index=>exact ⟨_,_,_,rfl,enters_of Tryz.func253 (by kernel_rfl) rfl,(vP h t).mono (fun e w' ha=>br (m:=.index) ha)⟩
   |selection=>exact ⟨_,_,_,rfl,enters_of Tryz.func254 (by kernel_rfl) rfl,(lm h t).mono (fun e w' ha=>br (m:=.selection) ha)⟩
   |args=>exact ⟨_,_,_,rfl,enters_of Tryz.func255 (by kernel_rfl) rfl,(zy h t).mono (fun e w' ha=>br (m:=.args) ha)⟩
   |list=>exact ⟨_,_,_,rfl,enters_of Tryz.func261 (by kernel_rfl) rfl,(yB h t).mono (fun e w' ha=>br (m:=.list) ha)⟩
 |lv nd=>
  refine ⟨_,_,_,rfl,enters_of Tryz.func146 (by kernel_rfl) rfl,(vF h.1 nd t h.2.1 h.2.2.1 h.2.2.2.2).mono ?_⟩;rintro e w' ⟨rfl,hG⟩;exact ⟨rfl,hG⟩
 |once hp=>
  refine ⟨_,_,_,rfl,enters_of Tryz.func222 (by kernel_rfl) rfl,(yl h.1 hp t h.2.2.2.1).mono ?_⟩;rintro e w' ⟨rfl,hG⟩;exact ⟨rfl,by simpa using hG⟩
 |again hp=>
  refine ⟨_,_,_,rfl,enters_of Tryz.func150 (by kernel_rfl) rfl,(xd h.1 hp t h.2.2.2.1).mono ?_⟩;rintro e w' ⟨rfl,hG⟩;exact ⟨rfl,by simpa using hG⟩
 |all hr=>
  refine ⟨_,_,_,rfl,enters_of Tryz.func243 (by kernel_rfl) rfl,(BE h.1 hr t h.2.2.2.1).mono ?_⟩;rintro e w' ⟨rfl,hG⟩;exact ⟨rfl,by simpa using hG⟩
theorem Rs.last {v:Value}{ys:List Value}{x:Value}(h:Rs W v (ys++[x])):∃b cap,v=.slice (some ⟨b,0,none⟩) (ys.length+1) cap/\ys.length+1<=cap/\W.cell? ⟨b,ys.length,none⟩=some x/\(∀j,W.frozen? ⟨b,j,none⟩=false)/\b<W.heap.size /\
  Rs (W.setCell ⟨b,ys.length,none⟩ .nilFunc) (.slice (some ⟨b,0,none⟩) ys.length cap) ys:=by
 rcases h.2 with ⟨_,h0⟩|⟨b,cap,cur,hv,h1,h2,h3,h4,h5,h6⟩
 ·simp at h0
 ·have hl:(ys++[x]).length=ys.length+1:=by simp
  rw [hl] at hv h3;have hc:=h.cells (g:=b) (by rw [hv];rfl) ys.length x (by simp);rw [Addr.add_lit,Nat.zero_add] at hc;refine ⟨b,cap,hv,h3,hc,fun j=>ak h2,ap h2,by simp,.inr ⟨b,cap,cur.setIfInBounds ys.length .nilFunc,rfl,h1,af h2 _ _,by omega,h4,by simpa using h5,?_⟩⟩;rw [hl] at h6
  have e:cur.toList.take (ys.length*1)=ys:=by
   have:=congrArg (List.take ys.length) h6;rw [List.take_take] at this
   simpa [Nat.min_eq_left] using this
  rw [Array.toList_setIfInBounds];rw [List.take_set_of_le (by omega)];exact e
theorem Al.snoc {α:Type}{R:Value->α->Prop}{vs:List Value}{xs:List α}{x:α}(h:Al R vs (xs++[x])):∃us u,vs=us++[u]/\Al R us xs/\R u x:=by
 induction xs generalizing vs with
 |nil=>
  cases h with
  |cons h1 h2=>cases h2;exact ⟨[],_,rfl,.nil,h1⟩
 |cons y r ih=>
  cases h with
  |cons h1 h2=>
   obtain ⟨us,u,rfl,a,b⟩:=ih h2;exact ⟨_ :: us,u,rfl,.cons h1 a,b⟩
structure Nx (g:Nat) (D:Nat->Prop) (vs vt:Value) (W W':World) (n:Int) (K:List It) (E:List Ev) (v:Value) (i:It):Prop where
 ps:∃vs',Ps g D W' n K E vs' vt/\vs'.ownBlock=vs.ownBlock
 rp:Rep g D W' v i
 kp:Kp (fun k=>k=g\/vs.ownBlock=some k\/vt.ownBlock=some k) W W'
theorem gC {D:Nat->Prop}(h:Ps g D W n (i :: K) E vs vt) (hK:K.length<=10000000) :
  Da 100 #[pt g] W fun e w'=>∃v,e=.returned v/\Nx g D vs vt W w' n K E v i:=by
 obtain ⟨xs,h1,h2⟩:=h.st;rw [List.reverse_cons] at h2;obtain ⟨ys,v,rfl,h3,h4⟩:=h2.snoc;obtain ⟨b,cap,rfl,hcap,hc,hf,hb,hR⟩:=h1.last;have hyl:ys.length<=10000000:=by rw [h3.len,List.length_reverse];exact hK
 have hbg:b≠g:=h1.ne h.pb (by decide) b rfl;have hN:∀k,D k->¬(k=b):=fun k hk e=>h.ds b rfl (e ▸ hk)
 have pb1:PB (W.setCell ⟨b,ys.length,none⟩ .nilFunc) g false 0 n (.slice (some ⟨b,0,none⟩) (ys.length+1) cap) vt:=h.pb.kp (Kp.set W b _ _) (fun e=>hbg e.symm);obtain ⟨fn,fi,ca,rfl⟩:=h4.isFn
 have HX:Hid (Nx g D (.slice (some ⟨b,0,none⟩) (ys.length+1) cap) vt W ((W.setCell ⟨b,ys.length,none⟩ .nilFunc).setCell ⟨g,3,none⟩ (.slice (some ⟨b,0,none⟩) ys.length cap)) n K E (.func fn fi ca) i):=by
  have k1:=Kp.set W b ys.length .nilFunc;have k2:=Kp.set (W.setCell ⟨b,ys.length,none⟩ .nilFunc) g 3 (.slice (some ⟨b,0,none⟩) ys.length cap);have hW:∀k o,D k->W.heap[k]?=some o->((W.setCell ⟨b,ys.length,none⟩ .nilFunc).setCell ⟨g,3,none⟩ (.slice (some ⟨b,0,none⟩) ys.length cap)).heap[k]?=some o:=fun k o hk ho=>k2.blk (k1.blk ho (hN k hk)) (fun e=>h.dg (e ▸ hk))
  refine ⟨⟨_,⟨af pb1 3 _,⟨ys,hR.kp k2 (hR.ne pb1 (by decide)),h3.mono (fun v x hx=>hx.turn (fun _ h=>h) hW)⟩,(h.ev.kp k1 (fun k hk e=>?_)).kp k2 ?_,h.dg,h.ds,h.dt,fun k hk=>Nat.lt_of_lt_of_le (Nat.lt_of_lt_of_le (h.dl k hk) k1.size) k2.size⟩,rfl⟩,h4.turn (fun _ h=>h) hW,?_⟩
  ·rcases h1.2 with ⟨e1,_⟩|⟨b',cap',cur,e1,_,e3,_⟩
   ·cases e1
   ·have e4:=congrArg Value.ownBlock e1;simp only [Value.ownBlock,Option.some.injEq] at e4;exact h.ev.ne e3 (by decide) k hk (e.trans e4)
  ·exact fun k hk e=>h.ev.ne h.pb (by decide) k hk e
  ·exact (k1.sub (fun k e=>.inr (.inl (by rw [e];rfl)))).step k2 (fun k _ e=>.inl e)
 obtain ⟨c0,c1,c2,c3,c4⟩:=h.pb.cells;have hfg:=h.pb.frozen 3;have hgl:=h.pb.lt;have d3:(W.setCell ⟨b,ys.length,none⟩ .nilFunc).cell? ⟨g,3,none⟩=some (.slice (some ⟨b,0,none⟩) (ys.length+1) cap):=aa pb1 rfl;have f3:(W.setCell ⟨b,ys.length,none⟩ .nilFunc).frozen? ⟨g,3,none⟩=false:=pb1.frozen 3;have fb:=hf ys.length;have q0:(0:Int)<=ys.length:=by omega
 have q1:(ys.length:Int)<(ys.length+1:Nat):=by omega
 have q2:((ys.length+1:Nat):Int)-1=ys.length:=by omega
 have q3:IntKind.i64.wrap (((ys.length+1:Nat):Int)-1)=(ys.length:Int):=by rw [IntKind.wrap_i64];omega
 have q4:ys.length<=cap:=by omega
 clear h h1 h2 h3 h4 hR hf hN pb1 hK
 go_enter Tryz.func100,Tryz.ntmps100
 go_wp2_with fail
 go_ret
 exact ⟨_,rfl,HX.out⟩
theorem zO (p:Nat->Prop):∀k,p k->∃m,p m/\∀j,p j->m<=j:=by
 intro k
 induction k using Nat.strongRecOn with
 |_ k ih=>
  intro h
  by_cases hs:∃j,j<k/\p j
  ·obtain ⟨j,hj,hp⟩:=hs;exact ih j hj hp
  ·exact ⟨k,h,fun j hp=>Nat.le_of_not_lt (fun hlt=>hs ⟨j,hlt,hp⟩)⟩
open Classical in
noncomputable def lst (J:Nat->Act->World->Prop) (a:Act) (w:World):Nat:=if h:∃k,J k a w then Classical.choose (zO (fun k=>J k a w) _ (Classical.choose_spec h)) else 0
theorem vD {J:Nat->Act->World->Prop}(h:∃k,J k a w):J (lst J a w) a w/\∀j,J j a w->lst J a w<=j:=by
 unfold lst;rw [dif_pos h];exact Classical.choose_spec (zO (fun k=>J k a w) _ (Classical.choose_spec h))
theorem oB {P:Program}{Q:Exit->Act->World->Prop}{r rest:Code}(l:Nat) (J:Nat->Act->World->Prop) (hf:findLabel (r.seq ((Code.label l).seq rest)) l=some (Code.skip.seq rest))
  (first:r.wp P (Exit.then (fun a w=>∃k,J k a w) (fun _ _ _=>False)) a w)
  (pass:∀k a w,J k a w->rest.wp P (Exit.jump l (fun a' w'=>∃k',k' < k/\J k' a' w') Q) a w):(Code.scope (r.seq ((Code.label l).seq rest))).wp P Q a w:=by
 have pass':∀a w,(∃k,J k a w)->rest.wp P (Exit.jump l (fun a' w'=>(∃k,J k a' w')/\lst J a' w' < lst J a w) Q) a w:=by
  intro a w h;refine wp_mono (pass _ a w (vD h).1) ?_;intro e a' w' he;cases e with
  |goto l'=>
   obtain ⟨rfl,k',hk,hJ⟩:=he;exact ⟨rfl,⟨k',hJ⟩,Nat.lt_of_le_of_lt ((vD ⟨k',hJ⟩).2 k' hJ) hk⟩
  |normal=>exact he
  |exit id=>exact he
  |ret=>exact he
  |panic ch=>exact he
  |outgrown=>exact he
 refine wp_scope_jumps l _ _ hf ?_ (fun a w h=>wp_seq (wp_skip (pass' a w h)));refine wp_seq (wp_mono first ?_);intro e a' w' h;cases e with
 |normal=>
  refine wp_seq (wp_label ?_);refine wp_mono (pass' a' w' h) ?_;intro e2 a2 w2 h2;cases e2 with
  |goto l'=>exact ⟨h2.1,h2.2.1⟩
  |normal=>exact h2
  |exit id=>exact h2
  |ret=>exact h2
  |panic ch=>exact h2
  |outgrown=>exact h2
 |goto l'=>exact h.elim
 |exit id=>exact h.elim
 |ret=>exact h.elim
 |panic ch=>exact h.elim
 |outgrown=>exact h.elim
structure Bd (k:Nat) (K:List It) (n:Int) (E:List Ev):Prop where
 wf:wfs K
 lv:((lvs K).length:Int)=n
 sn:(lvs K).length+k<=10000000
 sk:K.length+12*k<=9000000
 se:E.length+k<=900000000
theorem Bd.psz (h:Bd k K n E) {i:It}{K':List It}(hK:K=i :: K') {g:Nat}{D:Nat->Prop}{W:World}{vs vt:Value}(hp:Ps g D W n K' E vs vt):Psz g D W n K' E vs vt:=by
 have h1:=h.lv;have h2:=h.sn;have h3:=h.sk;have h4:=h.se;rw [hK] at h3;simp at h3;exact ⟨hp,by omega,by omega,by omega,by omega⟩
theorem Bd.go {d:Int}{o:List Ev}{r:List It}(h:Bd (k+1) (i :: K) n E) (hs:It.step t i=.go d o r):Bd k (r++K) (n+d) (E++o):=by
 obtain ⟨a1,a2,a3,a4⟩:=dV (K:=K) hs (h.wf i (List.mem_cons_self ..));have h1:=h.lv;have h2:=h.sn;have h3:=h.sk;have h4:=h.se;simp at h3;refine ⟨dy a1 (fun j hj=>h.wf j (List.mem_cons_of_mem _ hj)),by omega,?_,by simp;omega,by simp;omega⟩
 have hd:d<=1:=by
  cases i with
  |fl x=>
   cases x with
   |mt m=>
    simp only [It.step,Fl.step] at hs;cases hr:M.row t m with
    |ref=>rw [hr] at hs;cases hs
    |ex r'=>rw [hr] at hs;cases hs;omega
    |op nd r'=>rw [hr] at hs;cases hs;omega
   |_=>simp only [It.step,Fl.step] at hs;split at hs <;> cases hs
  |lv nd=>cases hs;omega
  |once p=>cases hs;omega
  |again p=>cases hs;omega
  |all r'=>cases hs;omega
 omega
theorem Ru.inv {R:Ro}(h:Ru t k K n E R):(K=[]/\R=.no)\/∃i L,K=i :: L/\((It.step t i=.ref/\R=.no)\/(∃k' d o r,k=k'+1/\It.step t i=.go d o r/\Ru t k' (r++L) (n+d) (E++o) R)\/(It.step t i=.tk/\R=.yes L n E)):=by
 cases h with
 |nil=>exact .inl ⟨rfl,rfl⟩
 |ref h=>exact .inr ⟨_,_,rfl,.inl ⟨h,rfl⟩⟩
 |tk h=>exact .inr ⟨_,_,rfl,.inr (.inr ⟨h,rfl⟩)⟩
 |go h h'=>exact .inr ⟨_,_,rfl,.inr (.inl ⟨_,_,_,_,rfl,h,h'⟩)⟩
def Rdp (g:Nat) (D:Nat->Prop) (vs vt:Value) (W:World) (t:Tv) (e:Ending) (w':World):Ro->Prop
 |.no=>e=.returned (.int .i64 120)/\∃n K E,aq g D vs vt W w' n K E
 |.yes K n E=>(1000<n->e=.returned (.int .i64 122)/\∃n K E,aq g D vs vt W w' n K E)/\(n<=1000->e=.returned (.int .i64 0)/\aq g D vs vt W w' n K (E++[⟨2,0,t⟩]))
def Jr (g:Nat) (D:Nat->Prop) (vs vt:Value) (W:World) (tb:Nat) (t:Tv) (R:Ro) (k:Nat) (a:Act) (w:World):Prop:=
 ∃n K E,aq g D vs vt W w n K E/\Ru t k K n E R/\Bd k K n E/\∃u5 u6 u7 u8 u9 u10 u11 u12 u13 u14 u15 u16 u17 u18 u19 u20 u21 u22 u23 u24 u25 u26 u27 u28 u29 u30 u31 u32 u33 u34 u35 u36 u37 u38 u39,a={ tmps:=#[pt g,.agg #[.int .u8 t.k,.string t.t,.int .i64 t.a,.int .i64 t.l,.int .i64 t.c,.int .i64 t.f],undef,.pointer (some ⟨tb,0,none⟩),.int .i64 0,u5,u6,u7,u8,u9,u10,u11,u12,u13,u14,u15,u16,u17,u18,u19,u20,u21,u22,u23,u24,u25,u26,u27,u28,u29,u30,u31,u32,u33,u34,u35,u36,u37,u38,u39],defers:=[] }
def Tb (W:World) (tb:Nat) (t:Tv):Prop:=W.heap[tb]?=some (.cells #[.int .u8 t.k,.string t.t,.int .i64 t.a,.int .i64 t.l,.int .i64 t.c,.int .i64 t.f] 37 (0,0))
theorem Tb.cells {W:World}{tb:Nat}{t:Tv}(h:Tb W tb t):W.cell? ⟨tb,0,none⟩=some (.int .u8 t.k)/\W.cell? ⟨tb,1,none⟩=some (.string t.t)/\W.cell? ⟨tb,2,none⟩=some (.int .i64 t.a)/\W.cell? ⟨tb,3,none⟩=some (.int .i64 t.l)/\W.cell? ⟨tb,4,none⟩=some (.int .i64 t.c)/\W.cell? ⟨tb,5,none⟩=some (.int .i64 t.f):=
 ⟨aa h rfl,aa h rfl,aa h rfl,aa h rfl,aa h rfl,aa h rfl⟩
theorem Tb.kp {W W':World}{tb:Nat}{t:Tv}(h:Tb W tb t) {g:Nat}{D:Nat->Prop}{n:Int}{K:List It}{E:List Ev}{vs vt:Value}(hp:Ps g D W n K E vs vt) (hk:Kp (fun k=>k=g\/vs.ownBlock=some k\/vt.ownBlock=some k) W W'):Tb W' tb t:=by
 refine hk.blk h ?_;obtain ⟨xs,h1,_⟩:=hp.st;rintro (e|e|e)
 ·subst e;have:=h.symm.trans hp.pb;injection this with e
  injection e with _ e
  exact absurd e (by decide)
 ·exact h1.ne h (by decide) tb e rfl
 ·exact hp.ev.ne h (by decide) tb e rfl
theorem mD {D:Nat->Prop}(hG:aq g D vs vt W w n (i :: K) E) (hB:Bd k (i :: K) n E) {tb:Nat}(hT:Tb w tb t) :
  Da 100 #[pt g] w fun e w1=>∃f fi ca,e=.returned (.func (.func f) fi ca)/\Ent f/\Tb w1 tb t /\
   Da f (fi.push t.v++ca) w1 fun e2 w2=>Tb w2 tb t/\(match It.step t i with
    |.tk=>e2=.returned (.int .i64 2)/\aq g D vs vt W w2 n K E
    |.ref=>e2=.returned (.int .i64 0)/\aq g D vs vt W w2 n K E
    |.go d o r=>e2=.returned (.int .i64 1)/\aq g D vs vt W w2 (n+d) (r++K) (E++o)):=by
 obtain ⟨D1,vs1,vt1,p1,k1,ns1,nt1,d1,d2⟩:=hG;have hz:=hB.sk;simp at hz;refine (gC p1 (by omega)).mono ?_;rintro e w1 ⟨v,rfl,hx⟩;have hT1:=hT.kp p1 hx.kp;obtain ⟨vs2,p2,e2⟩:=hx.ps;obtain ⟨f,fi,ca,rfl,eg,hc⟩:=rR (hB.psz rfl p2) hx.rp t;refine ⟨f,fi,ca,rfl,eg,hT1,hc.mono ?_⟩;intro e3 w3 hs
 have gg:∀{n' K' E'},aq g D1 vs2 vt1 w1 w3 n' K' E'->Tb w3 tb t/\aq g D vs vt W w3 n' K' E':=by
  intro n' K' E' h;have h2:aq g D1 vs1 vt1 w w3 n' K' E':=aq.go hx.kp (.inl e2) (Nb.refl _ _) (fun _ h=>h) (fun _ h=>.inl h) h;refine ⟨?_,aq.go k1 ns1 nt1 d1 d2 h2⟩;obtain ⟨_,_,_,_,k5,_⟩:=h;exact hT1.kp p2 k5
 cases hst:It.step t i with
 |tk=>
  rw [hst] at hs;obtain ⟨a,b⟩:=gg (p2.quiet hs.2);exact ⟨a,hs.1,b⟩
 |ref=>
  rw [hst] at hs;obtain ⟨a,b⟩:=gg (p2.quiet hs.2);exact ⟨a,hs.1,b⟩
 |go d o r=>
  rw [hst] at hs;obtain ⟨a,b⟩:=gg hs.2;exact ⟨a,hs.1,b⟩
theorem aq.drew {D:Nat->Prop}(h:aq g D vs vt W w n K E) (hb:Below w.heap.size w w'):aq g D vs vt W w' n K E:=by
 obtain ⟨D1,vs1,vt1,p1,k1,ns1,nt1,d1,d2⟩:=h;exact aq.go k1 ns1 nt1 d1 d2 (p1.quiet hb)
theorem kn {D:Nat->Prop}(h:aq g D vs vt W w n K E) (d:Ev) (hl:E.length<=1000000000) :
  Da 99 #[pt g,d.v] w fun e w'=>e=.returned (.tuple #[])/\aq g D vs vt W w' n K (E++[d]):=by
 obtain ⟨D1,vs1,vt1,p1,k1,ns1,nt1,d1,d2⟩:=h;refine (k9 p1 d hl).mono ?_;rintro e w' ⟨rfl,⟨vt2,p2,n2⟩,k2⟩;exact ⟨rfl,aq.go k1 ns1 nt1 d1 d2 ⟨D1,vs1,vt2,p2,k2.sub (fun k h=>h.elim .inl (fun h=>.inr (.inr h))),Nb.refl _ _,n2,fun _ h=>h,fun _ h=>.inl h⟩⟩
theorem Tb.below {tb:Nat}(h:Tb W tb t) (hb:Below W.heap.size W W'):Tb W' tb t:=ab h hb
set_option maxRecDepth 100000 in
theorem ig {D:Nat->Prop}(h:Ps g D W n K E vs vt) (t:Tv) (h7:(t.k == 7)=false) (h8:(t.k == 8)=false) {k:Nat}{R:Ro}(hR:Ru t k K n E R) (hB:Bd k K n E) :
  Da 55 #[pt g,t.v] W fun e w'=>Rdp g D vs vt W t e w' R:=by
 have hG0:aq g D vs vt W (W.alloc (.cells #[.int .u8 t.k,.string t.t,.int .i64 t.a,.int .i64 t.l,.int .i64 t.c,.int .i64 t.f] 37)) n K E:=h.quiet (ai _ _);have hT0:Tb (W.alloc (.cells #[.int .u8 t.k,.string t.t,.int .i64 t.a,.int .i64 t.l,.int .i64 t.c,.int .i64 t.f] 37)) W.heap.size t:=am _ _;have HJ:Hid (aq g D vs vt W (W.alloc (.cells #[.int .u8 t.k,.string t.t,.int .i64 t.a,.int .i64 t.l,.int .i64 t.c,.int .i64 t.f] 37)) n K E/\Tb (W.alloc (.cells #[.int .u8 t.k,.string t.t,.int .i64 t.a,.int .i64 t.l,.int .i64 t.c,.int .i64 t.f] 37)) W.heap.size t/\Ru t k K n E R/\Bd k K n E):=⟨hG0,hT0,hR,hB⟩;clear hG0 hT0 hR hB h
 dsimp only [Tv.v]
 go_enter Tryz.func55,Tryz.ntmps55
 go_wp2_with fail
 refine oB 0 (fun k a w=>Jr g D vs vt W W.heap.size t R k a w/\Tb w W.heap.size t) (by rfl) ?_ ?_
 ·go_wp2_with fail
  exact ⟨k,⟨n,K,E,HJ.out.1,HJ.out.2.2.1,HJ.out.2.2.2,_,_,_,_,_,_,_,_,_,_,_,_,_,_,_,_,_,_,_,_,_,_,_,_,_,_,_,_,_,_,_,_,_,_,_,rfl⟩,HJ.out.2.1⟩
 ·rintro k a w ⟨⟨n,K,E,hG,hR,hB,u5,u6,u7,u8,u9,u10,u11,u12,u13,u14,u15,u16,u17,u18,u19,u20,u21,u22,u23,u24,u25,u26,u27,u28,u29,u30,u31,u32,u33,u34,u35,u36,u37,u38,u39,rfl⟩,hT⟩;have hG':=hG;obtain ⟨D1,vs1,vt1,p1,_⟩:=hG';obtain ⟨xs,r1,r2⟩:=p1.st;have hxl:xs.length=K.length:=by rw [r2.len,List.length_reverse]
  obtain ⟨pp,cp,rfl,_⟩:=r1.shape;have c3:w.cell? ⟨g,3,none⟩=some (.slice pp xs.length cp):=aa p1.pb rfl;have HE:Hid (∃n K E,aq g D vs vt W w n K E):=⟨n,K,E,hG⟩;obtain ⟨tb,htb⟩:∃tb,tb=W.heap.size:=⟨_,rfl⟩;rw [<-htb] at hT ⊢;have HTB:Hid (tb=W.heap.size):=htb;clear p1 r1 r2 h7 h8 HJ htb
  rcases hR.inv with ⟨rfl,rfl⟩|⟨i,L,rfl,⟨hs,rfl⟩|⟨k',d,o,r,rfl,hs,hR'⟩|⟨hs,rfl⟩⟩
  ·clear hR;have q1:((xs.length:Int) == 0)=true:=by simp at hxl;simp [hxl]
   clear hxl hG hB hT
   go_wp2_with fail
   simp only [Exit.jump]
   go_ret
   exact ⟨rfl,HE.out⟩
  ·clear hR;have q1:((xs.length:Int) == 0)=false:=by rw [beq_eq_false_iff_ne];have:xs.length=L.length+1:=(by simpa using hxl);omega
   have HA:Hid (∀V,Below w.heap.size w V->Da 100 #[pt g] V fun e w1=>∃f fi ca,e=.returned (.func (.func f) fi ca)/\Ent f/\Tb w1 tb t/\Da f (fi.push (.agg #[.int .u8 t.k,.string t.t,.int .i64 t.a,.int .i64 t.l,.int .i64 t.c,.int .i64 t.f])++ca) w1 fun e2 w2=>Tb w2 tb t/\e2=.returned (.int .i64 0)/\aq g D vs vt W w2 n L E):=fun V hb=>by
    have:=mD (hG.drew hb) hB (hT.below hb);rw [hs] at this;exact this
   obtain ⟨m0,m1,m2,m3,m4,m5⟩:=hT.cells;clear hxl hG hB hT hs HE
   go_wp2_with fail
   go_region_with (first
    | (go_at_call 100;refine (HA.out _ (Below.refl _ _).drew).mono ?_;rintro e w1 ⟨f,fi,ca,rfl,eg,hT1,hc⟩;obtain ⟨m0,m1,m2,m3,m4,m5⟩:=hT1.cells;have HC:Hid (Da f (fi.push (.agg #[.int .u8 t.k,.string t.t,.int .i64 t.a,.int .i64 t.l,.int .i64 t.c,.int .i64 t.f])++ca) w1 fun e2 w2=>Tb w2 tb t/\e2=.returned (.int .i64 0)/\aq g D vs vt W w2 n L E):=hc;clear hc hT1)
    | (refine HC.out.mono ?_;rintro e w2 ⟨hT2,rfl,hG2⟩;have HG2:Hid (Tb w2 tb t/\aq g D vs vt W w2 n L E):=⟨hT2,hG2⟩;clear hT2 hG2))
   all_goals (
    go_wp2_with fail
    simp only [Exit.jump]
    go_ret
    exact ⟨rfl,_,_,_,HG2.out.2⟩)
  ·clear hR;have q1:((xs.length:Int) == 0)=false:=by rw [beq_eq_false_iff_ne];have:xs.length=L.length+1:=(by simpa using hxl);omega
   have HA:Hid (∀V,Below w.heap.size w V->Da 100 #[pt g] V fun e w1=>∃f fi ca,e=.returned (.func (.func f) fi ca)/\Ent f/\Tb w1 tb t/\Da f (fi.push (.agg #[.int .u8 t.k,.string t.t,.int .i64 t.a,.int .i64 t.l,.int .i64 t.c,.int .i64 t.f])++ca) w1 fun e2 w2=>Tb w2 tb t/\e2=.returned (.int .i64 1)/\aq g D vs vt W w2 (n+d) (r++L) (E++o)):=fun V hb=>by
    have:=mD (hG.drew hb) hB (hT.below hb);rw [hs] at this;exact this
   have HX:Hid (Ru t k' (r++L) (n+d) (E++o) R/\Bd k' (r++L) (n+d) (E++o)):=⟨hR',hB.go hs⟩;obtain ⟨m0,m1,m2,m3,m4,m5⟩:=hT.cells;clear hxl hG hB hT hs HE hR'
   go_wp2_with fail
   go_region_with (first
    | (go_at_call 100;refine (HA.out _ (Below.refl _ _).drew).mono ?_;rintro e w1 ⟨f,fi,ca,rfl,eg,hT1,hc⟩;obtain ⟨m0,m1,m2,m3,m4,m5⟩:=hT1.cells;have HC:Hid (Da f (fi.push (.agg #[.int .u8 t.k,.string t.t,.int .i64 t.a,.int .i64 t.l,.int .i64 t.c,.int .i64 t.f])++ca) w1 fun e2 w2=>Tb w2 tb t/\e2=.returned (.int .i64 1)/\aq g D vs vt W w2 (n+d) (r++L) (E++o)):=hc;clear hc hT1)
    | (refine HC.out.mono ?_;rintro e w2 ⟨hT2,rfl,hG2⟩;have HG2:Hid (Tb w2 tb t/\aq g D vs vt W w2 (n+d) (r++L) (E++o)):=⟨hT2,hG2⟩;clear hT2 hG2))
   all_goals (
    go_wp2_with fail
    go_step3
    refine ⟨rfl,k',Nat.lt_succ_self _,?_⟩;exact ⟨⟨n+d,r++L,E++o,HG2.out.2,HX.out.1,HX.out.2,_,_,_,_,_,_,_,_,_,_,_,_,_,_,_,_,_,_,_,_,_,_,_,_,_,_,_,_,_,_,_,_,_,_,_,rfl⟩,HG2.out.1⟩)
  ·clear hR;have q1:((xs.length:Int) == 0)=false:=by rw [beq_eq_false_iff_ne];have:xs.length=L.length+1:=(by simpa using hxl);omega
   have HA:Hid (∀V,Below w.heap.size w V->Da 100 #[pt g] V fun e w1=>∃f fi ca,e=.returned (.func (.func f) fi ca)/\Ent f/\Tb w1 tb t/\Da f (fi.push (.agg #[.int .u8 t.k,.string t.t,.int .i64 t.a,.int .i64 t.l,.int .i64 t.c,.int .i64 t.f])++ca) w1 fun e2 w2=>Tb w2 tb t/\e2=.returned (.int .i64 2)/\aq g D vs vt W w2 n L E):=fun V hb=>by
    have:=mD (hG.drew hb) hB (hT.below hb);rw [hs] at this;exact this
   have HL:Hid (E.length<=1000000000):=by have:=hB.se;show E.length<=_;omega
   obtain ⟨m0,m1,m2,m3,m4,m5⟩:=hT.cells;clear hxl hG hB hT hs HE
   by_cases hn:1000<n
   ·go_wp2_with fail
    go_region_with (first
     | (go_at_call 100;refine (HA.out _ (Below.refl _ _).drew).mono ?_;rintro e w1 ⟨f,fi,ca,rfl,eg,hT1,hc⟩;obtain ⟨m0,m1,m2,m3,m4,m5⟩:=hT1.cells;have HC:Hid (Da f (fi.push (.agg #[.int .u8 t.k,.string t.t,.int .i64 t.a,.int .i64 t.l,.int .i64 t.c,.int .i64 t.f])++ca) w1 fun e2 w2=>Tb w2 tb t/\e2=.returned (.int .i64 2)/\aq g D vs vt W w2 n L E):=hc;clear hc hT1)
     | (refine HC.out.mono ?_;rintro e w2 ⟨hT2,rfl,hG2⟩;have HG2:Hid (Tb w2 tb t/\aq g D vs vt W w2 n L E):=⟨hT2,hG2⟩;have d2:w2.cell? ⟨g,2,none⟩=some (.int .i64 n):=(by obtain ⟨_,_,_,p,_⟩:=hG2;exact aa p.pb rfl);clear hT2 hG2))
    all_goals (
     go_wp2_with fail
     simp only [Exit.jump]
     go_ret
     exact ⟨fun _=>⟨rfl,_,_,_,HG2.out.2⟩,fun hh=>absurd hh (by omega)⟩)
   ·go_wp2_with fail
    go_region_with (first
     | (go_at_call 100;refine (HA.out _ (Below.refl _ _).drew).mono ?_;rintro e w1 ⟨f,fi,ca,rfl,eg,hT1,hc⟩;obtain ⟨m0,m1,m2,m3,m4,m5⟩:=hT1.cells;have HC:Hid (Da f (fi.push (.agg #[.int .u8 t.k,.string t.t,.int .i64 t.a,.int .i64 t.l,.int .i64 t.c,.int .i64 t.f])++ca) w1 fun e2 w2=>Tb w2 tb t/\e2=.returned (.int .i64 2)/\aq g D vs vt W w2 n L E):=hc;clear hc hT1)
     | (refine HC.out.mono ?_;rintro e w2 ⟨hT2,rfl,hG2⟩;have HG2:Hid (Tb w2 tb t/\aq g D vs vt W w2 n L E):=⟨hT2,hG2⟩;have d2:w2.cell? ⟨g,2,none⟩=some (.int .i64 n):=(by obtain ⟨_,_,_,p,_⟩:=hG2;exact aa p.pb rfl);obtain ⟨z0,z1,z2,z3,z4,z5⟩:=hT2.cells;clear hT2 hG2))
    all_goals (
     have HT3:Hid (Da 99 #[pt g,.agg #[.int .u8 2,.int .u8 0,.int .u8 t.k,.string t.t,.int .i64 t.a,.int .i64 t.l,.int .i64 t.c,.int .i64 t.f]] w2 fun e w'=>e=.returned (.tuple #[])/\aq g D vs vt W w' n L (E++[⟨2,0,t⟩])):=kn HG2.out.2 ⟨2,0,t⟩ HL.out
     go_wp2_with (go_at_call 99;refine HT3.out.mono ?_;rintro e w3 ⟨rfl,hG3⟩;have HG3:Hid (aq g D vs vt W w3 n L (E++[⟨2,0,t⟩])):=hG3;clear hG3)
     simp only [Exit.jump]
     go_ret
     exact ⟨fun hh=>absurd hh (by omega),fun _=>⟨rfl,HG3.out⟩⟩)
theorem vq {D:Nat->Prop}(h:Ps g D W n K E vs vt) (t:Tv) (h7:(t.k == 7 || t.k == 8)=true) (hE:E.length<=1000000000) :
  Da 55 #[pt g,t.v] W fun e w'=>e=.returned (.int .i64 0)/\aq g D vs vt W w' n K (E++[⟨4,0,t⟩]):=by
 have hb:Below W.heap.size W (W.alloc (.cells #[.int .u8 t.k,.string t.t,.int .i64 t.a,.int .i64 t.l,.int .i64 t.c,.int .i64 t.f] 37)):=ai _ _;have HT:Hid (Da 99 #[pt g,.agg #[.int .u8 4,.int .u8 0,.int .u8 t.k,.string t.t,.int .i64 t.a,.int .i64 t.l,.int .i64 t.c,.int .i64 t.f]] (W.alloc (.cells #[.int .u8 t.k,.string t.t,.int .i64 t.a,.int .i64 t.l,.int .i64 t.c,.int .i64 t.f] 37)) fun e w'=>e=.returned (.tuple #[])/\aq g D vs vt W w' n K (E++[⟨4,0,t⟩])):=kn (h.quiet hb) ⟨4,0,t⟩ hE;clear h hb hE
 dsimp only [Tv.v]
 by_cases h1:(t.k == 7)=true
 ·clear h7
  go_enter Tryz.func55,Tryz.ntmps55
  go_wp2_with fail
  refine wp_scope_jumps 0 (fun _ _=>False) (fun _ _=>0) rfl ?_ (fun _ _ h=>h.elim)
  go_wp2_with (go_at_call 99;refine HT.out.mono ?_;rintro e w3 ⟨rfl,hG3⟩;have HG3:Hid (aq g D vs vt W w3 n K (E++[⟨4,0,t⟩])):=hG3;clear hG3)
  simp only [Exit.jump]
  go_ret
  exact ⟨rfl,HG3.out⟩
 ·have h2:(t.k == 7)=false:=by simpa using h1
  have h3:(t.k == 8)=true:=by rw [h2] at h7;simpa using h7
  clear h7 h1
  go_enter Tryz.func55,Tryz.ntmps55
  go_wp2_with fail
  refine wp_scope_jumps 0 (fun _ _=>False) (fun _ _=>0) rfl ?_ (fun _ _ h=>h.elim)
  go_wp2_with (go_at_call 99;refine HT.out.mono ?_;rintro e w3 ⟨rfl,hG3⟩;have HG3:Hid (aq g D vs vt W w3 n K (E++[⟨4,0,t⟩])):=hG3;clear hG3)
  simp only [Exit.jump]
  go_ret
  exact ⟨rfl,HG3.out⟩
theorem d8 {c:Bool}{e:Int}(h:PB W g c e n vs vt):Da 53 #[pt g] W fun r w'=>r=.returned (.int .i64 (if c then 4 else e))/\w'=W:=by
 obtain ⟨c0,c1,c2,c3,c4⟩:=h.cells;clear h;cases c
 ·go_enter Tryz.func53,Tryz.ntmps53
  go_wp2_with fail
  go_ret
  exact ⟨rfl,rfl⟩
 ·go_enter Tryz.func53,Tryz.ntmps53
  go_wp2_with fail
  go_ret
  exact ⟨rfl,rfl⟩
abbrev aJ:Value:=.slice none 0 0
theorem lP (W:World):Da 29 #[] W fun r w'=>r=.returned (pt W.heap.size)/\w'=W.alloc (.cells #[.bool false,.int .i64 0,.int .i64 0,aJ,aJ] 104):=by
 go_enter Tryz.func29,Tryz.ntmps29
 go_wp2_with fail
 go_ret
 exact ⟨rfl,rfl⟩
structure Lv1 (S:Nat->Prop) (W:World) (g:Nat) (K:List It) (n:Int) (D:Nat->Prop) (vs:Value):Prop where
 ps:Ps g D W n K [] vs aJ
 sg:S g
 ss:∀k,vs.ownBlock=some k->S k
 sd:∀k,D k->S k
def Pq (S:Nat->Prop) (W:World) (g:Nat):Pst->Prop
 |.live K n=>∃D vs,Lv1 S W g K n D vs
 |.stuck e n=>PB W g false e n aJ aJ/\S g
 |.shut=>PB W g true 0 0 aJ aJ/\S g
theorem Pq.kp {S U:Nat->Prop}{W W':World}{g:Nat}{st:Pst}(h:Pq S W g st) (hk:Kp U W W') (hU:∀k,S k->¬U k):Pq S W' g st:=by
 cases st with
 |live K n=>
  obtain ⟨D,vs,h⟩:=h;obtain ⟨xs,h1,h2⟩:=h.ps.st;exact ⟨D,vs,⟨h.ps.pb.kp hk (hU g h.sg),⟨xs,h1.kp hk (fun k e=>hU k (h.ss k e)),h2.mono (fun v x hx=>hx.turn (fun _ h=>h) (fun k o hd ho=>hk.blk ho (hU k (h.sd k hd))))⟩,h.ps.ev.kp hk (fun k e=>by cases e),h.ps.dg,h.ps.ds,h.ps.dt,fun k hd=>Nat.lt_of_lt_of_le (h.ps.dl k hd) hk.size⟩,h.sg,h.ss,h.sd⟩
 |stuck e n=>exact ⟨h.1.kp hk (hU g h.2),h.2⟩
 |shut=>exact ⟨h.1.kp hk (hU g h.2),h.2⟩
theorem Pq.below {S:Nat->Prop}(h:Pq S W g st) (hb:Below W.heap.size W W'):Pq S W' g st:=h.kp (Kp.of_below (S:=fun _=>False) hb) (fun _ _ h=>h)
structure Pa (S:Nat->Prop) (g:Nat) (W W':World) (v:Value) (ev:List Ev) (st:Pst):Prop where
 re:Re W' v ev
 ex:∃S',Pq S' W' g st/\(∀k,S k->S' k)/\(∀k,S' k->S k\/(W.heap.size<=k/\k<W'.heap.size))/\(∀k,v.ownBlock=some k->W.heap.size<=k/\¬S' k)
 kp:Kp S W W'
theorem lH {S:Nat->Prop}(h:Pq S W' g st) (hk:Kp S W W'):Pa S g W W' aJ [] st:=
 ⟨lA _,⟨S,h,fun _ h=>h,fun _ h=>.inl h,fun k e=>by cases e⟩,hk⟩
theorem yj {S:Nat->Prop}{K':List It}{n':Int}{D:Nat->Prop}(h:Lv1 S W g K n D vs) (hl:∀k,S k->k<W.heap.size) {E:List Ev}(hG:aq g D vs aJ W w n' K' E) :
  ∃vs' vt',PB w g false 0 n' vs' vt'/\Pa S g W (w.setCell ⟨g,4,none⟩ aJ) vt' E (.live K' n'):=by
 obtain ⟨D1,vs1,vt1,p1,k1,ns1,nt1,d1,d2⟩:=hG;have hk:=Kp.set w g 4 aJ;obtain ⟨xs,h1,h2⟩:=p1.st
 have hvt:∀k,vt1.ownBlock=some k->W.heap.size<=k:=by
  intro k e
  rcases nt1 with e1|⟨q,e1,hq⟩
  ·rw [e1] at e;cases e
  ·rw [e1] at e;simp at e;omega
 have hvs:∀k,vs1.ownBlock=some k->S k\/W.heap.size<=k:=by
  intro k e
  rcases ns1 with e1|⟨q,e1,hq⟩
  ·exact .inl (h.ss k (by rw [<-e1];exact e))
  ·rw [e1] at e;simp at e;exact .inr (by omega)
 have hsz:(w.setCell ⟨g,4,none⟩ aJ).heap.size=w.heap.size:=by show (w.heap.modify g _).size=_;rw [Array.size_modify]
 refine ⟨vs1,vt1,p1.pb,p1.ev.kp hk (p1.ev.ne p1.pb (by decide)),⟨fun k=>S k\/D1 k\/vs1.ownBlock=some k,⟨D1,vs1,⟨af p1.pb 4 _,⟨xs,h1.kp hk (h1.ne p1.pb (by decide)),h2.mono (fun v x hx=>hx.turn (fun _ h=>h) (fun k o hd ho=>hk.blk ho (fun e=>p1.dg (e ▸ hd))))⟩,lA _,p1.dg,p1.ds,(fun k e=>by cases e),(fun k hd=>by rw [hsz];exact p1.dl k hd)⟩,.inl h.sg,fun k e=>.inr (.inr e),fun k hd=>.inr (.inl hd)⟩,fun k hk=>.inl hk,?_,?_⟩,?_⟩
 ·rintro k (a|a|a)
  ·exact .inl a
  ·rcases d2 k a with b|b
   ·exact .inl (h.sd k b)
   ·exact .inr ⟨b,by rw [hsz];exact p1.dl k a⟩
  ·rcases hvs k a with b|b
   ·exact .inl b
   ·exact .inr ⟨b,by rw [hsz];exact h1.lt k a⟩
 ·intro k e;refine ⟨hvt k e,?_⟩;rintro (a|a|a)
  ·have:=hl k a;have:=hvt k e;omega
  ·exact p1.dt k e a
  ·obtain ⟨b,cap',cur,hv,hc⟩:∃b cap' cur,vs1=.slice (some ⟨b,0,none⟩) xs.length cap'/\w.heap[b]?=some (.cells cur 153 (0,0)):=by
    rcases h1.2 with ⟨e1,_⟩|⟨b,cap',cur,hv,_,h3,_⟩
    ·rw [e1] at a;cases a
    ·exact ⟨b,cap',cur,hv,h3⟩
   rw [hv] at a;simp only [Value.ownBlock,Option.some.injEq] at a;exact p1.ev.ne hc (by decide) k e a.symm
 ·refine (k1.sub ?_).step hk (fun k _ e=>by rw [e];exact h.sg);rintro k (e|e|e)
  ·rw [e];exact h.sg
  ·exact h.ss k e
  ·cases e
theorem AR {S:Nat->Prop}{D:Nat->Prop}(h:Lv1 S W g K n D vs) {n':Int}{K':List It}{E:List Ev}(hG:aq g D vs aJ W w n' K' E) (e m:Int) :
  (∃vs' vt',PB w g false 0 n' vs' vt')/\PB (((((w.setCell ⟨g,0,none⟩ (.bool false)).setCell ⟨g,1,none⟩ (.int .i64 e)).setCell ⟨g,2,none⟩ (.int .i64 m)).setCell ⟨g,3,none⟩ aJ).setCell ⟨g,4,none⟩ aJ) g false e m aJ aJ /\
  Pa S g W ((((((w.setCell ⟨g,0,none⟩ (.bool false)).setCell ⟨g,1,none⟩ (.int .i64 e)).setCell ⟨g,2,none⟩ (.int .i64 m)).setCell ⟨g,3,none⟩ aJ).setCell ⟨g,4,none⟩ aJ).setCell ⟨g,4,none⟩ aJ) aJ [] (.stuck e m):=by
 obtain ⟨D1,vs1,vt1,p1,k1,_⟩:=hG;have pb:=af (af (af (af (af p1.pb 0 (.bool false)) 1 (.int .i64 e)) 2 (.int .i64 m)) 3 aJ) 4 aJ;refine ⟨⟨vs1,vt1,p1.pb⟩,pb,lH ⟨af pb 4 _,h.sg⟩ ?_⟩;have k2:=((((((Kp.set w g 0 (.bool false)).trans (Kp.set _ g 1 (.int .i64 e))).trans (Kp.set _ g 2 (.int .i64 m))).trans (Kp.set _ g 3 aJ)).trans (Kp.set _ g 4 aJ)).trans (Kp.set _ g 4 aJ));refine (k1.sub ?_).step k2 (fun k _ e=>by rw [e];exact h.sg);rintro k (e|e|e)
 ·rw [e];exact h.sg
 ·exact h.ss k e
 ·cases e
theorem qu {S:Nat->Prop}{W:World}{g:Nat}{st:Pst}(h:Pq S W g st) (hl:∀k,S k->k<W.heap.size) (t:Tv) {c:Bool}{e n:Int}(hp:PB W g c e n aJ aJ) (hc:(if c then 4 else e)≠0) :
  Da 30 #[pt g,t.v] W fun r w'=>r=.returned (.tuple #[aJ,.int .i64 (if c then 4 else e)])/\Pa S g W w' aJ [] st:=by
 obtain ⟨z,hz⟩:∃z:Int,(if c then 4 else e)=z:=⟨_,rfl⟩;rw [hz] at hc ⊢;have hb:Below W.heap.size W (W.alloc (.cells #[.int .u8 t.k,.string t.t,.int .i64 t.a,.int .i64 t.l,.int .i64 t.c,.int .i64 t.f] 37)):=cz W t
 have HR:Hid (Da 53 #[pt g] (W.alloc (.cells #[.int .u8 t.k,.string t.t,.int .i64 t.a,.int .i64 t.l,.int .i64 t.c,.int .i64 t.f] 37)) fun r w'=>r=.returned (.int .i64 z)/\w'=W.alloc (.cells #[.int .u8 t.k,.string t.t,.int .i64 t.a,.int .i64 t.l,.int .i64 t.c,.int .i64 t.f] 37)):=by
  have:=d8 (hp.below hb);rw [hz] at this;exact this
 have HX:Hid (Pa S g W (W.alloc (.cells #[.int .u8 t.k,.string t.t,.int .i64 t.a,.int .i64 t.l,.int .i64 t.c,.int .i64 t.f] 37)) aJ [] st):=lH (h.below hb) (Kp.of_below hb);have hz1:(z != 0)=true:=by simpa using hc
 clear h hp hb hz hc hl
 dsimp only [Tv.v]
 go_enter Tryz.func30,Tryz.ntmps30
 go_wp2_with (go_at_call 53;refine HR.out.mono ?_;rintro r w1 ⟨rfl,rfl⟩)
 refine bodyPost_ret (v:=.tuple #[aJ,.int .i64 z]) (by simp [results,Tryz.f30,go_sem]) rfl ?_;exact ⟨rfl,HX.out⟩
end Go.Proofs.YtpdlohfdjiaegaaGreatDoor
