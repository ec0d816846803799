import Derived.Defers
import Derived.Test.YtcmbkeghnmgbfaaGreatDoorM10
set_option linter.all false
set_option maxHeartbeats 2000000
set_option maxRecDepth 100000
namespace Go.Proofs.YtcmbkeghnmgbfaaGreatDoor.Lx
open Go.Proofs.Tryz
open Go.RowKit
variable {g E k b f:Nat}{S t:ByteArray}{T:List Tk}{v vt vo:Value}{W w V w' B w'':World}{L C A:Int}{l:List Tv}
def LZ (own:Nat->Prop) (W:World) (g:Nat) (S:ByteArray) (T:List Tk) (k b f:Nat):Prop:=
 own g/\St S T k b f/\∃vt vo,fH W g false 0 0 0 0 k b (pL (bp S) b) (pC (bp S) b) f vt vo (.slice none 0 0)/\fJ own W vt ((bp S).extract b (bp S).size)/\je own W vo (bZ S)/\(∀q,vo.ownBlock=some q->vt.ownBlock≠some q)
def lY (own:Nat->Prop) (n:Nat) (q:Nat):Prop:=own q\/n<=q
structure Fd (own:Nat->Prop) (w w':World) (own':Nat->Prop) (v:Value) (l:List Tv):Prop where
 sub:∀q,own' q->own q\/w.heap.size<=q
 lt:∀q,own' q->q<w'.heap.size
 ap:∀q,v.ownBlock=some q->¬own' q
 row:Rt w.heap.size w' v l
 kp:Kp (lY own w.heap.size) w w'
theorem AS (W:World) :
  Kb 22 #[] W fun e w'=>∃g,e=.returned (.pointer (some ⟨g,0,none⟩))/\W.heap.size<=g/\g<w'.heap.size/\Below W.heap.size W w'/\LZ (fun q=>q=g) w' g ByteArray.empty [] 0 0 0:=by
 have G:=ku (mQ W)
 go_enter func22,ntmps22
 go_wp2_with(first|(go_at_call 25;refine G.out.mono ?_;rintro e F⟨rfl,u⟩))
 go_ret
 refine⟨F.heap.size,rfl,u.size,?_,u.alloc u.size _,rfl,St.zero,.slice none 0 0,.slice none 0 0,?_,eY _ _ ?_,vu _ _ ?_,fun q M=>by cases M⟩
 ·rw[Eq];omega
 ·have H:=(AB (bp ByteArray.empty)).1;have I:=(AB (bp ByteArray.empty)).2;show fH _ _ _ _ _ _ _ _ _ _ _ _ _ _ _;rw[H,I];exact World.alloc_heap_new F _
 ·have:=(bI ByteArray.empty);have O:=cC ByteArray.empty;have J:ByteArray.empty.size=0:=rfl;rw[ag _ _ _ (ge _)];omega
 ·rw[iE];have J:ByteArray.empty.size=0:=rfl;omega
theorem fJ.mono {S U:Nat->Prop}(h:fJ S W v t) (u:∀k,v.ownBlock=some k->U k):fJ U W v t:=⟨h.1,u⟩
theorem je.mono {S U:Nat->Prop}(h:je S W v t) (u:∀k,v.ownBlock=some k->U k):je U W v t:=⟨h.1,u⟩
theorem fJ.lt {S:Nat->Prop}{W:World}{v:Value}{t:ByteArray}(h:fJ S W v t):∀k,v.ownBlock=some k->k<W.heap.size:=fun k u=>by
 obtain⟨cs,f,e⟩:=h.u8 k u;exact ai e
theorem je.lt {S:Nat->Prop}{W:World}{v:Value}{t:ByteArray}(h:je S W v t):∀k,v.ownBlock=some k->k<W.heap.size:=fun k u=>by
 obtain⟨cs,f,e⟩:=h.u8 k u;exact ai e
def yW (own:Nat->Prop) (w:World) (g:Nat) (S:ByteArray) (T:List Tk) (v:Value) (E:Nat) (A L C:Int) (w':World):Prop:=
 ∃(new:List Tk) (own':Nat->Prop),Fd own w w' own' v (new.map (tv (bp S))) /\
  ((E=0/\A=0/\L=0/\C=0/\∃k' b' f',LZ own' w' g S (T++new) k' b' f') \/
  (E≠0/\∃a:Nat,A=a/\L=pL (bp S) a/\C=pC (bp S) a/\scn (bp S)=(T++new,E,a)/\¬fI (bp S) E a/\own' g/\JA w' g E a L C))
theorem LZ.kp {own:Nat->Prop}{W W':World}{g:Nat}{S:ByteArray}{T:List Tk}{k b f:Nat}(h:LZ own W g S T k b f) {U:Nat->Prop}(F:Kp U W W') (u:∀q,own q->¬U q):LZ own W' g S T k b f:=by
 obtain⟨H,M,vt,vo,O,I,J,h6⟩:=h;exact⟨H,M,vt,vo,F.blk O (u g H),I.kp F (fun q G=>u q (I.2 q G)),J.kp F (fun q G=>u q (J.2 q G)),h6⟩
theorem Fd.step {own own':Nat->Prop}{w w' w'':World}{v:Value}{l:List Tv}(h:Fd own w w' own' v l) {r:Nat}{cs:Array Value}{f:Nat × Nat}(H:w'.heap[r]?=some (.cells cs 33 f)) (u:Kp (fun q=>q=r) w' w'') (F:w.heap.size<=r):Fd own w w'' own' v l:=
 ⟨h.sub,fun q G=>Kl (h.lt q G) u.size,h.ap,h.row.kp u (h.row.ne H (by decide)),h.kp.step u (fun j _ e=>.inr (by rw[e];exact F))⟩
theorem LZ.typ {own:Nat->Prop}{W':World}(h:LZ own W g S T k b f) {r:Nat}{cs:Array Value}{fr:Nat × Nat}(u:W.heap[r]?=some (.cells cs 33 fr)) (F:Kp (fun q=>q=r) W W'):LZ own W' g S T k b f:=by
 obtain⟨J,M,vt,vo,G,H,I,O⟩:=h;refine⟨J,M,vt,vo,F.blk G (fun e=>?_),H.kp F (H.ne u (by decide)),I.kp F (I.ne u (by decide)),O⟩;rw[<-e,show W.heap[g]?=_ from G]at u;cases u
theorem yW.typ {own:Nat->Prop}(h:yW own w g S T v E A L C w') {r:Nat}{cs:Array Value}{fr:Nat × Nat}(u:w'.heap[r]?=some (.cells cs 33 fr)) (J:Kp (fun q=>q=r) w' w'') (h1:w.heap.size<=r):yW own w g S T v E A L C w'':=by
 obtain⟨new,own',hf,hz⟩:=h;refine⟨new,own',hf.step u J h1,?_⟩
 rcases hz with⟨F,G,H,I,k',O,f',hl⟩|⟨F,a,G,H,I,e5,e6,e7,M⟩
 ·exact .inl ⟨F,G,H,I,k',O,f',hl.typ u J⟩
 ·refine .inr ⟨F,a,G,H,I,e5,e6,e7,J.blk M (fun e=>?_)⟩;rw[<-e,show w'.heap[g]?=_ from M]at u;cases u
theorem yW.box {own:Nat->Prop}(h:yW own w g S T v E A L C w') {r:Nat}{a b c:Int}(u:aZ w r a b c) (G:¬own r):aZ w' r a b c:=by
 obtain⟨new,own',F,_⟩:=h
 exact F.kp.blk u (fun e=>by
  rcases e with e|e
  ·exact G e
  ·have:=u.lt;omega)
theorem yg {own:Nat->Prop}(hs:S.size<=2147483647) {E:Nat}
  (h:(E=0/\∃k b f new,aR (lY own w.heap.size) w V g (bp S) (bZ S) T (bp S).size k b f new)\/(E≠0/\Ju (lY own w.heap.size) w V g (bp S) (bZ S) T True E)) :
  Kb 34 #[.pointer (some ⟨g,0,none⟩),.int .i64 E] V fun I w'=>∃v A L C,I=.returned (.tuple #[v,.int .i64 E,.agg #[.int .i64 A,.int .i64 L,.int .i64 C]])/\yW own w g S T v E A L C w':=by
 have hz:=bI S;have hw:=cC S
 rcases h with⟨rfl,k,b,f,new,J⟩|⟨hE,k,b,f,p',new,a,O,h2,h3,h4,h5,h6,h7⟩
 ·refine(vK J.lq).mono ?_;rintro I w'⟨v,rfl,H,vt,vo,G,F⟩;refine⟨v,0,0,0,rfl,new,fun q=>q=g\/vt.ownBlock=some q\/vo.ownBlock=some q,⟨?_,?_,?_,H,F.kp⟩,.inl ⟨rfl,rfl,rfl,rfl,k,b,f,.inl rfl,⟨J.told,J.ms⟩,vt,vo,G,F.rt.mono (fun q u=>.inr (.inl u)),F.ro.mono (fun q u=>.inr (.inr u)),F.ap⟩⟩
  ·rintro q (rfl|u|u)
   ·exact F.sg
   ·exact F.rt.2 q u
   ·exact F.ro.2 q u
  ·rintro q (rfl|u|u)
   ·exact ai G
   ·exact F.rt.lt q u
   ·exact F.ro.lt q u
  ·rintro q u (rfl|h|h)
   ·exact H.ne G (by decide) _ u rfl
   ·obtain⟨cs,ff,e⟩:=F.rt.u8 q h;exact H.ne e (by decide) _ u rfl
   ·obtain⟨cs,ff,e⟩:=F.ro.u8 q h;exact H.ne e (by decide) _ u rfl
 ·have M:lY own w.heap.size g:=by
   obtain⟨vt,vo,vs,G,F⟩:=O;exact F.sg
  refine(qZ O (by omega) h4 h2 h3 E a hE h7).mono ?_;rintro I w'⟨v,rfl,H,G,F⟩;refine⟨v,a,pL (bp S) a,pC (bp S) a,rfl,new,fun q=>q=g,⟨?_,?_,?_,H,F⟩,.inr ⟨hE,a,rfl,rfl,rfl,h5,h6 trivial,rfl,G⟩⟩
  ·rintro q rfl;exact M
  ·rintro q rfl;exact ai G
  ·rintro q u rfl;exact H.ne G (by decide) _ u rfl
theorem St.bds (h:St S T k b f):b<=(bp S).size/\b<=S.size/\T.length<=S.size:=by
 have u:=h.told.bds;have F:=bI S;have G:=cC S;exact⟨u.2.1,by omega,by omega⟩
theorem mP (V:World) (y:ByteArray):(convert 9 52 (.string y)).run Tryz.prog V=.ok (.slice (some ⟨V.heap.size,0,none⟩) y.size (grownCap V y.size 0 5)) (V.drew.alloc (.cells (bytesRow y (grownCap V y.size 0 5)) 5 ((bytesRow y (grownCap V y.size 0 5)).size,(bytesRow y (grownCap V y.size 0 5)).size+1))):=
 run_bytes_of_string V _ _ _ y underlying9 underlying52 underlying5
theorem iT (y:ByteArray) (c j:Nat) (h:j<y.size):(bytesRow y c)[j]?=some (.int .u8 (av y j)):=by
 have F:j<y.data.size:=h;have u:=oa y j h;rw[lU]at u;unfold bc at u;unfold bytesRow;rw[Array.getElem?_append_left (by simpa using F),Array.getElem?_map,<-Mj,<-Lb];exact u
theorem vD {A B:Nat}(h:Rt B w v l) (J:A<=B):Rt A w v l:=by
 refine⟨h.1,?_⟩
 rcases h.2 with F|⟨g,cap,u,rfl,G,H,I⟩
 ·exact .inl F
 ·exact .inr ⟨g,cap,u,rfl,Kh J G,H,I⟩
theorem iJ {own:Nat->Prop}(u:Kc W B) (h:Kp (lY own B.heap.size) B V):Kp (lY own W.heap.size) W V:=
 (Kp.of_below u).step h (fun j F e=>by
  rcases e with e|e
  ·exact .inl e
  ·have:=u.size;omega)
theorem Fd.base {own own':Nat->Prop}(u:Kc W B) (h:Fd own B V own' v l):Fd own W V own' v l:=
 ⟨fun q F=>by
  rcases h.sub q F with e|e
  ·exact .inl e
  ·exact .inr (Kh u.size e),h.lt,h.ap,vD h.row u.size,iJ u h.kp⟩
theorem yW.base {own:Nat->Prop}(u:Kc W B) (h:yW own B g S T v E A L C V):yW own W g S T v E A L C V:=by
 obtain⟨new,own',F,G⟩:=h;exact⟨new,own',F.base u,G⟩
theorem AF {own:Nat->Prop}(I:fH V g false 0 0 0 0 k b L C f vt vo (.slice none 0 0)) (J:own g) (H:fJ own V vt t) (G:∀q,own q->q<V.heap.size) (Y:ByteArray) (len cap:Nat) (hl:len=Y.size) (R:Array Value) (hR:∀j,j<Y.size->R[j]?=some (.int .u8 (av Y j))) (fr:Nat × Nat) :
  Lq (lY own V.heap.size) V ((V.setCell ⟨g,11,none⟩ (.slice (some ⟨V.heap.size,0,none⟩) len cap)).alloc (.cells R 5 fr)).drew g k b L C f t Y []:=by
 subst hl;have M:=Kp.set V g 11 (.slice (some ⟨V.heap.size,0,none⟩) Y.size cap);have y1:=ab I 11 (.slice (some ⟨V.heap.size,0,none⟩) Y.size cap);have hsz:(V.setCell ⟨g,11,none⟩ (.slice (some ⟨V.heap.size,0,none⟩) Y.size cap)).heap.size=V.heap.size:=Nt _ _ _;have O:=World.alloc_heap_new (V.setCell ⟨g,11,none⟩ (.slice (some ⟨V.heap.size,0,none⟩) Y.size cap)) (.cells R 5 fr);rw[hsz]at O;have F:Below (V.setCell ⟨g,11,none⟩ (.slice (some ⟨V.heap.size,0,none⟩) Y.size cap)).heap.size (V.setCell ⟨g,11,none⟩ (.slice (some ⟨V.heap.size,0,none⟩) Y.size cap)) ((V.setCell ⟨g,11,none⟩ (.slice (some ⟨V.heap.size,0,none⟩) Y.size cap)).alloc (.cells R 5 fr)).drew:=((gt _ _).alloc (ge _) _).drew;refine⟨vt,_,.slice none 0 0,af y1 F,?_,.inl J,fun q u=>.inr u,?_,⟨.inr ⟨V.heap.size,cap,R,fr,rfl,O,hR⟩,fun q u=>?_⟩,fun q u e=>?_,kV _ _⟩
 ·exact((Kp.refl (lY own V.heap.size) V).step M (fun j _ e=>by rw[e];exact .inl J)).then F
 ·exact((H.mono (fun q u=>.inl (H.2 q u))).kp M (H.ne I (by decide))).below F
 ·cases u;exact .inr (ge _)
 ·cases u;exact absurd (G _ (H.2 _ e)) (N0 _)
theorem tJ {own:Nat->Prop}(h:LZ own W g S T k b f) (ah:∀q,own q->q<W.heap.size) (hK:∀V,Kp (lY own W.heap.size) W V->fg V) (x:ByteArray) (hs:(S++x).size<=2147483647) :
  Kb 12 #[.pointer (some ⟨g,0,none⟩),.string x] W fun e w'=>∃(v:Value) (E:Nat) (A L C:Int),e=.returned (.tuple #[v,.int .i64 E,.agg #[.int .i64 A,.int .i64 L,.int .i64 C]])/\yW own W g (S++x) T v E A L C w':=by
 obtain⟨h1,h2,vt,vo,h3,h4,h5,h6⟩:=h;have hsz:=ax S x;have av:=ax (bZ S) x;have bb:=iE S;have aq:=bI S;have bc:=cC S;have be:=cC (bZ S++x);obtain⟨op,oc,eo⟩:=h5.shape
 have HB:Hid (∀V,Kc W V->fH V g false 0 0 0 0 k b (pL (bp S) b) (pC (bp S) b) f vt vo (.slice none 0 0)/\Lz (lY own W.heap.size) W V g vt vo (.slice none 0 0) ((bp S).extract b (bp S).size) (bZ S) []):=fun V G=>
  ⟨af h3 G,Kp.of_below G,.inl h1,fun q M=>.inr M,(h4.mono (fun q M=>.inl (h4.2 q M))).below G,(h5.mono (fun q M=>.inl (h5.2 q M))).below G,h6,kV _ _⟩
 have ac:Hid (∀B V,Kc W B->Lq (lY own B.heap.size) B V g k b (pL (bp S) b) (pC (bp S) b) f ((bp S).extract b (bp S).size) (bZ (S++x)) []->Kb 35 #[.pointer (some ⟨g,0,none⟩),.string ((bZ S++x).extract 0 (wh (bZ S++x)))] V fun e w'=>Jn (lY own B.heap.size) B g (bp (S++x)) (bZ (S++x)) T e w'):=fun B V hB G=>by
  obtain⟨t1,t2⟩:=h2.feed x;have hb:=h2.bds.1;have hj:=kG S x;have br:=bI (S++x);have bq:=cC (S++x);have e1:(bp (S++x)).extract b (bp S).size=(bp S).extract b (bp S).size:=by rw[hj];exact eC _ _ _ _ (ge _)
  have e2:pL (bp (S++x)) b=pL (bp S) b/\pC (bp (S++x)) b=pC (bp S) b:=by rw[hj];exact qM _ _ _ hb
  have e3:(bp (S++x)).extract (bp S).size (bp (S++x)).size=(bZ S++x).extract 0 (wh (bZ S++x)):=by
   have h9:=ik (bp S) (bp (bZ S++x)) 0 (bp (bZ S++x)).size (ge _);rw[K0]at h9;rw[hj,ax,h9,dJ];rfl
  have ba:bd (bp (S++x)) (bp S).size:=by
   rw[aq];have b1:=Cq S x;have b2:=Cq (S++x) ByteArray.empty;rw[cJ]at b2;exact wi b1 b2 (by rw[j6];omega)
  refine nj (T0:=T) (p0:=(bp S).size) (k:=k) (b:=b) (f:=f) (new:=[]) ⟨?_,by rw[KP];exact t1,t2,ba⟩ (by omega) (fun V G=>hK V (iJ hB G)) e3;rw[e1,e2.1,e2.2];exact G
 have ab:Hid (∀B V E,((E=0/\∃k b f new,aR (lY own B.heap.size) B V g (bp (S++x)) (bZ (S++x)) T (bp (S++x)).size k b f new)\/(E≠0/\Ju (lY own B.heap.size) B V g (bp (S++x)) (bZ (S++x)) T True E))->Kb 34 #[.pointer (some ⟨g,0,none⟩),.int .i64 (E:Nat)] V fun e' w'=>∃v A L C,e'=.returned (.tuple #[v,.int .i64 E,.agg #[.int .i64 A,.int .i64 L,.int .i64 C]])/\yW own B g (S++x) T v E A L C w'):=fun B V E hz=>yg hs hz
 have aw:Hid (∀V,Kc W V->Kb 33 #[.pointer (some ⟨g,0,none⟩)] V fun e' w'=>e'=.returned (.agg #[.int .i64 0,.int .i64 0,.int .i64 0,.int .i64 0])/\Kc V w'):=fun V G=>jN (af h3 G)
 have am:Hid (∀V,Kb 29 #[.string (bZ S++x)] V fun e w'=>e=.returned (.int .i64 (wh (bZ S++x)))/\Kc V w'):=fun V=>mD _ V (by omega)
 have bn:=mP;have al:Hid (bZ (S++x)=(bZ S++x).extract (wh (bZ S++x)) (bZ S++x).size):=AI S x;have au:¬(9223372036854775807<(bZ S).size+x.size):=by omega
 have i1:(0:Int)<=wh (bZ S++x):=by omega
 have i2:(wh (bZ S++x):Int)<=(bZ S++x).size:=by omega
 have ay:Hid (∀q,vt.ownBlock=some q->own q):=h4.2;have H:Kc W (W.alloc (.cells #[.int .i64 0,.int .i64 0,.int .i64 0] 33)):=(gt _ _).alloc (ge _) _;have bf:aZ (W.alloc (.cells #[.int .i64 0,.int .i64 0,.int .i64 0] 33)) W.heap.size 0 0 0:=aZ.new W 0 0 0;have ak:=al.out;rw[ak]at ac ab;subst eo;have ae:Hid (∀V,Kc W V->(convert 52 9 (.slice op (bZ S).size oc)).run Tryz.prog V=.ok (.string (bZ S)) V):=fun V G=>gR (HB.out V G).2.ro
 have ad:Hid (∀q,own q->q<W.heap.size):=ah;clear h2 h3 h4 h5 h6 hK ah al ak hsz av bb aq bc be;obtain⟨O,hO⟩:∃O,bZ S=O:=⟨_,rfl⟩;rw[hO]at HB ac ab am au i1 i2 ae;clear hO;have J:=ax O x;rw[J]at ac ab;have az:Hid ((O++x).size=O.size+x.size):=J;clear J
 generalize wh (O++x)=n at *
 go_enter func12,ntmps12
 go_wp2_with(first|(go_at_call 33;refine(aw.out _ H).mono ?_;rintro e w1⟨rfl,ap⟩;have I:=H.trans (ap.mono H.size);have aj:Kc W (w1.alloc (.cells #[.int .i64 0,.int .i64 0,.int .i64 0,.int .i64 0] 35)):=I.alloc I.size _;have bo:=ae.out _ aj;obtain⟨y1,y2⟩:=HB.out _ I;have bk:w1.cell? ⟨g,11,none⟩=some (.slice op O.size oc):=aa y1 rfl;have bi:=ai y1;have bg:=(bf.below ap).below ((gt _ _).alloc (ge _) (.cells #[.int .i64 0,.int .i64 0,.int .i64 0,.int .i64 0] 35));clear y1 y2)|(go_at_call 29;refine(am.out _).mono ?_;rintro e w2⟨rfl,hb2⟩;have F:=aj.trans (hb2.mono aj.size);obtain⟨y1,y2⟩:=HB.out _ F;have bm:w2.cell? ⟨g,11,none⟩=some (.slice op O.size oc):=aa y1 rfl;have bt:=fH.frozen y1 11;have bj:=ai y1;have bh:=bg.below hb2;have an:Hid (fH w2 g false 0 0 0 0 k b (pL (bp S) b) (pC (bp S) b) f vt (.slice op O.size oc) (.slice none 0 0)/\fJ own w2 vt ((bp S).extract b (bp S).size)):=⟨y1,y2.rt.1,fun q M=>ay.out q M⟩;clear y1 y2))
 refine(ac.out w2 _ F (AF an.out.1 h1 an.out.2 (fun q M=>Kl (ad.out q M) F.size) _ _ _ ?_ _ ?_ _)).mono ?_
 ·rw[ag _ _ _ (by rw[az.out];exact ge _)]
 ·intro j hj;exact iT _ _ _ hj
 intro e w5 hz;obtain⟨E,rfl,hz⟩:=hz;have ar:=ab.out _ _ _ hz;have HZ:Hid (Calls _ _ _ _ _):=ar;clear ar hz
 go_wp2_with(first|(go_at_call 34;refine HZ.out.mono ?_;rintro e w6⟨v,A',L',C',rfl,hf⟩;have u:aZ w6 W.heap.size 0 0 0:=hf.box bh (fun e=>absurd (ad.out _ e) (N0 _));have g0:=u.cell0;have g1:=u.cell1;have g2:=u.cell2;have f0:=u.frozen 0;have f1:=u.frozen 1;have f2:=u.frozen 2;have HF:Hid (yW own W g (S++x) T v E A' L' C' (((w6.setCell ⟨W.heap.size,0,none⟩ (.int .i64 A')).setCell ⟨W.heap.size,1,none⟩ (.int .i64 L')).setCell ⟨W.heap.size,2,none⟩ (.int .i64 C'))):=(hf.base F).typ u (((Kp.set _ _ _ _).trans (Kp.set _ _ _ _)).trans (Kp.set _ _ _ _)) (ge _);clear hf))
 have b6:=((u.set0 A').set1 L').set2 C';have m0:=b6.cell0;have m1:=b6.cell1;have m2:=b6.cell2;refine Kv (v:=.tuple #[v,.int .i64 E,.agg #[.int .i64 A',.int .i64 L',.int .i64 C']]) (by simp[results,Tryz.f12,go_sem,m0,m1,m2]) rfl ?_;exact⟨v,E,A',L',C',rfl,HF.out⟩
def Ir (W:World) (g:Nat):Prop:=fH W g true 0 0 0 0 0 0 0 0 0 (.slice none 0 0) (.slice none 0 0) (.slice none 0 0)
theorem lm {cl:Bool}{e x y z:Int}{b f:Int}{vs:Value}(u:FrameMode) (h:fH W g cl e x y z k b L C f vt vo vs) :
  CallsD Tryz.prog 37 #[.pointer (some ⟨g,0,none⟩)] u W fun G H w'=>H=u/\(G=.returned (.tuple #[])/\Ir w' g/\Kp (fun k=>k=g) W w'):=by
 obtain⟨c0,c1,c2,c3,c4,c5,c6,c7,c8,c9,c10,M,O⟩:=h.cells;have aa:=ai h;have z0:=h.frozen 0;have z1:=h.frozen 1;have z2:=h.frozen 2;have z3:=h.frozen 3;have z4:=h.frozen 4;have z5:=h.frozen 5;have z6:=h.frozen 6;have z7:=h.frozen 7;have z8:=h.frozen 8;have z9:=h.frozen 9;have ab:=h.frozen 10;have ac:=h.frozen 11;have ad:=h.frozen 12;have F:=ku h;clear h
 go_enter_d func37,ntmps37
 go_wp2_with fail
 obtain⟨I,J⟩:=AO F.out (.bool true) (.int .i64 0) (.int .i64 0) (.int .i64 0) (.int .i64 0) (.int .i64 0) (.int .i64 0) (.int .i64 0) (.int .i64 0) (.int .i64 0) (.slice none 0 0) (.slice none 0 0) (.slice none 0 0)
 go_end0
 exact⟨rfl,I,J⟩
def wq (own:Nat->Prop) (w:World) (g:Nat) (S:ByteArray) (T:List Tk) (v:Value) (E:Nat) (A L C:Int) (w':World):Prop:=
 ∃(new:List Tk) (a:Nat),Rt w.heap.size w' v (new.map (tv S))/\Kp (lY own w.heap.size) w w'/\(∃cl e x y z k b L C f vt vo vs,fH w' g cl e x y z k b L C f vt vo vs)/\scn S=(T++new,E,a) /\
  ((E=0/\A=0/\L=0/\C=0)\/(E≠0/\A=a/\L=pL S a/\C=pC S a))
def Ka (own:Nat->Prop) (w:World) (g:Nat) (S:ByteArray) (T:List Tk) (v:Value) (E:Nat) (A L C:Int) (w':World):Prop:=
 ∃(new:List Tk) (a:Nat),Fd own w w' (fun q=>q=g) v (new.map (tv S))/\Ir w' g/\scn S=(T++new,E,a) /\
  ((E=0/\A=0/\L=0/\C=0)\/(E≠0/\A=a/\L=pL S a/\C=pC S a))
theorem tM {own:Nat->Prop}(hs:S.size<=2147483647) {E:Nat}{o:ByteArray}
  (h:(E=0/\∃k b L C f t new,Lq (lY own w.heap.size) w V g k b L C f t o (new.map (tv S))/\scn S=(T++new,0,0))\/(E≠0/\Ju (lY own w.heap.size) w V g S o T False E)) :
  Kb 34 #[.pointer (some ⟨g,0,none⟩),.int .i64 E] V fun u w'=>∃v A L C,u=.returned (.tuple #[v,.int .i64 E,.agg #[.int .i64 A,.int .i64 L,.int .i64 C]])/\wq own w g S T v E A L C w':=by
 rcases h with⟨rfl,k,b,L,C,f,t,new,hq,hS⟩|⟨I,k,b,f,p',new,a,J,M,O,h4,h5,h6,h7⟩
 ·refine(vK hq).mono ?_;rintro u w'⟨v,rfl,F,vt,vo,G,H⟩;exact⟨v,0,0,0,rfl,new,0,F,H.kp,⟨_,_,_,_,_,_,_,_,_,_,_,_,_,G⟩,hS,.inl ⟨rfl,rfl,rfl,rfl⟩⟩
 ·refine(qZ J (by omega) h4 M O E a I h7).mono ?_;rintro u w'⟨v,rfl,F,G,H⟩;exact⟨v,a,pL S a,pC S a,rfl,new,a,F,H,⟨_,_,_,_,_,_,_,_,_,_,_,_,_,G⟩,h5,.inr ⟨I,rfl,rfl,rfl⟩⟩
theorem wq.base {own:Nat->Prop}(u:Kc W B) (h:wq own B g S T v E A L C V):wq own W g S T v E A L C V:=by
 obtain⟨new,a,F,G,H,I,J⟩:=h;exact⟨new,a,vD F u.size,iJ u G,H,I,J⟩
theorem wq.box {own:Nat->Prop}(h:wq own w g S T v E A L C w') {r:Nat}{a b c:Int}(u:aZ w r a b c) (G:¬own r):aZ w' r a b c:=by
 obtain⟨new,_,_,F,_⟩:=h
 exact F.blk u (fun e=>by
  rcases e with e|e
  ·exact G e
  ·have:=u.lt;omega)
theorem wq.typ {own:Nat->Prop}(h:wq own w g S T v E A L C w') {r:Nat}{cs:Array Value}{fr:Nat × Nat}(F:w'.heap[r]?=some (.cells cs 33 fr)) (u:Kp (fun q=>q=r) w' w'') (M:w.heap.size<=r):wq own w g S T v E A L C w'':=by
 obtain⟨new,a,G,O,⟨cl,e,x,y,z,k,b,J,I,f,vt,vo,vs,H⟩,r4,r5⟩:=h;refine⟨new,a,G.kp u (G.ne F (by decide)),O.step u (fun j _ e=>.inr (by rw[e];exact M)),⟨cl,e,x,y,z,k,b,J,I,f,vt,vo,vs,u.blk H (fun e=>?_)⟩,r4,r5⟩;rw[<-e,show w'.heap[g]?=_ from H]at F;cases F
theorem wq.shut {own:Nat->Prop}(h:wq own w g S T v E A L C w') (F:own g) (hc:Ir w'' g) (G:Kp (fun q=>q=g) w' w''):Ka own w g S T v E A L C w'':=by
 obtain⟨new,a,u,J,⟨cl,e,x,y,z,k,b,L',C',f,vt,vo,vs,H⟩,M,O⟩:=h;refine⟨new,a,⟨?_,?_,?_,u.kp G (u.ne H (by decide)),J.step G (fun j _ e=>.inl (by rw[e];exact F))⟩,hc,M,O⟩
 ·rintro q rfl;exact .inl F
 ·rintro q rfl;exact ai hc
 ·rintro q I rfl;exact u.ne H (by decide) _ I rfl
theorem qX {own:Nat->Prop}(h:LZ own W g S T k b f) (ae:∀q,own q->q<W.heap.size) (hK:∀V,Kp (lY own W.heap.size) W V->fg V) (hs:S.size<=2147483647) :
  Kb 15 #[.pointer (some ⟨g,0,none⟩)] W fun e w'=>∃(v:Value) (E:Nat) (A L C:Int),e=.returned (.tuple #[v,.int .i64 E,.agg #[.int .i64 A,.int .i64 L,.int .i64 C]])/\Ka own W g S T v E A L C w':=by
 obtain⟨h1,h2,vt,vo,h3,h4,h5,h6⟩:=h;obtain⟨op,oc,eo⟩:=h5.shape;have ak:=bI S;have au:=cC S;have ar:=iE S;have hb:=h2.bds.1;have ew:=ip S ByteArray.empty;rw[cJ,cJ]at ew;obtain⟨t1,t2⟩:=h2.close
 have ap:bd S (bp S).size:=by
  have b1:=Cq S ByteArray.empty;rw[cJ]at b1;rw[ak];exact b1
 have ax:¬(9223372036854775807<(bZ S).size):=by omega
 have ah:Hid (∀V,Kc W V->Kb 33 #[.pointer (some ⟨g,0,none⟩)] V fun e' w'=>e'=.returned (.agg #[.int .i64 0,.int .i64 0,.int .i64 0,.int .i64 0])/\Kc V w'):=fun V M=>jN (af h3 M)
 have HB:Hid (∀V,Kc W V->V.cell? ⟨g,11,none⟩=some vo/\(convert 52 9 vo).run Tryz.prog V=.ok (.string (bZ S)) V/\g<V.heap.size):=fun V M=>⟨aa (af h3 M) rfl,gR (h5.below M),ai (af h3 M)⟩
 have ag:Hid (∀B,Kc W B->Kb 35 #[.pointer (some ⟨g,0,none⟩),.string (bZ S)] B fun e w'=>Jn (lY own B.heap.size) B g S (bZ S) T e w'):=fun B hB=>by
  have e1:S.extract b (bp S).size=(bp S).extract b (bp S).size:=by
   have:=eC (bp S) (bZ S) b (bp S).size (ge _);rw[<-ew]at this;exact this
  have e2:pL S b=pL (bp S) b/\pC S b=pC (bp S) b:=by
   have:=qM (bp S) (bZ S) b hb;rw[<-ew]at this;exact this
  refine nj (T0:=T) (p0:=(bp S).size) (k:=k) (b:=b) (f:=f) (new:=[]) ⟨?_,by rw[KP];exact t1,t2,ap⟩ hs (fun V M=>hK V (iJ hB M)) (by rw[ak];rfl);rw[e1,e2.1,e2.2];exact⟨vt,vo,.slice none 0 0,af h3 hB,Kp.refl _ _,.inl h1,fun q hq=>.inr hq,(h4.mono (fun q hq=>.inl (h4.2 q hq))).below hB,(h5.mono (fun q hq=>.inl (h5.2 q hq))).below hB,h6,kV _ _⟩
 have aj:Hid (∀B V,Kc W B->∀{k b f:Nat} {new:List Tk},aR (lY own B.heap.size) B V g S (bZ S) T S.size k b f new->Kb 38 #[.pointer (some ⟨g,0,none⟩),.int .i32 (-1),.string ⟨#[]⟩] V fun e w'=>aT (lY own B.heap.size) B g S (bZ S) T S.size e w'):=fun B V hB k b f new M=>by
  have h9:=ni M hs (fun V M=>hK V (iJ hB M));rw[fc (ge _),dO (ge _),gw S _ (ge _)]at h9;exact h9
 have ad:Hid (∀B V E,((E=0/\∃k b L C f t new,Lq (lY own B.heap.size) B V g k b L C f t (bZ S) (new.map (tv S))/\scn S=(T++new,0,0))\/(E≠0/\Ju (lY own B.heap.size) B V g S (bZ S) T False E))->Kb 34 #[.pointer (some ⟨g,0,none⟩),.int .i64 (E:Nat)] V fun e' w'=>∃v A L C,e'=.returned (.tuple #[v,.int .i64 E,.agg #[.int .i64 A,.int .i64 L,.int .i64 C]])/\wq own B g S T v E A L C w'):=fun B V E hz=>tM hs hz
 have I:Hid (∀q,own q->q<W.heap.size):=ae;have ab:Kc W (W.alloc (.cells #[.int .i64 0,.int .i64 0,.int .i64 0] 33)):=(gt _ _).alloc (ge _) _;have aw:aZ (W.alloc (.cells #[.int .i64 0,.int .i64 0,.int .i64 0] 33)) W.heap.size 0 0 0:=aZ.new W 0 0 0;subst eo;clear h2 h3 h4 h5 h6 hK ae ak au ar hb ew t1 t2 ap
 go_enter_defers func15,ntmps15
 go_wp2_with(first|(go_at_call 33;refine(ah.out _ ab).mono ?_;rintro e w1⟨rfl,an⟩;have ac:=ab.trans (an.mono ab.size);have O:Kc W (w1.alloc (.cells #[.int .i64 0,.int .i64 0,.int .i64 0,.int .i64 0] 35)):=ac.alloc ac.size _;obtain⟨c11,_,hlt1⟩:=HB.out _ ac;obtain⟨_,hcv,_⟩:=HB.out _ O;have aq:=(aw.below an).below ((gt _ _).alloc (ge _) (.cells #[.int .i64 0,.int .i64 0,.int .i64 0,.int .i64 0] 35))))
 refine(ag.out _ O).mono ?_;intro e w5 hz;obtain⟨E,rfl,hz⟩:=hz
 rcases hz with⟨rfl,k',b',f',ay,hp⟩|⟨hE,hf⟩
 ·have al:=aj.out _ _ O hp;have am:Hid (Calls _ _ _ _ _):=al;clear al hp aj ag ah
  go_wp2_with fail
  refine am.out.mono ?_;intro e w7 av;obtain⟨E2,k2,b2,f2,p2,J,rfl,z1,z2,z3,z4,z5⟩:=av
  have HZ:Hid (Calls _ _ _ _ _):=ad.out _ w7 E2 (by
   rcases z5 with⟨_,y1,_⟩|⟨y0,_,y2⟩|⟨y1,A,y2,y3,y4⟩
   ·omega
   ·exact .inl ⟨y0,_,_,_,_,_,_,J,z1,y2⟩
   ·exact .inr ⟨y1,k2,b2,f2,p2,J,A,z1,z2,z3,z4,y2,fun h=>h.elim,y4⟩)
  clear ad am z1 z2 z3 z4 z5
  go_wp2_with(first|(go_at_call 34;refine HZ.out.mono ?_;rintro e w6⟨v,F,H,G,rfl,hf⟩;have u:aZ w6 W.heap.size 0 0 0:=hf.box aq (fun e=>absurd (I.out _ e) (N0 _));have g0:=u.cell0;have g1:=u.cell1;have g2:=u.cell2;have f0:=u.frozen 0;have f1:=u.frozen 1;have f2:=u.frozen 2;have HF:Hid (wq own W g S T v E2 F H G (((w6.setCell ⟨W.heap.size,0,none⟩ (.int .i64 F)).setCell ⟨W.heap.size,1,none⟩ (.int .i64 H)).setCell ⟨W.heap.size,2,none⟩ (.int .i64 G))):=(hf.base O).typ u (((Kp.set _ _ _ _).trans (Kp.set _ _ _ _)).trans (Kp.set _ _ _ _)) (ge _);clear hf))
  have b6:=((u.set0 F).set1 H).set2 G
  have HD:Hid (CallsD Tryz.prog 37 #[.pointer (some ⟨g,0,none⟩)] .returning (((w6.setCell ⟨W.heap.size,0,none⟩ (.int .i64 F)).setCell ⟨W.heap.size,1,none⟩ (.int .i64 H)).setCell ⟨W.heap.size,2,none⟩ (.int .i64 G)) fun e' u' w'=>u'=.returning/\(e'=.returned (.tuple #[])/\Ir w' g/\Kp (fun k=>k=g) (((w6.setCell ⟨W.heap.size,0,none⟩ (.int .i64 F)).setCell ⟨W.heap.size,1,none⟩ (.int .i64 H)).setCell ⟨W.heap.size,2,none⟩ (.int .i64 G)) w')):=by
   obtain⟨_,_,_,_,⟨cl,e,x,y,z,k,b,L,C,f,vt,vo,vs,r3⟩,_⟩:=HF.out;exact lm _ r3
  refine Mn (f:=37) (args:=#[.pointer (some ⟨g,0,none⟩)]) (by simp) (by simp[go_sem]) ?_;refine HD.out.mono ?_;rintro e u' w8⟨rfl,rfl,hc,hk⟩;have b8:aZ w8 W.heap.size F H G:=hk.blk b6 (fun e=>absurd (I.out _ h1) (by omega));have m0:=b8.cell0;have m1:=b8.cell1;have m2:=b8.cell2;exact⟨.tuple #[v,.int .i64 E2,.agg #[.int .i64 F,.int .i64 H,.int .i64 G]],by simp[results,Tryz.f15,go_sem,m0,m1,m2],v,E2,F,H,G,rfl,HF.out.shut h1 hc hk⟩
 ·have qE:((E:Int)==0)=false:=by simp;omega
  have HZ:Hid (Calls _ _ _ _ _):=ad.out _ w5 E (.inr ⟨hE,by
   obtain⟨k2,b2,f2,p2,J,A,z1,z2,z3,z4,y2,_,y4⟩:=hf;exact⟨k2,b2,f2,p2,J,A,z1,z2,z3,z4,y2,fun h=>h.elim,y4⟩⟩)
  clear hf ad aj ag ah
  go_wp2_with(first|(go_at_call 34;refine HZ.out.mono ?_;rintro e w6⟨v,F,H,G,rfl,hf⟩;have u:aZ w6 W.heap.size 0 0 0:=hf.box aq (fun e=>absurd (I.out _ e) (N0 _));have g0:=u.cell0;have g1:=u.cell1;have g2:=u.cell2;have f0:=u.frozen 0;have f1:=u.frozen 1;have f2:=u.frozen 2;have HF:Hid (wq own W g S T v E F H G (((w6.setCell ⟨W.heap.size,0,none⟩ (.int .i64 F)).setCell ⟨W.heap.size,1,none⟩ (.int .i64 H)).setCell ⟨W.heap.size,2,none⟩ (.int .i64 G))):=(hf.base O).typ u (((Kp.set _ _ _ _).trans (Kp.set _ _ _ _)).trans (Kp.set _ _ _ _)) (ge _);clear hf))
  have b6:=((u.set0 F).set1 H).set2 G
  have HD:Hid (CallsD Tryz.prog 37 #[.pointer (some ⟨g,0,none⟩)] .returning (((w6.setCell ⟨W.heap.size,0,none⟩ (.int .i64 F)).setCell ⟨W.heap.size,1,none⟩ (.int .i64 H)).setCell ⟨W.heap.size,2,none⟩ (.int .i64 G)) fun e' u' w'=>u'=.returning/\(e'=.returned (.tuple #[])/\Ir w' g/\Kp (fun k=>k=g) (((w6.setCell ⟨W.heap.size,0,none⟩ (.int .i64 F)).setCell ⟨W.heap.size,1,none⟩ (.int .i64 H)).setCell ⟨W.heap.size,2,none⟩ (.int .i64 G)) w')):=by
   obtain⟨_,_,_,_,⟨cl,e,x,y,z,k,b,L,C,f,vt,vo,vs,r3⟩,_⟩:=HF.out;exact lm _ r3
  refine Mn (f:=37) (args:=#[.pointer (some ⟨g,0,none⟩)]) (by simp) (by simp[go_sem]) ?_;refine HD.out.mono ?_;rintro e u' w8⟨rfl,rfl,hc,hk⟩;have b8:aZ w8 W.heap.size F H G:=hk.blk b6 (fun e=>absurd (I.out _ h1) (by omega));have m0:=b8.cell0;have m1:=b8.cell1;have m2:=b8.cell2;exact⟨.tuple #[v,.int .i64 E,.agg #[.int .i64 F,.int .i64 H,.int .i64 G]],by simp[results,Tryz.f15,go_sem,m0,m1,m2],v,E,F,H,G,rfl,HF.out.shut h1 hc hk⟩
