import Derived.Defers
import Derived.Test.YtkigadnkclkopaaGreatDoorM14
set_option linter.unusedVariables false
set_option linter.unusedSimpArgs false
namespace Go.Proofs.YtkigadnkclkopaaGreatDoor.Lx
open Go.RowKit
def LZ (own:Nat→Prop) (W:World) (g:Nat) (S:ByteArray) (T:List Tk) (k b f:Nat):Prop:=
 own g∧St S T k b f∧∃vt vo,LxB W g false 0 0 0 0 k b (pL (whl S) b) (pC (whl S) b) f vt vo (.slice none 0 0)∧BwS own W vt ((whl S).extract b (whl S).size)∧OpS own W vo (opE S)∧(∀q,vo.ownBlock=some q→vt.ownBlock≠some q)
def Onw (own:Nat→Prop) (n:Nat) (q:Nat):Prop:=own q∨n≤q
structure Fd (own:Nat→Prop) (w w':World) (own':Nat→Prop) (v:Value) (l:List Tv):Prop where
 sub:∀q,own' q→own q∨w.heap.size≤q
 lt:∀q,own' q→q<w'.heap.size
 ap:∀q,v.ownBlock=some q→¬own' q
 row:Rt w.heap.size w' v l
 kp:Kp (Onw own w.heap.size) w w'
theorem lnew_any (W:World) :
  Calls Tryz.prog 6 #[] W fun e w'=>∃g,e=.returned (.pointer (some ⟨g,0,none⟩))∧W.heap.size≤g∧g<w'.heap.size∧Below W.heap.size W w'∧LZ (fun q=>q=g) w' g ByteArray.empty [] 0 0 0:=by
 have HS:Hid (Calls Tryz.prog 17 #[] W fun e w'=>e=.returned (.agg #[.int .i64 0,.int .i64 1,.int .i64 1])∧Below W.heap.size W w'):=start_any W
 go_enter Tryz.func6,Tryz.ntmps6
 go_wp2_with (first|(go_at_call 17;refine HS.out.mono ?_;rintro e w1 ⟨rfl,hb1⟩))
 go_ret
 refine ⟨w1.heap.size,rfl,hb1.size,?_,hb1.alloc hb1.size _,rfl,St.zero,.slice none 0 0,.slice none 0 0,?_,bws_nil _ _ ?_,ops_nil _ _ ?_,fun q hq=>by cases hq⟩
 ·rw [World.size_alloc];omega
 ·have e1:=(p_zero (whl ByteArray.empty)).1
  have e2:=(p_zero (whl ByteArray.empty)).2
  show LxB _ _ _ _ _ _ _ _ _ _ _ _ _ _ _
  rw [e1,e2]
  exact World.alloc_heap_new w1 _
 ·have:=(whl_size ByteArray.empty)
  have h2:=wh_bd ByteArray.empty
  have h3:ByteArray.empty.size=0:=rfl
  rw [size_ext _ _ _ (Nat.le_refl _)]
  omega
 ·rw [opE_size]
  have h3:ByteArray.empty.size=0:=rfl
  omega
theorem BwS.mono {S U:Nat→Prop}{W:World}{v:Value}{t:ByteArray}(h:BwS S W v t) (hu:∀k,v.ownBlock=some k→U k):BwS U W v t:=⟨h.1,hu⟩
theorem OpS.mono {S U:Nat→Prop}{W:World}{v:Value}{t:ByteArray}(h:OpS S W v t) (hu:∀k,v.ownBlock=some k→U k):OpS U W v t:=⟨h.1,hu⟩
theorem BwS.lt {S:Nat→Prop}{W:World}{v:Value}{t:ByteArray}(h:BwS S W v t):∀k,v.ownBlock=some k→k<W.heap.size:=fun k hk=>by
 obtain ⟨cs,f,e⟩:=h.u8 k hk
 exact blk_lt e
theorem OpS.lt {S:Nat→Prop}{W:World}{v:Value}{t:ByteArray}(h:OpS S W v t):∀k,v.ownBlock=some k→k<W.heap.size:=fun k hk=>by
 obtain ⟨cs,f,e⟩:=h.u8 k hk
 exact blk_lt e
def FPo (own:Nat→Prop) (w:World) (g:Nat) (S:ByteArray) (T:List Tk) (v:Value) (E:Nat) (A L C:Int) (w':World):Prop:=
 ∃(new:List Tk) (own':Nat→Prop),Fd own w w' own' v (new.map (tv (whl S))) ∧
  ((E=0∧A=0∧L=0∧C=0∧∃k' b' f',LZ own' w' g S (T++new) k' b' f') ∨
  (E≠0∧∃a:Nat,A=a∧L=pL (whl S) a∧C=pC (whl S) a∧scn (whl S)=(T++new,E,a)∧¬Early (whl S) E a∧own' g∧LxE w' g E a L C))
theorem LZ.kp {own:Nat→Prop}{W W':World}{g:Nat}{S:ByteArray}{T:List Tk}{k b f:Nat}(h:LZ own W g S T k b f) {U:Nat→Prop}(hk:Kp U W W') (hU:∀q,own q→¬U q):LZ own W' g S T k b f:=by
 obtain ⟨h1,h2,vt,vo,h3,h4,h5,h6⟩:=h
 exact ⟨h1,h2,vt,vo,hk.blk h3 (hU g h1),h4.kp hk (fun q hq=>hU q (h4.2 q hq)),h5.kp hk (fun q hq=>hU q (h5.2 q hq)),h6⟩
theorem Fd.step {own own':Nat→Prop}{w w' w'':World}{v:Value}{l:List Tv}(h:Fd own w w' own' v l) {r:Nat}{cs:Array Value}{f:Nat × Nat}(hr:w'.heap[r]?=some (.cells cs 27 f)) (hk:Kp (fun q=>q=r) w' w'') (h1:w.heap.size≤r):Fd own w w'' own' v l:=
 ⟨h.sub,fun q hq=>Nat.lt_of_lt_of_le (h.lt q hq) hk.size,h.ap,h.row.kp hk (h.row.ne hr (by decide)),h.kp.step hk (fun j _ e=>.inr (by rw [e];exact h1))⟩
theorem LZ.typ {own:Nat→Prop}{W W':World}{g:Nat}{S:ByteArray}{T:List Tk}{k b f:Nat}(h:LZ own W g S T k b f) {r:Nat}{cs:Array Value}{fr:Nat × Nat}(hr:W.heap[r]?=some (.cells cs 27 fr)) (hk:Kp (fun q=>q=r) W W'):LZ own W' g S T k b f:=by
 obtain ⟨h1,h2,vt,vo,h3,h4,h5,h6⟩:=h
 refine ⟨h1,h2,vt,vo,hk.blk h3 (fun e=>?_),h4.kp hk (h4.ne hr (by decide)),h5.kp hk (h5.ne hr (by decide)),h6⟩
 rw [←e,show W.heap[g]?=_ from h3] at hr
 cases hr
theorem FPo.typ {own:Nat→Prop}{w w' w'':World}{g:Nat}{S:ByteArray}{T:List Tk}{v:Value}{E:Nat}{A L C:Int}(h:FPo own w g S T v E A L C w') {r:Nat}{cs:Array Value}{fr:Nat × Nat}(hr:w'.heap[r]?=some (.cells cs 27 fr)) (hk:Kp (fun q=>q=r) w' w'') (h1:w.heap.size≤r):FPo own w g S T v E A L C w'':=by
 obtain ⟨new,own',hf,hz⟩:=h
 refine ⟨new,own',hf.step hr hk h1,?_⟩
 rcases hz with ⟨e1,e2,e3,e4,k',b',f',hl⟩|⟨e1,a,e2,e3,e4,e5,e6,e7,e8⟩
 ·exact .inl ⟨e1,e2,e3,e4,k',b',f',hl.typ hr hk⟩
 ·refine .inr ⟨e1,a,e2,e3,e4,e5,e6,e7,hk.blk e8 (fun e=>?_)⟩
  rw [←e,show w'.heap[g]?=_ from e8] at hr
  cases hr
theorem FPo.box {own:Nat→Prop}{w w':World}{g:Nat}{S:ByteArray}{T:List Tk}{v:Value}{E:Nat}{A L C:Int}(h:FPo own w g S T v E A L C w') {r:Nat}{a b c:Int}(hr:Box3 w r a b c) (ho:¬own r):Box3 w' r a b c:=by
 obtain ⟨new,own',hf,_⟩:=h
 exact hf.kp.blk hr (fun e=>by
  rcases e with e|e
  ·exact ho e
  ·have:=hr.lt
   omega)
theorem lans_read {own:Nat→Prop}{w V:World}{g:Nat}{S:ByteArray}{T:List Tk}(hs:S.size≤1000000000) {E:Nat}
  (h:(E=0∧∃k b f new,SPr (Onw own w.heap.size) w V g (whl S) (opE S) T (whl S).size k b f new)∨(E≠0∧Flt (Onw own w.heap.size) w V g (whl S) (opE S) T True E)) :
  Calls Tryz.prog 24 #[.pointer (some ⟨g,0,none⟩),.int .i64 E] V fun e' w'=>∃v A L C,e'=.returned (.tuple #[v,.int .i64 E,.agg #[.int .i64 A,.int .i64 L,.int .i64 C]])∧FPo own w g S T v E A L C w':=by
 have hz:=whl_size S
 have hw:=wh_bd S
 rcases h with ⟨rfl,k,b,f,new,hp⟩|⟨hE,k,b,f,p',new,a,h1,h2,h3,h4,h5,h6,h7⟩
 ·refine (lans_ok hp.lq).mono ?_
  rintro e' w' ⟨v,rfl,hr,vt,vo,l1,l2⟩
  refine ⟨v,0,0,0,rfl,new,fun q=>q=g∨vt.ownBlock=some q∨vo.ownBlock=some q,⟨?_,?_,?_,hr,l2.kp⟩,.inl ⟨rfl,rfl,rfl,rfl,k,b,f,.inl rfl,⟨hp.told,hp.ms⟩,vt,vo,l1,l2.rt.mono (fun q hq=>.inr (.inl hq)),l2.ro.mono (fun q hq=>.inr (.inr hq)),l2.ap⟩⟩
  ·rintro q (rfl|hq|hq)
   ·exact l2.sg
   ·exact l2.rt.2 q hq
   ·exact l2.ro.2 q hq
  ·rintro q (rfl|hq|hq)
   ·exact blk_lt l1
   ·exact l2.rt.lt q hq
   ·exact l2.ro.lt q hq
  ·rintro q hq (rfl|h|h)
   ·exact hr.ne l1 (by decide) _ hq rfl
   ·obtain ⟨cs,ff,e⟩:=l2.rt.u8 q h
    exact hr.ne e (by decide) _ hq rfl
   ·obtain ⟨cs,ff,e⟩:=l2.ro.u8 q h
    exact hr.ne e (by decide) _ hq rfl
 ·have hsg:Onw own w.heap.size g:=by
   obtain ⟨vt,vo,vs,l1,l2⟩:=h1
   exact l2.sg
  refine (lans_bad h1 (by omega) h4 h2 h3 E a hE h7).mono ?_
  rintro e' w' ⟨v,rfl,hr,l1,l2⟩
  refine ⟨v,a,pL (whl S) a,pC (whl S) a,rfl,new,fun q=>q=g,⟨?_,?_,?_,hr,l2⟩,.inr ⟨hE,a,rfl,rfl,rfl,h5,h6 trivial,rfl,l1⟩⟩
  ·rintro q rfl
   exact hsg
  ·rintro q rfl
   exact blk_lt l1
  ·rintro q hq rfl
   exact hr.ne l1 (by decide) _ hq rfl
theorem St.bds {S:ByteArray}{T:List Tk}{k b f:Nat}(h:St S T k b f):b≤(whl S).size∧b≤S.size∧T.length≤S.size:=by
 have h1:=h.told.bds
 have h2:=whl_size S
 have h3:=wh_bd S
 exact ⟨h1.2.1,by omega,by omega⟩
theorem str_bytes (V:World) (y:ByteArray):(convert 9 66 (.string y)).run Tryz.prog V=.ok (.slice (some ⟨V.heap.size,0,none⟩) y.size (grownCap V y.size 0 5)) (V.drew.alloc (.cells (bytesRow y (grownCap V y.size 0 5)) 5 ((bytesRow y (grownCap V y.size 0 5)).size,(bytesRow y (grownCap V y.size 0 5)).size+1))):=
 run_bytes_of_string V _ _ _ y Tryz.underlying9 Tryz.underlying66 Tryz.underlying5
theorem bytesRow_get (y:ByteArray) (c j:Nat) (h:j<y.size):(bytesRow y c)[j]?=some (.int .u8 (by8 y j)):=by
 have h2:j<y.data.size:=h
 have h3:=sc_get y j h
 rw [bc_str] at h3
 unfold bc at h3
 unfold bytesRow
 rw [Array.getElem?_append_left (by simpa using h2),Array.getElem?_map,←Array.getElem?_toList,←List.getElem?_map]
 exact h3
theorem lrt_low {A B:Nat}{w:World}{v:Value}{l:List Tv}(h:Rt B w v l) (hA:A≤B):Rt A w v l:=by
 refine ⟨h.1,?_⟩
 rcases h.2 with h1|⟨g,cap,cur,rfl,h2,h3,h4⟩
 ·exact .inl h1
 ·exact .inr ⟨g,cap,cur,rfl,Nat.le_trans hA h2,h3,h4⟩
theorem kp_base {own:Nat→Prop}{W B V:World}(hb:Below W.heap.size W B) (h:Kp (Onw own B.heap.size) B V):Kp (Onw own W.heap.size) W V:=
 (Kp.of_below hb).step h (fun j hj e=>by
  rcases e with e|e
  ·exact .inl e
  ·have:=hb.size
   omega)
theorem Fd.base {own own':Nat→Prop}{W B V:World}{v:Value}{l:List Tv}(hb:Below W.heap.size W B) (h:Fd own B V own' v l):Fd own W V own' v l:=
 ⟨fun q hq=>by
  rcases h.sub q hq with e|e
  ·exact .inl e
  ·exact .inr (Nat.le_trans hb.size e),h.lt,h.ap,lrt_low h.row hb.size,kp_base hb h.kp⟩
theorem FPo.base {own:Nat→Prop}{W B V:World}{g:Nat}{S:ByteArray}{T:List Tk}{v:Value}{E:Nat}{A L C:Int}(hb:Below W.heap.size W B) (h:FPo own B g S T v E A L C V):FPo own W g S T v E A L C V:=by
 obtain ⟨new,own',hf,hz⟩:=h
 exact ⟨new,own',hf.base hb,hz⟩
theorem open_put {own:Nat→Prop}{V:World}{g k b:Nat}{L C:Int}{f:Nat}{vt vo:Value}{t:ByteArray}(h1:LxB V g false 0 0 0 0 k b L C f vt vo (.slice none 0 0)) (hg:own g) (h4:BwS own V vt t) (hown:∀q,own q→q<V.heap.size) (Y:ByteArray) (len cap:Nat) (hl:len=Y.size) (R:Array Value) (hR:∀j,j<Y.size→R[j]?=some (.int .u8 (by8 Y j))) (fr:Nat × Nat) :
  Lq (Onw own V.heap.size) V ((V.setCell ⟨g,11,none⟩ (.slice (some ⟨V.heap.size,0,none⟩) len cap)).alloc (.cells R 5 fr)).drew g k b L C f t Y []:=by
 subst hl
 have hk:=Kp.set V g 11 (.slice (some ⟨V.heap.size,0,none⟩) Y.size cap)
 have y1:=blk_set h1 11 (.slice (some ⟨V.heap.size,0,none⟩) Y.size cap)
 have hsz:(V.setCell ⟨g,11,none⟩ (.slice (some ⟨V.heap.size,0,none⟩) Y.size cap)).heap.size=V.heap.size:=World.size_setCell _ _ _
 have hn:=World.alloc_heap_new (V.setCell ⟨g,11,none⟩ (.slice (some ⟨V.heap.size,0,none⟩) Y.size cap)) (.cells R 5 fr)
 rw [hsz] at hn
 have hba:Below (V.setCell ⟨g,11,none⟩ (.slice (some ⟨V.heap.size,0,none⟩) Y.size cap)).heap.size (V.setCell ⟨g,11,none⟩ (.slice (some ⟨V.heap.size,0,none⟩) Y.size cap)) ((V.setCell ⟨g,11,none⟩ (.slice (some ⟨V.heap.size,0,none⟩) Y.size cap)).alloc (.cells R 5 fr)).drew:=((Below.refl _ _).alloc (Nat.le_refl _) _).drew
 refine ⟨vt,_,.slice none 0 0,blk_below y1 hba,?_,.inl hg,fun q hq=>.inr hq,?_,⟨.inr ⟨V.heap.size,cap,R,fr,rfl,hn,hR⟩,fun q hq=>?_⟩,fun q hq e=>?_,rt_nil _ _⟩
 ·exact ((Kp.refl (Onw own V.heap.size) V).step hk (fun j _ e=>by rw [e];exact .inl hg)).then hba
 ·exact ((h4.mono (fun q hq=>.inl (h4.2 q hq))).kp hk (h4.ne h1 (by decide))).below hba
 ·cases hq
  exact .inr (Nat.le_refl _)
 ·cases hq
  exact absurd (hown _ (h4.2 _ e)) (Nat.lt_irrefl _)
set_option maxRecDepth 100000 in
set_option maxHeartbeats 400000 in
theorem lfeed_live {own:Nat→Prop}{W:World}{g:Nat}{S:ByteArray}{T:List Tk}{k b f:Nat}(h:LZ own W g S T k b f) (hown:∀q,own q→q<W.heap.size) (hK:∀V,Kp (Onw own W.heap.size) W V→Kab V) (x:ByteArray) (hs:(S++x).size≤1000000000) :
  Calls Tryz.prog 9 #[.pointer (some ⟨g,0,none⟩),.string x] W fun e w'=>∃(v:Value) (E:Nat) (A L C:Int),e=.returned (.tuple #[v,.int .i64 E,.agg #[.int .i64 A,.int .i64 L,.int .i64 C]])∧FPo own W g (S++x) T v E A L C w':=by
 obtain ⟨h1,h2,vt,vo,h3,h4,h5,h6⟩:=h
 have hsz:=size_app S x
 have hsz2:=size_app (opE S) x
 have hoz:=opE_size S
 have hwl:=whl_size S
 have hwb:=wh_bd S
 have hwc:=wh_bd (opE S++x)
 obtain ⟨op,oc,eo⟩:=h5.shape
 have HB:Hid (∀V,Below W.heap.size W V→LxB V g false 0 0 0 0 k b (pL (whl S) b) (pC (whl S) b) f vt vo (.slice none 0 0)∧Lz (Onw own W.heap.size) W V g vt vo (.slice none 0 0) ((whl S).extract b (whl S).size) (opE S) []):=fun V hV=>
  ⟨blk_below h3 hV,Kp.of_below hV,.inl h1,fun q hq=>.inr hq,(h4.mono (fun q hq=>.inl (h4.2 q hq))).below hV,(h5.mono (fun q hq=>.inl (h5.2 q hq))).below hV,h6,rt_nil _ _⟩
 have HRd:Hid (∀B V,Below W.heap.size W B→Lq (Onw own B.heap.size) B V g k b (pL (whl S) b) (pC (whl S) b) f ((whl S).extract b (whl S).size) (opE (S++x)) []→Calls Tryz.prog 25 #[.pointer (some ⟨g,0,none⟩),.string ((opE S++x).extract 0 (wh (opE S++x)))] V fun e w'=>RPo (Onw own B.heap.size) B g (whl (S++x)) (opE (S++x)) T e w'):=fun B V hB hV=>by
  obtain ⟨t1,t2⟩:=h2.feed x
  have hb:=h2.bds.1
  have hj:=whl_join S x
  have hz2:=whl_size (S++x)
  have hwx:=wh_bd (S++x)
  have e1:(whl (S++x)).extract b (whl S).size=(whl S).extract b (whl S).size:=by rw [hj];exact ext_first _ _ _ _ (Nat.le_refl _)
  have e2:pL (whl (S++x)) b=pL (whl S) b∧pC (whl (S++x)) b=pC (whl S) b:=by rw [hj];exact pL_first _ _ _ hb
  have e3:(whl (S++x)).extract (whl S).size (whl (S++x)).size=(opE S++x).extract 0 (wh (opE S++x)):=by
   have h9:=ext_second (whl S) (whl (opE S++x)) 0 (whl (opE S++x)).size (Nat.le_refl _)
   rw [Nat.add_zero] at h9
   rw [hj,size_app,h9,extract_all]
   rfl
  have hbd:bd (whl (S++x)) (whl S).size:=by
   rw [hwl]
   have b1:=bd_wh S x
   have b2:=bd_wh (S++x) ByteArray.empty
   rw [app_empty] at b2
   exact bd_head b1 b2 (by rw [wh_join];omega)
  refine lread_any (T0:=T) (p0:=(whl S).size) (k:=k) (b:=b) (f:=f) (new:=[]) ⟨?_,by rw [List.append_nil];exact t1,t2,hbd⟩ (by omega) (fun V hV=>hK V (kp_base hB hV)) e3
  rw [e1,e2.1,e2.2]
  exact hV
 have HAn:Hid (∀B V E,((E=0∧∃k b f new,SPr (Onw own B.heap.size) B V g (whl (S++x)) (opE (S++x)) T (whl (S++x)).size k b f new)∨(E≠0∧Flt (Onw own B.heap.size) B V g (whl (S++x)) (opE (S++x)) T True E))→Calls Tryz.prog 24 #[.pointer (some ⟨g,0,none⟩),.int .i64 (E:Nat)] V fun e' w'=>∃v A L C,e'=.returned (.tuple #[v,.int .i64 E,.agg #[.int .i64 A,.int .i64 L,.int .i64 C]])∧FPo own B g (S++x) T v E A L C w'):=fun B V E hz=>lans_read hs hz
 have HRf:Hid (∀V,Below W.heap.size W V→Calls Tryz.prog 22 #[.pointer (some ⟨g,0,none⟩)] V fun e' w'=>e'=.returned (.agg #[.int .i64 0,.int .i64 0,.int .i64 0,.int .i64 0])∧Below V.heap.size V w'):=fun V hV=>lrefuse_any (blk_below h3 hV)
 have HWh:Hid (∀V,Calls Tryz.prog 23 #[.string (opE S++x)] V fun e w'=>e=.returned (.int .i64 (wh (opE S++x)))∧Below V.heap.size V w'):=fun V=>whole_any _ V (by omega)
 have hcb:=str_bytes
 have HOE:Hid (opE (S++x)=(opE S++x).extract (wh (opE S++x)) (opE S++x).size):=opE_join S x
 have hadd:¬(9223372036854775807<(opE S).size+x.size):=by omega
 have i1:(0:Int)≤wh (opE S++x):=by omega
 have i2:(wh (opE S++x):Int)≤(opE S++x).size:=by omega
 have HTB:Hid (∀q,vt.ownBlock=some q→own q):=h4.2
 have hb00:Below W.heap.size W (W.alloc (.cells #[.int .i64 0,.int .i64 0,.int .i64 0] 27)):=(Below.refl _ _).alloc (Nat.le_refl _) _
 have k00:Box3 (W.alloc (.cells #[.int .i64 0,.int .i64 0,.int .i64 0] 27)) W.heap.size 0 0 0:=Box3.new W 0 0 0
 have HHO:=HOE.out
 rw [HHO] at HRd HAn
 subst eo
 have hcv0:Hid (∀V,Below W.heap.size W V→(convert 66 9 (.slice op (opE S).size oc)).run Tryz.prog V=.ok (.string (opE S)) V):=fun V hV=>conv_open (HB.out V hV).2.ro
 have HOwn:Hid (∀q,own q→q<W.heap.size):=hown
 clear h2 h3 h4 h5 h6 hK hown HOE HHO hsz hsz2 hoz hwl hwb hwc
 obtain ⟨O,hO⟩:∃O,opE S=O:=⟨_,rfl⟩
 rw [hO] at HB HRd HAn HWh hadd i1 i2 hcv0
 clear hO
 have hsz3:=size_app O x
 rw [hsz3] at HRd HAn
 have HZ3:Hid ((O++x).size=O.size+x.size):=hsz3
 clear hsz3
 generalize wh (O++x)=n at *
 go_enter Tryz.func9,Tryz.ntmps9
 go_wp2_with (first|(go_at_call 22;refine (HRf.out _ hb00).mono ?_;rintro e w1 ⟨rfl,hb1⟩;have hbw1:=hb00.trans (hb1.mono hb00.size);have hbV:Below W.heap.size W (w1.alloc (.cells #[.int .i64 0,.int .i64 0,.int .i64 0,.int .i64 0] 64)):=hbw1.alloc hbw1.size _;have hcv:=hcv0.out _ hbV;obtain ⟨y1,y2⟩:=HB.out _ hbw1;have c11:w1.cell? ⟨g,11,none⟩=some (.slice op O.size oc):=blk_cell y1 rfl;have hlt1:=blk_lt y1;have k01:=(k00.below hb1).below ((Below.refl _ _).alloc (Nat.le_refl _) (.cells #[.int .i64 0,.int .i64 0,.int .i64 0,.int .i64 0] 64));clear y1 y2)|(go_at_call 23;refine (HWh.out _).mono ?_;rintro e w2 ⟨rfl,hb2⟩;have hbW2:=hbV.trans (hb2.mono hbV.size);obtain ⟨y1,y2⟩:=HB.out _ hbW2;have d11:w2.cell? ⟨g,11,none⟩=some (.slice op O.size oc):=blk_cell y1 rfl;have z11:=LxB.frozen y1 11;have hlt2:=blk_lt y1;have k02:=k01.below hb2;have HY2:Hid (LxB w2 g false 0 0 0 0 k b (pL (whl S) b) (pC (whl S) b) f vt (.slice op O.size oc) (.slice none 0 0)∧BwS own w2 vt ((whl S).extract b (whl S).size)):=⟨y1,y2.rt.1,fun q hq=>HTB.out q hq⟩;clear y1 y2))
 refine (HRd.out w2 _ hbW2 (open_put HY2.out.1 h1 HY2.out.2 (fun q hq=>Nat.lt_of_lt_of_le (HOwn.out q hq) hbW2.size) _ _ _ ?_ _ ?_ _)).mono ?_
 ·rw [size_ext _ _ _ (by rw [HZ3.out];exact Nat.le_refl _)]
 ·intro j hj
  exact bytesRow_get _ _ _ hj
 intro e w5 hz
 obtain ⟨E,rfl,hz⟩:=hz
 have hz':=HAn.out _ _ _ hz
 have HZ:Hid (Calls _ _ _ _ _):=hz'
 clear hz' hz
 go_wp2_with (first|(go_at_call 24;refine HZ.out.mono ?_;rintro e w6 ⟨v,A',L',C',rfl,hf⟩;have k06:Box3 w6 W.heap.size 0 0 0:=hf.box k02 (fun e=>absurd (HOwn.out _ e) (Nat.lt_irrefl _));have g0:=k06.cell0;have g1:=k06.cell1;have g2:=k06.cell2;have f0:=k06.frozen 0;have f1:=k06.frozen 1;have f2:=k06.frozen 2;have HF:Hid (FPo own W g (S++x) T v E A' L' C' (((w6.setCell ⟨W.heap.size,0,none⟩ (.int .i64 A')).setCell ⟨W.heap.size,1,none⟩ (.int .i64 L')).setCell ⟨W.heap.size,2,none⟩ (.int .i64 C'))):=(hf.base hbW2).typ k06 (((Kp.set _ _ _ _).trans (Kp.set _ _ _ _)).trans (Kp.set _ _ _ _)) (Nat.le_refl _);clear hf))
 have b6:=((k06.set0 A').set1 L').set2 C'
 have m0:=b6.cell0
 have m1:=b6.cell1
 have m2:=b6.cell2
 refine bodyPost_ret (v:=.tuple #[v,.int .i64 E,.agg #[.int .i64 A',.int .i64 L',.int .i64 C']]) (by simp [results,Tryz.f9,go_sem,m0,m1,m2]) rfl ?_
 exact ⟨v,E,A',L',C',rfl,HF.out⟩
def LxC (W:World) (g:Nat):Prop:=LxB W g true 0 0 0 0 0 0 0 0 0 (.slice none 0 0) (.slice none 0 0) (.slice none 0 0)
set_option maxRecDepth 100000 in
set_option maxHeartbeats 2000000 in
theorem lshutD_any {W:World}{g:Nat}{cl:Bool}{e x y z:Int}{k:Nat}{b L C f:Int}{vt vo vs:Value}(u:FrameMode) (h:LxB W g cl e x y z k b L C f vt vo vs) :
  CallsD Tryz.prog 26 #[.pointer (some ⟨g,0,none⟩)] u W fun e' u' w'=>u'=u∧(e'=.returned (.tuple #[])∧LxC w' g∧Kp (fun k=>k=g) W w'):=by
 obtain ⟨c0,c1,c2,c3,c4,c5,c6,c7,c8,c9,c10,c11,c12⟩:=h.cells
 have hlt:=blk_lt h
 have z0:=h.frozen 0
 have z1:=h.frozen 1
 have z2:=h.frozen 2
 have z3:=h.frozen 3
 have z4:=h.frozen 4
 have z5:=h.frozen 5
 have z6:=h.frozen 6
 have z7:=h.frozen 7
 have z8:=h.frozen 8
 have z9:=h.frozen 9
 have z10:=h.frozen 10
 have z11:=h.frozen 11
 have z12:=h.frozen 12
 have HL:Hid (LxB W g cl e x y z k b L C f vt vo vs):=h
 clear h
 go_enter_d Tryz.func26,Tryz.ntmps26
 go_wp2_with fail
 obtain ⟨y1,y2⟩:=lx_all HL.out (.bool true) (.int .i64 0) (.int .i64 0) (.int .i64 0) (.int .i64 0) (.int .i64 0) (.int .i64 0) (.int .i64 0) (.int .i64 0) (.int .i64 0) (.slice none 0 0) (.slice none 0 0) (.slice none 0 0)
 go_end0
 exact ⟨rfl,y1,y2⟩
def CPa (own:Nat→Prop) (w:World) (g:Nat) (S:ByteArray) (T:List Tk) (v:Value) (E:Nat) (A L C:Int) (w':World):Prop:=
 ∃(new:List Tk) (a:Nat),Rt w.heap.size w' v (new.map (tv S))∧Kp (Onw own w.heap.size) w w'∧(∃cl e x y z k b L C f vt vo vs,LxB w' g cl e x y z k b L C f vt vo vs)∧scn S=(T++new,E,a) ∧
  ((E=0∧A=0∧L=0∧C=0)∨(E≠0∧A=a∧L=pL S a∧C=pC S a))
def CPo (own:Nat→Prop) (w:World) (g:Nat) (S:ByteArray) (T:List Tk) (v:Value) (E:Nat) (A L C:Int) (w':World):Prop:=
 ∃(new:List Tk) (a:Nat),Fd own w w' (fun q=>q=g) v (new.map (tv S))∧LxC w' g∧scn S=(T++new,E,a) ∧
  ((E=0∧A=0∧L=0∧C=0)∨(E≠0∧A=a∧L=pL S a∧C=pC S a))
theorem lans_close {own:Nat→Prop}{w V:World}{g:Nat}{S:ByteArray}{T:List Tk}(hs:S.size≤1000000000) {E:Nat}{o:ByteArray}
  (h:(E=0∧∃k b L C f t new,Lq (Onw own w.heap.size) w V g k b L C f t o (new.map (tv S))∧scn S=(T++new,0,0))∨(E≠0∧Flt (Onw own w.heap.size) w V g S o T False E)) :
  Calls Tryz.prog 24 #[.pointer (some ⟨g,0,none⟩),.int .i64 E] V fun e' w'=>∃v A L C,e'=.returned (.tuple #[v,.int .i64 E,.agg #[.int .i64 A,.int .i64 L,.int .i64 C]])∧CPa own w g S T v E A L C w':=by
 rcases h with ⟨rfl,k,b,L,C,f,t,new,hq,hS⟩|⟨hE,k,b,f,p',new,a,h1,h2,h3,h4,h5,h6,h7⟩
 ·refine (lans_ok hq).mono ?_
  rintro e' w' ⟨v,rfl,hr,vt,vo,l1,l2⟩
  exact ⟨v,0,0,0,rfl,new,0,hr,l2.kp,⟨_,_,_,_,_,_,_,_,_,_,_,_,_,l1⟩,hS,.inl ⟨rfl,rfl,rfl,rfl⟩⟩
 ·refine (lans_bad h1 (by omega) h4 h2 h3 E a hE h7).mono ?_
  rintro e' w' ⟨v,rfl,hr,l1,l2⟩
  exact ⟨v,a,pL S a,pC S a,rfl,new,a,hr,l2,⟨_,_,_,_,_,_,_,_,_,_,_,_,_,l1⟩,h5,.inr ⟨hE,rfl,rfl,rfl⟩⟩
theorem CPa.base {own:Nat→Prop}{W B V:World}{g:Nat}{S:ByteArray}{T:List Tk}{v:Value}{E:Nat}{A L C:Int}(hb:Below W.heap.size W B) (h:CPa own B g S T v E A L C V):CPa own W g S T v E A L C V:=by
 obtain ⟨new,a,h1,h2,h3,h4,h5⟩:=h
 exact ⟨new,a,lrt_low h1 hb.size,kp_base hb h2,h3,h4,h5⟩
theorem CPa.box {own:Nat→Prop}{w w':World}{g:Nat}{S:ByteArray}{T:List Tk}{v:Value}{E:Nat}{A L C:Int}(h:CPa own w g S T v E A L C w') {r:Nat}{a b c:Int}(hr:Box3 w r a b c) (ho:¬own r):Box3 w' r a b c:=by
 obtain ⟨new,_,_,hk,_⟩:=h
 exact hk.blk hr (fun e=>by
  rcases e with e|e
  ·exact ho e
  ·have:=hr.lt
   omega)
theorem CPa.typ {own:Nat→Prop}{w w' w'':World}{g:Nat}{S:ByteArray}{T:List Tk}{v:Value}{E:Nat}{A L C:Int}(h:CPa own w g S T v E A L C w') {r:Nat}{cs:Array Value}{fr:Nat × Nat}(hr:w'.heap[r]?=some (.cells cs 27 fr)) (hk:Kp (fun q=>q=r) w' w'') (h1:w.heap.size≤r):CPa own w g S T v E A L C w'':=by
 obtain ⟨new,a,r1,r2,⟨cl,e,x,y,z,k,b,L',C',f,vt,vo,vs,r3⟩,r4,r5⟩:=h
 refine ⟨new,a,r1.kp hk (r1.ne hr (by decide)),r2.step hk (fun j _ e=>.inr (by rw [e];exact h1)),⟨cl,e,x,y,z,k,b,L',C',f,vt,vo,vs,hk.blk r3 (fun e=>?_)⟩,r4,r5⟩
 rw [←e,show w'.heap[g]?=_ from r3] at hr
 cases hr
theorem CPa.shut {own:Nat→Prop}{w w' w'':World}{g:Nat}{S:ByteArray}{T:List Tk}{v:Value}{E:Nat}{A L C:Int}(h:CPa own w g S T v E A L C w') (hg:own g) (hc:LxC w'' g) (hk:Kp (fun q=>q=g) w' w''):CPo own w g S T v E A L C w'':=by
 obtain ⟨new,a,r1,r2,⟨cl,e,x,y,z,k,b,L',C',f,vt,vo,vs,r3⟩,r4,r5⟩:=h
 refine ⟨new,a,⟨?_,?_,?_,r1.kp hk (r1.ne r3 (by decide)),r2.step hk (fun j _ e=>.inl (by rw [e];exact hg))⟩,hc,r4,r5⟩
 ·rintro q rfl
  exact .inl hg
 ·rintro q rfl
  exact blk_lt hc
 ·rintro q hq rfl
  exact r1.ne r3 (by decide) _ hq rfl
set_option maxRecDepth 100000 in
set_option maxHeartbeats 2000000 in
theorem lclose_live {own:Nat→Prop}{W:World}{g:Nat}{S:ByteArray}{T:List Tk}{k b f:Nat}(h:LZ own W g S T k b f) (hown:∀q,own q→q<W.heap.size) (hK:∀V,Kp (Onw own W.heap.size) W V→Kab V) (hs:S.size≤1000000000) :
  Calls Tryz.prog 10 #[.pointer (some ⟨g,0,none⟩)] W fun e w'=>∃(v:Value) (E:Nat) (A L C:Int),e=.returned (.tuple #[v,.int .i64 E,.agg #[.int .i64 A,.int .i64 L,.int .i64 C]])∧CPo own W g S T v E A L C w':=by
 obtain ⟨h1,h2,vt,vo,h3,h4,h5,h6⟩:=h
 obtain ⟨op,oc,eo⟩:=h5.shape
 have hwl:=whl_size S
 have hwb:=wh_bd S
 have hoz:=opE_size S
 have hb:=h2.bds.1
 have ew:=whl_opE S ByteArray.empty
 rw [app_empty,app_empty] at ew
 obtain ⟨t1,t2⟩:=h2.close
 have hbd:bd S (whl S).size:=by
  have b1:=bd_wh S ByteArray.empty
  rw [app_empty] at b1
  rw [hwl];exact b1
 have hadd:¬(9223372036854775807<(opE S).size):=by omega
 have HRf:Hid (∀V,Below W.heap.size W V→Calls Tryz.prog 22 #[.pointer (some ⟨g,0,none⟩)] V fun e' w'=>e'=.returned (.agg #[.int .i64 0,.int .i64 0,.int .i64 0,.int .i64 0])∧Below V.heap.size V w'):=fun V hV=>lrefuse_any (blk_below h3 hV)
 have HB:Hid (∀V,Below W.heap.size W V→V.cell? ⟨g,11,none⟩=some vo∧(convert 66 9 vo).run Tryz.prog V=.ok (.string (opE S)) V∧g<V.heap.size):=fun V hV=>⟨blk_cell (blk_below h3 hV) rfl,conv_open (h5.below hV),blk_lt (blk_below h3 hV)⟩
 have HRd:Hid (∀B,Below W.heap.size W B→Calls Tryz.prog 25 #[.pointer (some ⟨g,0,none⟩),.string (opE S)] B fun e w'=>RPo (Onw own B.heap.size) B g S (opE S) T e w'):=fun B hB=>by
  have e1:S.extract b (whl S).size=(whl S).extract b (whl S).size:=by
   have:=ext_first (whl S) (opE S) b (whl S).size (Nat.le_refl _)
   rw [←ew] at this
   exact this
  have e2:pL S b=pL (whl S) b∧pC S b=pC (whl S) b:=by
   have:=pL_first (whl S) (opE S) b hb
   rw [←ew] at this
   exact this
  refine lread_any (T0:=T) (p0:=(whl S).size) (k:=k) (b:=b) (f:=f) (new:=[]) ⟨?_,by rw [List.append_nil];exact t1,t2,hbd⟩ hs (fun V hV=>hK V (kp_base hB hV)) (by rw [hwl];rfl)
  rw [e1,e2.1,e2.2]
  exact ⟨vt,vo,.slice none 0 0,blk_below h3 hB,Kp.refl _ _,.inl h1,fun q hq=>.inr hq,(h4.mono (fun q hq=>.inl (h4.2 q hq))).below hB,(h5.mono (fun q hq=>.inl (h5.2 q hq))).below hB,h6,rt_nil _ _⟩
 have HSt:Hid (∀B V,Below W.heap.size W B→∀{k b f:Nat} {new:List Tk},SPr (Onw own B.heap.size) B V g S (opE S) T S.size k b f new→Calls Tryz.prog 27 #[.pointer (some ⟨g,0,none⟩),.int .i32 (-1),.string ⟨#[]⟩] V fun e w'=>SPo (Onw own B.heap.size) B g S (opE S) T S.size e w'):=fun B V hB k b f new hV=>by
  have h9:=lstep_any hV hs (fun V hV=>hK V (kp_base hB hV))
  rw [xp_out (Nat.le_refl _),xq_out (Nat.le_refl _),ext_same S _ (Nat.le_refl _)] at h9
  exact h9
 have HAn:Hid (∀B V E,((E=0∧∃k b L C f t new,Lq (Onw own B.heap.size) B V g k b L C f t (opE S) (new.map (tv S))∧scn S=(T++new,0,0))∨(E≠0∧Flt (Onw own B.heap.size) B V g S (opE S) T False E))→Calls Tryz.prog 24 #[.pointer (some ⟨g,0,none⟩),.int .i64 (E:Nat)] V fun e' w'=>∃v A L C,e'=.returned (.tuple #[v,.int .i64 E,.agg #[.int .i64 A,.int .i64 L,.int .i64 C]])∧CPa own B g S T v E A L C w'):=fun B V E hz=>lans_close hs hz
 have HOwn:Hid (∀q,own q→q<W.heap.size):=hown
 have hb00:Below W.heap.size W (W.alloc (.cells #[.int .i64 0,.int .i64 0,.int .i64 0] 27)):=(Below.refl _ _).alloc (Nat.le_refl _) _
 have k00:Box3 (W.alloc (.cells #[.int .i64 0,.int .i64 0,.int .i64 0] 27)) W.heap.size 0 0 0:=Box3.new W 0 0 0
 subst eo
 clear h2 h3 h4 h5 h6 hK hown hwl hwb hoz hb ew t1 t2 hbd
 go_enter_defers Tryz.func10,Tryz.ntmps10
 go_wp2_with (first|(go_at_call 22;refine (HRf.out _ hb00).mono ?_;rintro e w1 ⟨rfl,hb1⟩;have hbw1:=hb00.trans (hb1.mono hb00.size);have hbV:Below W.heap.size W (w1.alloc (.cells #[.int .i64 0,.int .i64 0,.int .i64 0,.int .i64 0] 64)):=hbw1.alloc hbw1.size _;obtain ⟨c11,_,hlt1⟩:=HB.out _ hbw1;obtain ⟨_,hcv,_⟩:=HB.out _ hbV;have k01:=(k00.below hb1).below ((Below.refl _ _).alloc (Nat.le_refl _) (.cells #[.int .i64 0,.int .i64 0,.int .i64 0,.int .i64 0] 64))))
 refine (HRd.out _ hbV).mono ?_
 intro e w5 hz
 obtain ⟨E,rfl,hz⟩:=hz
 rcases hz with ⟨rfl,k',b',f',new',hp⟩|⟨hE,hf⟩
 ·have HS2:=HSt.out _ _ hbV hp
  have HS3:Hid (Calls _ _ _ _ _):=HS2
  clear HS2 hp HSt HRd HRf
  go_wp2_with fail
  refine HS3.out.mono ?_
  intro e w7 hz2
  obtain ⟨E2,k2,b2,f2,p2,new2,rfl,z1,z2,z3,z4,z5⟩:=hz2
  have HZ:Hid (Calls _ _ _ _ _):=HAn.out _ w7 E2 (by
   rcases z5 with ⟨_,y1,_⟩|⟨y0,_,y2⟩|⟨y1,A,y2,y3,y4⟩
   ·omega
   ·exact .inl ⟨y0,_,_,_,_,_,_,new2,z1,y2⟩
   ·exact .inr ⟨y1,k2,b2,f2,p2,new2,A,z1,z2,z3,z4,y2,fun h=>h.elim,y4⟩)
  clear HAn HS3 z1 z2 z3 z4 z5
  go_wp2_with (first|(go_at_call 24;refine HZ.out.mono ?_;rintro e w6 ⟨v,A',L',C',rfl,hf⟩;have k06:Box3 w6 W.heap.size 0 0 0:=hf.box k01 (fun e=>absurd (HOwn.out _ e) (Nat.lt_irrefl _));have g0:=k06.cell0;have g1:=k06.cell1;have g2:=k06.cell2;have f0:=k06.frozen 0;have f1:=k06.frozen 1;have f2:=k06.frozen 2;have HF:Hid (CPa own W g S T v E2 A' L' C' (((w6.setCell ⟨W.heap.size,0,none⟩ (.int .i64 A')).setCell ⟨W.heap.size,1,none⟩ (.int .i64 L')).setCell ⟨W.heap.size,2,none⟩ (.int .i64 C'))):=(hf.base hbV).typ k06 (((Kp.set _ _ _ _).trans (Kp.set _ _ _ _)).trans (Kp.set _ _ _ _)) (Nat.le_refl _);clear hf))
  have b6:=((k06.set0 A').set1 L').set2 C'
  have HD:Hid (CallsD Tryz.prog 26 #[.pointer (some ⟨g,0,none⟩)] .returning (((w6.setCell ⟨W.heap.size,0,none⟩ (.int .i64 A')).setCell ⟨W.heap.size,1,none⟩ (.int .i64 L')).setCell ⟨W.heap.size,2,none⟩ (.int .i64 C')) fun e' u' w'=>u'=.returning∧(e'=.returned (.tuple #[])∧LxC w' g∧Kp (fun k=>k=g) (((w6.setCell ⟨W.heap.size,0,none⟩ (.int .i64 A')).setCell ⟨W.heap.size,1,none⟩ (.int .i64 L')).setCell ⟨W.heap.size,2,none⟩ (.int .i64 C')) w')):=by
   obtain ⟨_,_,_,_,⟨cl,e,x,y,z,k,b,L,C,f,vt,vo,vs,r3⟩,_⟩:=HF.out
   exact lshutD_any _ r3
  refine leaves_cons (f:=26) (args:=#[.pointer (some ⟨g,0,none⟩)]) (by simp) (by simp [go_sem]) ?_
  refine HD.out.mono ?_
  rintro e u' w8 ⟨rfl,rfl,hc,hk⟩
  have b8:Box3 w8 W.heap.size A' L' C':=hk.blk b6 (fun e=>absurd (HOwn.out _ h1) (by omega))
  have m0:=b8.cell0
  have m1:=b8.cell1
  have m2:=b8.cell2
  exact ⟨.tuple #[v,.int .i64 E2,.agg #[.int .i64 A',.int .i64 L',.int .i64 C']],by simp [results,Tryz.f10,go_sem,m0,m1,m2],v,E2,A',L',C',rfl,HF.out.shut h1 hc hk⟩
 ·have qE:((E:Int) == 0)=false:=by simp;omega
  have HZ:Hid (Calls _ _ _ _ _):=HAn.out _ w5 E (.inr ⟨hE,by
   obtain ⟨k2,b2,f2,p2,new2,A,z1,z2,z3,z4,y2,_,y4⟩:=hf
   exact ⟨k2,b2,f2,p2,new2,A,z1,z2,z3,z4,y2,fun h=>h.elim,y4⟩⟩)
  clear hf HAn HSt HRd HRf
  go_wp2_with (first|(go_at_call 24;refine HZ.out.mono ?_;rintro e w6 ⟨v,A',L',C',rfl,hf⟩;have k06:Box3 w6 W.heap.size 0 0 0:=hf.box k01 (fun e=>absurd (HOwn.out _ e) (Nat.lt_irrefl _));have g0:=k06.cell0;have g1:=k06.cell1;have g2:=k06.cell2;have f0:=k06.frozen 0;have f1:=k06.frozen 1;have f2:=k06.frozen 2;have HF:Hid (CPa own W g S T v E A' L' C' (((w6.setCell ⟨W.heap.size,0,none⟩ (.int .i64 A')).setCell ⟨W.heap.size,1,none⟩ (.int .i64 L')).setCell ⟨W.heap.size,2,none⟩ (.int .i64 C'))):=(hf.base hbV).typ k06 (((Kp.set _ _ _ _).trans (Kp.set _ _ _ _)).trans (Kp.set _ _ _ _)) (Nat.le_refl _);clear hf))
  have b6:=((k06.set0 A').set1 L').set2 C'
  have HD:Hid (CallsD Tryz.prog 26 #[.pointer (some ⟨g,0,none⟩)] .returning (((w6.setCell ⟨W.heap.size,0,none⟩ (.int .i64 A')).setCell ⟨W.heap.size,1,none⟩ (.int .i64 L')).setCell ⟨W.heap.size,2,none⟩ (.int .i64 C')) fun e' u' w'=>u'=.returning∧(e'=.returned (.tuple #[])∧LxC w' g∧Kp (fun k=>k=g) (((w6.setCell ⟨W.heap.size,0,none⟩ (.int .i64 A')).setCell ⟨W.heap.size,1,none⟩ (.int .i64 L')).setCell ⟨W.heap.size,2,none⟩ (.int .i64 C')) w')):=by
   obtain ⟨_,_,_,_,⟨cl,e,x,y,z,k,b,L,C,f,vt,vo,vs,r3⟩,_⟩:=HF.out
   exact lshutD_any _ r3
  refine leaves_cons (f:=26) (args:=#[.pointer (some ⟨g,0,none⟩)]) (by simp) (by simp [go_sem]) ?_
  refine HD.out.mono ?_
  rintro e u' w8 ⟨rfl,rfl,hc,hk⟩
  have b8:Box3 w8 W.heap.size A' L' C':=hk.blk b6 (fun e=>absurd (HOwn.out _ h1) (by omega))
  have m0:=b8.cell0
  have m1:=b8.cell1
  have m2:=b8.cell2
  exact ⟨.tuple #[v,.int .i64 E,.agg #[.int .i64 A',.int .i64 L',.int .i64 C']],by simp [results,Tryz.f10,go_sem,m0,m1,m2],v,E,A',L',C',rfl,HF.out.shut h1 hc hk⟩
end Go.Proofs.YtkigadnkclkopaaGreatDoor.Lx
