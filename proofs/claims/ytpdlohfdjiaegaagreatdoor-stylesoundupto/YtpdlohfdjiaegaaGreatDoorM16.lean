import Derived.Test.YtpdlohfdjiaegaaGreatDoorM15
set_option linter.unusedVariables false
set_option linter.unusedSimpArgs false
namespace Go.Proofs.YtpdlohfdjiaegaaGreatDoor.Lw
open Go.Proofs.YtpdlohfdjiaegaaGreatDoor.Lx
open Go.RowKit
open Go.Lib (strCells strCells_length)
def addg (gs:List (Nat × Nat)) (l m:Nat):List (Nat × Nat):=if m=0 then gs else gs++[(l,m)]
theorem weave_addg {f:Nat}{gs:List (Nat × Nat)}{t:List UInt8}(m:Nat) (h:Ups f gs t.length):weave f (addg gs t.length m) t=weave f gs t++List.replicate m 32:=by
 unfold addg
 by_cases hm:m=0
 ·rw [if_pos hm,hm];simp
 ·rw [if_neg hm];exact weave_gap m h
theorem ups_addg {f:Nat}{gs:List (Nat × Nat)}{k:Nat}(m:Nat) (h:Ups f gs k):Ups f (addg gs k m) k:=by
 unfold addg
 split
 ·exact h
 ·exact h.snoc m
theorem sums_addg (gs:List (Nat × Nat)) (l m:Nat):sums (addg gs l m)=sums gs+m:=by
 unfold addg
 split
 ·omega
 ·exact sums_app _ _ _
theorem lt_addg (gs:List (Nat × Nat)) (l m n:Nat) (h:∀x∈gs,x.1<n) (hl:l<n):∀x∈addg gs l m,x.1<n:=by
 unfold addg
 split
 ·exact h
 ·intro x hx
  rcases List.mem_append.1 hx with hx|hx
  ·exact h x hx
  ·simp at hx;subst hx;exact hl
theorem len_addg (gs:List (Nat × Nat)) (l m:Nat) (h:gs.length≤sums gs):(addg gs l m).length≤sums (addg gs l m):=by
 rw [sums_addg];unfold addg
 split
 ·omega
 ·simp;omega
theorem cl_bl (m d c:Nat) (v tv:Value) (l:Nat) (gs:List (Nat × Nat)) (w:World) (hc:w.heap[c]?=some (.cells #[tv] 164 (0,0))) (htv:∃p cap,tv=.slice p l cap) (hd:w.heap[d]?=some (.cells #[v] 165 (0,0))) (ho:w.ownsRow 0 175 2 v gs.length (flat eg gs)) (hn:gs.length≤1073741824) (hm2:m≤9223372036854775807) (hl:l≤9223372036854775807) :
  Calls Tryz.prog 197 #[.int .i64 m,.pointer (some ⟨d,0,none⟩),.pointer (some ⟨c,0,none⟩)] w fun e w'=>e=.returned (.tuple #[])∧∃v',w'.heap[d]?=some (.cells #[v'] 165 (0,0))∧w'.ownsRow 0 175 2 v' (addg gs l m).length (flat eg (addg gs l m))∧(v'.ownBlock=v.ownBlock∨∃b,w.heap.size≤b∧v'.ownBlock=some b)∧Kp (fun k=>k=d∨some k=v.ownBlock) w w':=by
 unfold addg
 by_cases hm:m=0
 ·subst hm
  simp only [if_pos]
  refine (cl_none 0 d c w (Int.le_refl _)).mono ?_
  rintro e w' ⟨rfl,rfl⟩
  exact ⟨rfl,v,hd,ho,.inl rfl,Kp.refl _ _⟩
 ·simp only [if_neg hm]
  refine (cl_blanks m d c v tv gs.length l (flat eg gs) w hc htv hd ho hn (by omega) hm2 hl).mono ?_
  rintro e w' ⟨rfl,v',h1,h2,h3,h4⟩
  refine ⟨rfl,v',h1,?_,h3,h4⟩
  rw [List.length_append,flat_append]
  simpa [flat] using h2
structure Ga (own:Nat→Nat) (i:Nat) (w0:World) (g c d h:Nat) (sv:Array Value) (w:World) (text:List UInt8) (gs:List (Nat × Nat)):Prop where
 hg:w.heap[g]?=some (.cells sv 167 (0,0))
 hc:∃tv,w.heap[c]?=some (.cells #[tv] 164 (0,0))∧w.ownsRow 0 5 1 tv text.length (bc text)∧∀k,tv.ownBlock=some k→own k=i∨w0.heap.size≤k
 hd:∃gv,w.heap[d]?=some (.cells #[gv] 165 (0,0))∧w.ownsRow 0 175 2 gv gs.length (flat eg gs)∧∀k,gv.ownBlock=some k→own k=i∨w0.heap.size≤k
 hh:w.heap[h]?=some (.cells #[.pointer (some ⟨g,0,none⟩)] 111 (0,0))
 kp:Kp (fun k=>own k=i) w0 w
 lc:w0.heap.size≤c
 ld:w0.heap.size≤d
theorem ne_of_blk {w:World}{a b:Nat}{x y:Array Value}{s t:TypeId}{f e:Nat × Nat}(ha:w.heap[a]?=some (.cells x s f)) (hb:w.heap[b]?=some (.cells y t e)) (h:s≠t):a≠b:=by
 rintro rfl
 rw [ha] at hb
 injection hb with h1
 injection h1 with _ h2
 exact h h2
theorem Ga.below {own:Nat→Nat}{i:Nat}{w0:World}{g c d h:Nat}{sv:Array Value}{w w':World}{text:List UInt8}{gs:List (Nat × Nat)}(H:Ga own i w0 g c d h sv w text gs) (hb:Below w.heap.size w w'):Ga own i w0 g c d h sv w' text gs:=by
 obtain ⟨tv,h1,h2,h3⟩:=H.hc
 obtain ⟨gv,k1,k2,k3⟩:=H.hd
 exact ⟨blk_below H.hg hb,⟨tv,blk_below h1 hb,row_below h2 hb,h3⟩,⟨gv,blk_below k1 hb,row_below k2 hb,k3⟩,blk_below H.hh hb,H.kp.step (Kp.of_below (S:=fun k=>own k=i) hb) (fun _ _ h=>h),H.lc,H.ld⟩
theorem Ga.blanks {own:Nat→Nat}{i:Nat}{w0:World}{g c d h:Nat}{sv:Array Value}{w:World}{text:List UInt8}{gs:List (Nat × Nat)}(H:Ga own i w0 g c d h sv w text gs) (m:Nat) (hn:gs.length≤1073741824) (hm:m≤9223372036854775807) (hl:text.length≤9223372036854775807) :
  Calls Tryz.prog 197 #[.int .i64 m,.pointer (some ⟨d,0,none⟩),.pointer (some ⟨c,0,none⟩)] w fun e w'=>e=.returned (.tuple #[])∧Ga own i w0 g c d h sv w' text (addg gs text.length m):=by
 obtain ⟨tv,h1,h2,h3⟩:=H.hc
 obtain ⟨gv,k1,k2,k3⟩:=H.hd
 obtain ⟨p,cap,hv,_,_⟩:=row_shape h2
 refine (cl_bl m d c gv tv text.length gs w h1 ⟨p,cap,hv⟩ k1 k2 hn hm hl).mono ?_
 rintro e w' ⟨rfl,v',a1,a2,a3,a4⟩
 have hne:∀{x:Array Value} {k:Nat} {T:TypeId},w.heap[k]?=some (.cells x T (0,0))→T≠165→T≠175→¬(k=d∨some k=gv.ownBlock):=by
  intro x k T hk t1 t2 hh
  rcases hh with hh|hh
  ·exact ne_of_blk hk k1 t1 hh
  ·exact row_ne k2 hk t2 hh.symm
 refine ⟨rfl,a4.blk H.hg (hne H.hg (by decide) (by decide)),⟨tv,a4.blk h1 (hne h1 (by decide) (by decide)),a4.row h2 ?_,h3⟩,⟨v',a1,a2,?_⟩,a4.blk H.hh (hne H.hh (by decide) (by decide)),H.kp.step a4 ?_,H.lc,H.ld⟩
 ·intro k hk hS
  rcases hS with hS|hS
  ·subst hS;exact row_ne h2 k1 (by decide) hk
  ·rcases h2.2 with ⟨rfl,_⟩|⟨b,cap,cur,rfl,_,hb,_⟩
   ·cases hk
   ·simp only [Value.ownBlock,Option.some.injEq] at hk
    subst hk
    exact row_ne k2 hb (by decide) hS.symm
 ·intro k hk
  rcases a3 with a3|⟨b,hb,a3⟩
  ·exact k3 k (by rw [←a3];exact hk)
  ·rw [a3] at hk;injection hk with hk;subst hk
   exact .inr (Nat.le_trans H.kp.size hb)
 ·intro j hj hS
  rcases hS with hS|hS
  ·have:=H.ld;omega
  ·rcases k3 j hS.symm with h|h
   ·exact h
   ·omega
theorem Ga.text {own:Nat→Nat}{i:Nat}{w0:World}{g c d h:Nat}{sv:Array Value}{w:World}{text:List UInt8}{gs:List (Nat × Nat)}(H:Ga own i w0 g c d h sv w text gs) (t:ByteArray) (hn:text.length+t.size≤70368744177664) :
  Calls Tryz.prog 198 #[.string t,.pointer (some ⟨c,0,none⟩)] w fun e w'=>e=.returned (.tuple #[])∧Ga own i w0 g c d h sv w' (text++t.data.toList) gs:=by
 obtain ⟨tv,h1,h2,h3⟩:=H.hc
 obtain ⟨gv,k1,k2,k3⟩:=H.hd
 refine (cl_text c tv text.length (bc text) t w h1 h2 hn).mono ?_
 rintro e w' ⟨rfl,v',a1,a2,a3,a4⟩
 have hne:∀{x:Array Value} {k:Nat} {T:TypeId},w.heap[k]?=some (.cells x T (0,0))→T≠164→T≠5→¬(k=c∨some k=tv.ownBlock):=by
  intro x k T hk t1 t2 hh
  rcases hh with hh|hh
  ·exact ne_of_blk hk h1 t1 hh
  ·exact row_ne h2 hk t2 hh.symm
 have hlen:(text++t.data.toList).length=text.length+t.size:=by rw [List.length_append];rfl
 refine ⟨rfl,a4.blk H.hg (hne H.hg (by decide) (by decide)),⟨v',a1,by rw [hlen,bc_app];exact a2,?_⟩,⟨gv,a4.blk k1 (hne k1 (by decide) (by decide)),a4.row k2 ?_,k3⟩,a4.blk H.hh (hne H.hh (by decide) (by decide)),H.kp.step a4 ?_,H.lc,H.ld⟩
 ·intro k hk
  rcases a3 with a3|a3
  ·exact h3 k (by rw [←a3];exact hk)
  ·rw [a3] at hk;injection hk with hk;subst hk
   exact .inr H.kp.size
 ·intro k hk hS
  rcases hS with hS|hS
  ·subst hS;exact row_ne k2 h1 (by decide) hk
  ·rcases k2.2 with ⟨rfl,_⟩|⟨b,cap,cur,rfl,_,hb,_⟩
   ·cases hk
   ·simp only [Value.ownBlock,Option.some.injEq] at hk
    subst hk
    exact row_ne h2 hb (by decide) hS.symm
 ·intro j hj hS
  rcases hS with hS|hS
  ·have:=H.lc;omega
  ·rcases h3 j hS.symm with h|h
   ·exact h
   ·omega
structure St6 where
 fresh:Bool
 col:Nat
 wait:Nat
 out:List UInt8
structure SK (own:Nat→Nat) (i:Nat) (w:World) (g:Nat) (s:St6):Prop where
 lab:own g=i
 ex:∃tv gv text gs,w.heap[g]?=some (.cells (sk (!s.fresh) s.col s.wait tv gv) 167 (0,0))∧(w.ownsRow 0 5 1 tv text.length (bc text)∧∀k,tv.ownBlock=some k→own k=i)∧(w.ownsRow 0 175 2 gv gs.length (flat eg gs)∧∀k,gv.ownBlock=some k→own k=i)∧Ups 0 gs text.length∧s.out=weave 0 gs text∧(gs.length≤sums gs∧∀x∈gs,x.1<text.length)
theorem fr_row {own own':Nat→Nat}{i j:Nat}{w w':World}{e sz n:Nat}{v:Value}{xs:List Value}(hf:Fr j own own' w w') (hij:i≠j) (h:w.ownsRow 0 e sz v n xs∧∀k,v.ownBlock=some k→own k=i):w'.ownsRow 0 e sz v n xs∧∀k,v.ownBlock=some k→own' k=i:=by
 obtain ⟨h1,h2⟩:=h
 refine ⟨⟨h1.1,?_⟩,fun k hk=>?_⟩
 ·rcases h1.2 with h3|⟨g,cap,cur,rfl,h4,h5,h6⟩
  ·exact .inl h3
  ·exact .inr ⟨g,cap,cur,rfl,h4,(hf.block g (blk_lt h5) (by rw [h2 g rfl];exact hij)).trans h5,h6⟩
 ·rw [hf.old k (h1.lt k hk).2];exact h2 k hk
theorem SK.kept {own own':Nat→Nat}{i j:Nat}{w w':World}{g:Nat}{s:St6}(h:SK own i w g s) (hf:Fr j own own' w w') (hij:i≠j):SK own' i w' g s:=by
 obtain ⟨tv,gv,text,gs,h1,h2,h3,h4⟩:=h.ex
 exact ⟨(hf.old g (blk_lt h1)).trans h.lab,tv,gv,text,gs,(hf.block g (blk_lt h1) (by rw [h.lab];exact hij)).trans h1,fr_row hf hij h2,fr_row hf hij h3,h4⟩
theorem SK.below {own:Nat→Nat}{i:Nat}{w w':World}{g:Nat}{s:St6}(h:SK own i w g s) (hb:Below w.heap.size w w'):SK own i w' g s:=
 h.kept (Fr.of_below (i:=i+1) hb) (by omega)
theorem SK.len {own:Nat→Nat}{i:Nat}{w:World}{g:Nat}{s:St6}(h:SK own i w g s):g<w.heap.size:=by
 obtain ⟨tv,gv,text,gs,h1,_⟩:=h.ex
 exact blk_lt h1
def Af (own:Nat→Nat) (i:Nat) (w w':World) (g:Nat) (s:St6):Prop:=∃own',Nf own' w'∧Fr i own own' w w'∧SK own' i w' g s
theorem Af.here {own:Nat→Nat}{i:Nat}{w w':World}{g:Nat}{s:St6}(h:SK own i w g s) (hn:Nf own w) (hb:Below w.heap.size w w'):Af own i w w' g s:=
 ⟨own,hn.below hb.size,Fr.of_below hb,h.below hb⟩
theorem Ga.fin {own:Nat→Nat}{i:Nat}{w0 w w':World}{g c d h:Nat}{sv:Array Value}{text:List UInt8}{gs:List (Nat × Nat)}(H:Ga own i w0 g c d h sv w text gs) (hn:Nf own w0) (hlab:own g=i) (hg0:g<w0.heap.size)
  (tv gv:Value) (h1:w.ownsRow 0 5 1 tv text.length (bc text)) (h2:∀k,tv.ownBlock=some k→own k=i∨w0.heap.size≤k) (k1:w.ownsRow 0 175 2 gv gs.length (flat eg gs)) (k2:∀k,gv.ownBlock=some k→own k=i∨w0.heap.size≤k)
  (s:St6) (hgw:w'.heap[g]?=some (.cells (sk (!s.fresh) s.col s.wait tv gv) 167 (0,0))) (hk:Kp (fun k=>k=g) w w') (hu:Ups 0 gs text.length) (ho:s.out=weave 0 gs text) (hgs:gs.length≤sums gs∧∀x∈gs,x.1<text.length):Af own i w0 w' g s:=by
 have hs:=H.kp.size
 have hs':=hk.size
 have rw1:=row_ne h1 H.hg (by decide)
 have rw2:=row_ne k1 H.hg (by decide)
 have lt1:=fun k hk=>(h1.lt k hk).2
 have lt2:=fun k hk=>(k1.lt k hk).2
 refine ⟨fun k=>if k<w0.heap.size then own k else if tv.ownBlock=some k∨gv.ownBlock=some k then i else 0,?_,?_,?_,tv,gv,text,gs,hgw,⟨hk.row h1 (fun k e1 e2=>rw1 (by rw [e1,e2])),?_⟩,⟨hk.row k1 (fun k e1 e2=>rw2 (by rw [e1,e2])),?_⟩,hu,ho,hgs⟩
 ·intro k hkk
  show (if k<w0.heap.size then own k else if tv.ownBlock=some k∨gv.ownBlock=some k then i else 0)=0
  rw [if_neg (by omega),if_neg]
  rintro (e|e)
  ·have:=lt1 k e;omega
  ·have:=lt2 k e;omega
 ·refine (H.kp.step hk (fun j _ e=>by subst e;exact hlab)).fr (fun k _ e=>e) (fun k hkk=>if_pos hkk)
 ·show (if g<w0.heap.size then own g else _)=i
  rw [if_pos hg0];exact hlab
 ·intro k e
  show (if k<w0.heap.size then own k else if tv.ownBlock=some k∨gv.ownBlock=some k then i else 0)=i
  by_cases hkk:k<w0.heap.size
  ·rw [if_pos hkk]
   rcases h2 k e with h|h
   ·exact h
   ·omega
  ·rw [if_neg hkk,if_pos (.inl e)]
 ·intro k e
  show (if k<w0.heap.size then own k else if tv.ownBlock=some k∨gv.ownBlock=some k then i else 0)=i
  by_cases hkk:k<w0.heap.size
  ·rw [if_pos hkk]
   rcases k2 k e with h|h
   ·exact h
   ·omega
  ·rw [if_neg hkk,if_pos (.inr e)]
def St6.feed (s:St6) (c:Nat):St6:=⟨true,c,0,s.out++[10]⟩
theorem ga_end {own:Nat→Nat}{i:Nat}{w0 w:World}{g c d h:Nat}{b:Bool}{col wait:Int}{tv0 gv0:Value}{text:List UInt8}{gs:List (Nat × Nat)}(H:Ga own i w0 g c d h (sk b col wait tv0 gv0) w text gs) (htv0:∃p n cap,tv0=.slice p n cap) (hgv0:∃p n cap,gv0=.slice p n cap) (hn:Nf own w0) (hlab:own g=i) (hg0:g<w0.heap.size)
  (u:FrameMode) (s:St6) (hu:Ups 0 gs text.length) (ho:s.out=weave 0 gs text) (hgs:gs.length≤sums gs∧∀x∈gs,x.1<text.length) :
  CallsD Tryz.prog 199 #[.agg #[.bool (!s.fresh),.int .i64 s.col,.int .i64 s.wait],.pointer (some ⟨c,0,none⟩),.pointer (some ⟨d,0,none⟩),.pointer (some ⟨h,0,none⟩)] u w fun e u' w'=>u'=u∧(e=.returned (.tuple #[])∧Af own i w0 w' g s):=by
 obtain ⟨tv,h1,h2,h3⟩:=H.hc
 obtain ⟨gv,k1,k2,k3⟩:=H.hd
 obtain ⟨p1,c1,e1,_,_⟩:=row_shape h2
 obtain ⟨p2,c2,e2,_,_⟩:=row_shape k2
 refine (cl_end u b (!s.fresh) col wait s.col s.wait c d h g tv0 gv0 tv gv w H.hg h1 k1 H.hh htv0 hgv0 ⟨_,_,_,e1⟩ ⟨_,_,_,e2⟩).mono ?_
 rintro e u' w' ⟨rfl,rfl,a1,a2⟩
 exact ⟨rfl,rfl,H.fin hn hlab hg0 tv gv h2 h3 k2 k3 s a1 a2 hu ho hgs⟩
theorem ga_start {own:Nat→Nat}{i:Nat}{w w':World}{g c d h:Nat}{sv:Array Value}{tv gv:Value}{text:List UInt8}{gs:List (Nat × Nat)}(hg:w.heap[g]?=some (.cells sv 167 (0,0))) (h1:w.ownsRow 0 5 1 tv text.length (bc text)∧∀k,tv.ownBlock=some k→own k=i) (h2:w.ownsRow 0 175 2 gv gs.length (flat eg gs)∧∀k,gv.ownBlock=some k→own k=i)
  (hB:(w'.heap[c]?=some (.cells #[tv] 164 (0,0))∧w'.heap[d]?=some (.cells #[gv] 165 (0,0))∧w'.heap[h]?=some (.cells #[.pointer (some ⟨g,0,none⟩)] 111 (0,0))∧w.heap.size≤c∧w.heap.size≤d∧w.heap.size≤h)∧Below w.heap.size w w'):Ga own i w g c d h sv w' text gs:=by
 obtain ⟨⟨b1,b2,b3,b4,b5,_⟩,hb⟩:=hB
 exact ⟨blk_below hg hb,⟨tv,b1,row_below h1.1 hb,fun k hk=>.inl (h1.2 k hk)⟩,⟨gv,b2,row_below h2.1 hb,fun k hk=>.inl (h2.2 k hk)⟩,b3,Kp.of_below hb,b4,b5⟩
set_option maxHeartbeats 1000000 in
theorem next_any (own:Nat→Nat) (i g:Nat) (s:St6) (c:Nat) (w:World) (h:SK own i w g s) (hn:Nf own w) (hb:s.out.length≤1073741824) :
  Calls Tryz.prog 162 #[.pointer (some ⟨g,0,none⟩),.int .i64 c] w fun e w'=>e=.returned (.tuple #[])∧Af own i w w' g (s.feed c):=by
 have hlt:=h.len
 have hlab:=h.lab
 obtain ⟨tv,gv,text,gs,h1,h2,h3,h4,h5,h6⟩:=h.ex
 obtain ⟨p1,c1,e1,_,_⟩:=row_shape h2.1
 obtain ⟨p2,c2,e2,_,_⟩:=row_shape h3.1
 have hwl:=weave_len h4
 rw [←h5] at hwl
 have h61:=h6.1
 have HG:=gather_any g (!s.fresh) s.col s.wait tv gv w h1 ⟨_,_,_,e1⟩ ⟨_,_,_,e2⟩
 have HS:Hid (∀(w':World) (c d h:Nat),((w'.heap[c]?=some (.cells #[tv] 164 (0,0))∧w'.heap[d]?=some (.cells #[gv] 165 (0,0))∧w'.heap[h]?=some (.cells #[.pointer (some ⟨g,0,none⟩)] 111 (0,0))∧w.heap.size≤c∧w.heap.size≤d∧w.heap.size≤h)∧Below w.heap.size w w')→Ga own i w g c d h (sk (!s.fresh) s.col s.wait tv gv) w' text gs):=fun w' c d h hB=>ga_start h1 h2 h3 hB
 have HE:Hid (∀(w':World) (cb d h:Nat) (u:FrameMode),Ga own i w g cb d h (sk (!s.fresh) s.col s.wait tv gv) w' (text++[10]) gs→CallsD Tryz.prog 199 #[.agg #[.bool false,.int .i64 c,.int .i64 0],.pointer (some ⟨cb,0,none⟩),.pointer (some ⟨d,0,none⟩),.pointer (some ⟨h,0,none⟩)] u w' fun e u' w'=>u'=u∧(e=.returned (.tuple #[])∧Af own i w w' g (s.feed c))):=fun w' cb d h u H=>
  ga_end H ⟨_,_,_,e1⟩ ⟨_,_,_,e2⟩ hn hlab hlt u (s.feed c) (h4.more (by simp)) (by show s.out++[10]=_;rw [h5,weave_app [10] h4]) ⟨h6.1,fun x hx=>by have:=h6.2 x hx;simp;omega⟩
 have HGH:Hid (Calls Tryz.prog 157 #[.pointer (some ⟨g,0,none⟩)] w fun e w'=>∃c d h,e=.returned (.tuple #[.func (.func 197) #[] #[.pointer (some ⟨d,0,none⟩),.pointer (some ⟨c,0,none⟩)],.func (.func 198) #[] #[.pointer (some ⟨c,0,none⟩)],.func (.func 199) #[] #[.pointer (some ⟨c,0,none⟩),.pointer (some ⟨d,0,none⟩),.pointer (some ⟨h,0,none⟩)]])∧Ga own i w g c d h (sk (!s.fresh) s.col s.wait tv gv) w' text gs):=by
  refine HG.mono ?_
  rintro e w' ⟨c,d,h,rfl,hB⟩
  exact ⟨c,d,h,rfl,HS.out _ _ _ _ hB⟩
 have HL:Hid (text.length+1≤70368744177664):=by show _≤_;omega
 clear HG HS hn hlab hlt h h1 h2 h3 h4 h5 h6 h61 hwl e1 e2 hb
 go_enter_defers Tryz.func162,Tryz.ntmps162
 go_wp2_with (go_at_call 157;refine HGH.out.mono ?_;rintro e w1 ⟨cb,d,h,rfl,H⟩)
 have HH:Hid (Ga own i w g cb d h (sk (!s.fresh) s.col s.wait tv gv) w1 text gs):=H
 clear H
 refine (HH.out.text ⟨#[10]⟩ HL.out).mono ?_
 rintro e w2 ⟨rfl,H2⟩
 have HD:Hid (Ga own i w g cb d h (sk (!s.fresh) s.col s.wait tv gv) w2 (text++[10]) gs):=H2
 clear HH H2
 go_wp2_with fail
 refine leaves_cons (f:=199) (args:=#[.agg #[.bool false,.int .i64 c,.int .i64 0],.pointer (some ⟨cb,0,none⟩),.pointer (some ⟨d,0,none⟩),.pointer (some ⟨h,0,none⟩)]) (by simp) (by simp [go_sem]) ?_
 refine (HE.out _ _ _ _ .returning HD.out).mono ?_
 rintro e u' w'' ⟨rfl,rfl,hA⟩
 exact ⟨_,results_none rfl _ _ _,rfl,hA⟩
def St6.text (s:St6) (t:ByteArray):St6:=if t.size=0 then s else ⟨false,(ncol s.col s.wait t).toNat,0,s.out++((if s.fresh then List.replicate s.col 32 else [])++(List.replicate s.wait 32++t.data.toList))⟩
theorem ne_list {t:ByteArray}(h:t.size≠0):t.toList.isEmpty=false:=by
 rw [ByteArray.toList_eq]
 cases hd:t.data.toList with
 |nil=>exfalso;apply h;show t.data.size=0;rw [←Array.length_toList,hd];rfl
 |cons a r=>rfl
theorem ncol_bd (col wait:Nat) (t:ByteArray):0≤ncol col wait t∧ncol col wait t≤col+wait+2*t.size:=by
 have h1:=tw_bd t
 have h2:=tw_bd (aft t)
 have h3:=aft_size t
 unfold ncol
 split <;> omega
theorem text_none (g:Nat) (t:ByteArray) (w:World) (ht:t.size=0):Calls Tryz.prog 104 #[.pointer (some ⟨g,0,none⟩),.string t] w fun e w'=>e=.returned (.int .i64 0)∧w'=w:=by
 obtain rfl:t=⟨#[]⟩:=by
  have:t=ByteArray.empty:=ByteArray.size_eq_zero_iff.1 ht
  exact this
 go_enter_defers Tryz.func104,Tryz.ntmps104
 go_wp2_with fail
 exact ⟨_,results_tmp rfl _ _ _,rfl,rfl⟩
set_option maxHeartbeats 1000000 in
theorem text_some (own:Nat→Nat) (i g:Nat) (s:St6) (t:ByteArray) (w:World) (h:SK own i w g s) (hn:Nf own w) (hT:Tab w) (ht:t.size≠0) (hb:s.out.length+s.col+s.wait+t.size≤1073741824) :
  Calls Tryz.prog 104 #[.pointer (some ⟨g,0,none⟩),.string t] w fun e w'=>e=.returned (.int .i64 0)∧Af own i w w' g (s.text t):=by
 have hlt:=h.len
 have hlab:=h.lab
 obtain ⟨tv,gv,text,gs,h1,h2,h3,h4,h5,h6⟩:=h.ex
 obtain ⟨p1,c1,e1,_,_⟩:=row_shape h2.1
 obtain ⟨p2,c2,e2,_,_⟩:=row_shape h3.1
 have hwl:=weave_len h4
 rw [←h5] at hwl
 obtain ⟨fr,col,wait,out⟩:=s
 simp only at *
 have HGH:Hid (Calls Tryz.prog 157 #[.pointer (some ⟨g,0,none⟩)] w fun e w'=>∃c d h,e=.returned (.tuple #[.func (.func 197) #[] #[.pointer (some ⟨d,0,none⟩),.pointer (some ⟨c,0,none⟩)],.func (.func 198) #[] #[.pointer (some ⟨c,0,none⟩)],.func (.func 199) #[] #[.pointer (some ⟨c,0,none⟩),.pointer (some ⟨d,0,none⟩),.pointer (some ⟨h,0,none⟩)]])∧Hid (Ga own i w g c d h (sk (!fr) col wait tv gv) w' text gs∧Tab w')∧w'.cell? ⟨g,0,none⟩=some (.bool (!fr))∧w'.cell? ⟨g,1,none⟩=some (.int .i64 col)∧w'.cell? ⟨g,2,none⟩=some (.int .i64 wait)):=by
  refine (gather_any g (!fr) col wait tv gv w h1 ⟨_,_,_,e1⟩ ⟨_,_,_,e2⟩).mono ?_
  rintro e w' ⟨c,d,h,rfl,hB⟩
  have hG:Ga own i w g c d h (sk (!fr) col wait tv gv) w' text gs:=ga_start h1 h2 h3 hB
  exact ⟨c,d,h,rfl,⟨hG,hT.below hB.2⟩,blk_cell hG.hg rfl,blk_cell hG.hg rfl,blk_cell hG.hg rfl⟩
 have hnb:=ncol_bd col wait t
 obtain ⟨nc,hnc⟩:∃nc:Nat,ncol col wait t=nc:=⟨(ncol col wait t).toNat,by omega⟩
 have HBH:Hid (∀V,Tab V→Calls Tryz.prog 158 #[.agg #[.bool (!fr),.int .i64 col,.int .i64 wait],.string t] V fun e w'=>e=.returned (.agg #[.bool true,.int .i64 nc,.int .i64 0])∧Below V.heap.size V w'):=by
  intro V hV
  have:=behind_any (!fr) col wait t V hV (by omega) (by omega) (by omega) (by omega) (by omega)
  rw [hnc] at this
  exact this
 have HE:Hid (∀(w':World) (cb d h:Nat) (u:FrameMode),Ga own i w g cb d h (sk (!fr) col wait tv gv) w' (text++t.data.toList) (addg (addg gs text.length (if fr then col else 0)) text.length wait)→CallsD Tryz.prog 199 #[.agg #[.bool true,.int .i64 nc,.int .i64 0],.pointer (some ⟨cb,0,none⟩),.pointer (some ⟨d,0,none⟩),.pointer (some ⟨h,0,none⟩)] u w' fun e u' w'=>u'=u∧(e=.returned (.tuple #[])∧Af own i w w' g (St6.text ⟨fr,col,wait,out⟩ t))):=by
  intro w' cb d h u H
  have hst:St6.text ⟨fr,col,wait,out⟩ t=⟨false,nc,0,out++((if fr then List.replicate col 32 else [])++(List.replicate wait 32++t.data.toList))⟩:=by
   unfold St6.text;rw [if_neg ht];simp only [hnc];rfl
  rw [hst]
  have hlt2:text.length<(text++t.data.toList).length:=by
   have:t.data.toList.length=t.size:=by rw [Array.length_toList];rfl
   rw [List.length_append,this];omega
  have hu2:Ups 0 (addg (addg gs text.length (if fr then col else 0)) text.length wait) text.length:=ups_addg wait (ups_addg _ h4)
  refine ga_end H ⟨_,_,_,e1⟩ ⟨_,_,_,e2⟩ hn hlab hlt u ⟨false,nc,0,_⟩ (hu2.more (by simp)) ?_ ⟨len_addg _ _ _ (len_addg _ _ _ h6.1),lt_addg _ _ _ _ (lt_addg _ _ _ _ (fun x hx=>by have:=h6.2 x hx;simp;omega) hlt2) hlt2⟩
  show out++_=_
  rw [weave_app _ hu2,weave_addg _ (ups_addg _ h4),weave_addg _ h4,←h5]
  cases fr
  ·simp
  ·simp only [if_true,List.append_assoc]
 have HL:Hid (gs.length≤1073741824∧(addg gs text.length (if fr then col else 0)).length≤1073741824∧text.length+t.size≤70368744177664∧col≤1073741824∧wait≤1073741824∧text.length≤1073741824):=by
  have:=len_addg gs text.length (if fr then col else 0) h6.1
  rw [sums_addg] at this
  have h61:=h6.1
  refine ⟨by omega,?_,by omega,by omega,by omega,by omega⟩
  cases fr <;> simp at this ⊢ <;> omega
 have hte:t.toList.isEmpty=false:=ne_list ht
 clear hn hlab hlt h h1 h2 h3 h4 h5 h6 hwl e1 e2 hb hT ht hnb hnc
 cases fr
 ·go_enter_defers Tryz.func104,Tryz.ntmps104
  go_wp2_with (go_at_call 157;refine HGH.out.mono ?_;rintro e w1 ⟨cb,d,h,rfl,HG,g0,g1,g2⟩)
  refine (HBH.out w1 HG.out.2).mono ?_
  rintro e w2 ⟨rfl,hb2⟩
  have HG2:Hid (Ga own i w g cb d h (sk true col wait tv gv) w2 text gs):=HG.out.1.below hb2
  have g0':w2.cell? ⟨g,0,none⟩=some (.bool true):=blk_cell HG2.out.hg rfl
  have g2':w2.cell? ⟨g,2,none⟩=some (.int .i64 wait):=blk_cell HG2.out.hg rfl
  clear HG g0 g1 g2 hb2
  go_wp2_with fail
  refine (HG2.out.blanks wait HL.out.1 (by have:=HL.out;omega) (by have:=HL.out;omega)).mono ?_
  rintro e w3 ⟨rfl,H3⟩
  have HG3:Hid (Ga own i w g cb d h (sk true col wait tv gv) w3 text (addg gs text.length wait)):=H3
  clear HG2 H3 g0' g2'
  go_wp2_with fail
  refine (HG3.out.text t HL.out.2.2.1).mono ?_
  rintro e w4 ⟨rfl,H4⟩
  have HG4:Hid (Ga own i w g cb d h (sk true col wait tv gv) w4 (text++t.data.toList) (addg gs text.length wait)):=H4
  clear HG3 H4
  go_wp2_with fail
  refine leaves_cons (f:=199) (args:=#[.agg #[.bool true,.int .i64 nc,.int .i64 0],.pointer (some ⟨cb,0,none⟩),.pointer (some ⟨d,0,none⟩),.pointer (some ⟨h,0,none⟩)]) (by simp) (by simp [go_sem]) ?_
  refine (HE.out _ _ _ _ .returning HG4.out).mono ?_
  rintro e u' w'' ⟨rfl,rfl,hA⟩
  exact ⟨_,results_tmp rfl _ _ _,rfl,hA⟩
 ·go_enter_defers Tryz.func104,Tryz.ntmps104
  go_wp2_with (go_at_call 157;refine HGH.out.mono ?_;rintro e w1 ⟨cb,d,h,rfl,HG,g0,g1,g2⟩)
  refine (HBH.out w1 HG.out.2).mono ?_
  rintro e w2 ⟨rfl,hb2⟩
  have HG2:Hid (Ga own i w g cb d h (sk false col wait tv gv) w2 text gs):=HG.out.1.below hb2
  have g0':w2.cell? ⟨g,0,none⟩=some (.bool false):=blk_cell HG2.out.hg rfl
  have g1':w2.cell? ⟨g,1,none⟩=some (.int .i64 col):=blk_cell HG2.out.hg rfl
  clear HG g0 g1 g2 hb2
  go_wp2_with fail
  refine (HG2.out.blanks col HL.out.1 (by have:=HL.out;omega) (by have:=HL.out;omega)).mono ?_
  rintro e w3 ⟨rfl,H3⟩
  have HG3:Hid (Ga own i w g cb d h (sk false col wait tv gv) w3 text (addg gs text.length col)):=H3
  have g2':w3.cell? ⟨g,2,none⟩=some (.int .i64 wait):=blk_cell HG3.out.hg rfl
  clear HG2 H3 g0' g1'
  go_wp2_with fail
  refine (HG3.out.blanks wait HL.out.2.1 (by have:=HL.out;omega) (by have:=HL.out;omega)).mono ?_
  rintro e w5 ⟨rfl,H5⟩
  have HG5:Hid (Ga own i w g cb d h (sk false col wait tv gv) w5 text (addg (addg gs text.length col) text.length wait)):=H5
  clear HG3 H5 g2'
  go_wp2_with fail
  refine (HG5.out.text t HL.out.2.2.1).mono ?_
  rintro e w4 ⟨rfl,H4⟩
  have HG4:Hid (Ga own i w g cb d h (sk false col wait tv gv) w4 (text++t.data.toList) (addg (addg gs text.length col) text.length wait)):=H4
  clear HG5 H4
  go_wp2_with fail
  refine leaves_cons (f:=199) (args:=#[.agg #[.bool true,.int .i64 nc,.int .i64 0],.pointer (some ⟨cb,0,none⟩),.pointer (some ⟨d,0,none⟩),.pointer (some ⟨h,0,none⟩)]) (by simp) (by simp [go_sem]) ?_
  refine (HE.out _ _ _ _ .returning HG4.out).mono ?_
  rintro e u' w'' ⟨rfl,rfl,hA⟩
  exact ⟨_,results_tmp rfl _ _ _,rfl,hA⟩
theorem text_any (own:Nat→Nat) (i g:Nat) (s:St6) (t:ByteArray) (w:World) (h:SK own i w g s) (hn:Nf own w) (hT:Tab w) (hb:s.out.length+s.col+s.wait+t.size≤1073741824) :
  Calls Tryz.prog 104 #[.pointer (some ⟨g,0,none⟩),.string t] w fun e w'=>e=.returned (.int .i64 0)∧Af own i w w' g (s.text t):=by
 by_cases ht:t.size=0
 ·refine (text_none g t w ht).mono ?_
  rintro e w' ⟨rfl,rfl⟩
  have:s.text t=s:=if_pos ht
  rw [this]
  exact ⟨rfl,Af.here h hn (Below.refl _ _)⟩
 ·exact text_some own i g s t w h hn hT ht hb
theorem feed_any (own:Nat→Nat) (i g:Nat) (s:St6) (c:Nat) (w:World) (h:SK own i w g s) (hn:Nf own w) (hc:c≤1048576) (hb:s.out.length≤1073741824) :
  Calls Tryz.prog 161 #[.pointer (some ⟨g,0,none⟩),.int .i64 c] w fun e w'=>e=.returned (.int .i64 0)∧Af own i w w' g (s.feed c):=by
 have q1:decide ((c:Int)<0)=false:=by simp
 have q2:decide (1048576<(c:Int))=false:=by simp;omega
 have q3:¬(1048576<(c:Int)):=by omega
 have q4:¬(1048576<c):=by omega
 have HN:=next_any own i g s c w h hn hb
 clear h hn hb
 go_enter Tryz.func161,Tryz.ntmps161
 go_wp2_with (go_at_call 162;refine HN.mono ?_;rintro e w1 ⟨rfl,hA⟩)
 go_ret
 exact ⟨rfl,hA⟩
def St6.empty (s:St6):St6:=if s.fresh then s.feed s.col else s
theorem empty_any (own:Nat→Nat) (i g:Nat) (s:St6) (w:World) (h:SK own i w g s) (hn:Nf own w) (hb:s.out.length≤1073741824) :
  Calls Tryz.prog 108 #[.pointer (some ⟨g,0,none⟩)] w fun e w'=>e=.returned (.int .i64 0)∧Af own i w w' g s.empty:=by
 obtain ⟨tv,gv,text,gs,h1,_⟩:=h.ex
 have HN:=next_any own i g s s.col w h hn hb
 obtain ⟨fr,col,wait,out⟩:=s
 simp only at *
 have g0:w.cell? ⟨g,0,none⟩=some (.bool (!fr)):=blk_cell h1 rfl
 have g1:w.cell? ⟨g,1,none⟩=some (.int .i64 col):=blk_cell h1 rfl
 cases fr
 ·have HE:Hid (Af own i w w g (St6.empty ⟨false,col,wait,out⟩)):=Af.here h hn (Below.refl _ _)
  clear h hn hb h1 HN
  go_enter Tryz.func108,Tryz.ntmps108
  go_wp2_with fail
  go_ret
  exact ⟨rfl,HE.out⟩
 ·clear h hn hb h1
  go_enter Tryz.func108,Tryz.ntmps108
  go_wp2_with (go_at_call 162;refine HN.mono ?_;rintro e w1 ⟨rfl,hA⟩)
  go_ret
  exact ⟨rfl,hA⟩
end Go.Proofs.YtpdlohfdjiaegaaGreatDoor.Lw
