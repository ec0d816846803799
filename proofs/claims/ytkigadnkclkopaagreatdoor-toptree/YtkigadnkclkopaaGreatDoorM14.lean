import Derived.Test.YtkigadnkclkopaaGreatDoorM13
set_option linter.unusedVariables false
set_option linter.unusedSimpArgs false
namespace Go.Proofs.YtkigadnkclkopaaGreatDoor.Lx
open Go.RowKit
set_option maxRecDepth 100000 in
set_option maxHeartbeats 1000000 in
theorem lstep_in {S:Nat→Prop}{w0 W:World}{g:Nat}{s o:ByteArray}{T0:List Tk}{p k b f:Nat}{new:List Tk}(h:SPr S w0 W g s o T0 p k b f new) (hk:5≤k)
  (hI:Calls Tryz.prog 56 #[.pointer (some ⟨g,0,none⟩),.int .i32 (xp s p),.string (s.extract p (xq s p))] W fun e w'=>SPo S w0 g s o T0 p e w') :
  Calls Tryz.prog 27 #[.pointer (some ⟨g,0,none⟩),.int .i32 (xp s p),.string (s.extract p (xq s p))] W fun e w'=>SPo S w0 g s o T0 p e w':=by
 obtain ⟨c5,z5,hgl⟩:=h.cell
 have HI:Hid (Calls Tryz.prog 56 #[.pointer (some ⟨g,0,none⟩),.int .i32 (xp s p),.string (s.extract p (xq s p))] W fun e w'=>SPo S w0 g s o T0 p e w'):=hI
 have q0:((k:Int) == 0)=false:=by simp;omega
 have q1:((k:Int) == 1)=false:=by simp;omega
 have q2:((k:Int) == 2)=false:=by simp;omega
 have q3:((k:Int) == 3)=false:=by simp;omega
 have q4:((k:Int) == 4)=false:=by simp;omega
 clear h hI hk
 go_enter Tryz.func27,Tryz.ntmps27
 go_wp2_with fail
 go_step3
 go_wp2_with (first|(go_at_call 56;refine HI.out.mono ?_;intro e w9 hz;obtain ⟨E,k',b',f',p',new',rfl,hz'⟩:=hz;have HF:Hid (SPo S w0 g s o T0 p (.returned (.int .i64 E)) w9):=⟨E,k',b',f',p',new',rfl,hz'⟩;clear hz'))
 go_ret
 exact HF.out
theorem lstep_any {S:Nat→Prop}{w0 W:World}{g:Nat}{s o:ByteArray}{T0:List Tk}{p k b f:Nat}{new:List Tk}(h:SPr S w0 W g s o T0 p k b f new) (hs:s.size≤1000000000) (hK:∀V,Kp S w0 V→Kab V) :
  Calls Tryz.prog 27 #[.pointer (some ⟨g,0,none⟩),.int .i32 (xp s p),.string (s.extract p (xq s p))] W fun e w'=>SPo S w0 g s o T0 p e w':=by
 have hk:k=0∨k=1∨k=2∨k=3∨k=4∨k=5∨k=6∨k=7∨k=8:=by
  cases h.ms <;> simp
 have hc:s.size≤p∨(p<s.size∧by8 s p=10)∨(p<s.size∧by8 s p≠10∧tkBl (by8 s p)=true)∨(p<s.size∧by8 s p≠10∧tkBl (by8 s p)=false∧bgK s p=0)∨(p<s.size∧by8 s p≠10∧tkBl (by8 s p)=false∧bgK s p≠0):=by
  by_cases hp:p<s.size
  ·by_cases h10:by8 s p=10
   ·exact .inr (.inl ⟨hp,h10⟩)
   ·cases hb:tkBl (by8 s p) with
    |true=>exact .inr (.inr (.inl ⟨hp,h10,rfl⟩))
    |false=>
     by_cases h0:bgK s p=0
     ·exact .inr (.inr (.inr (.inl ⟨hp,h10,rfl,h0⟩)))
     ·exact .inr (.inr (.inr (.inr ⟨hp,h10,rfl,h0⟩)))
  ·exact .inl (by omega)
 rcases hk with rfl|rfl|rfl|rfl|rfl|rfl|rfl|rfl|rfl
 ·rcases hc with hp|⟨hp,h10⟩|⟨hp,h10,hb⟩|⟨hp,h10,hb,h0⟩|⟨hp,h10,hb,h0⟩
  ·exact lstep0_end h hs hK hp
  ·exact lstep0_lf h hs hK hp h10
  ·exact lstep0_bl h hs hK hp h10 hb
  ·exact lstep0_no h hs hK hp h10 hb h0
  ·exact lstep0_be h hs hK hp h10 hb _ rfl h0
 ·by_cases hon:p<s.size∧(gd s p && pr' (dp s p))=true
  ·exact lstep1_on h hs hK hon.1 hon.2
  ·have hoff:p<s.size→(gd s p && pr' (dp s p))=false:=fun hp=>by
    cases e:(gd s p && pr' (dp s p)) with
    |false=>rfl
    |true=>exact absurd ⟨hp,e⟩ hon
   rcases hc with hp|⟨hp,h10⟩|⟨hp,h10,hb⟩|⟨hp,h10,hb,h0⟩|⟨hp,h10,hb,h0⟩
   ·exact lstep1_end h hs hK hp hoff
   ·exact lstep1_lf h hs hK hp h10 hoff
   ·exact lstep1_bl h hs hK hp h10 hb hoff
   ·exact lstep1_no h hs hK hp h10 hb h0 hoff
   ·exact lstep1_be h hs hK hp h10 hb _ rfl h0 hoff
 ·by_cases hon:p<s.size∧tkDg (by8 s p)=true
  ·exact lstep2_on h hs hK hon.1 hon.2
  ·have hoff:p<s.size→tkDg (by8 s p)=false:=fun hp=>by
    cases e:tkDg (by8 s p) with
    |false=>rfl
    |true=>exact absurd ⟨hp,e⟩ hon
   rcases hc with hp|⟨hp,h10⟩|⟨hp,h10,hb⟩|⟨hp,h10,hb,h0⟩|⟨hp,h10,hb,h0⟩
   ·exact lstep2_end h hs hK hp hoff
   ·exact lstep2_lf h hs hK hp h10 hoff
   ·exact lstep2_bl h hs hK hp h10 hb hoff
   ·exact lstep2_no h hs hK hp h10 hb h0 hoff
   ·exact lstep2_be h hs hK hp h10 hb _ rfl h0 hoff
 ·by_cases hl:p<s.size∧s.extract b (p+dw s p)=twoSl
  ·exact lstep3_line h hs hK hl.1 hl.2
  ·have hl':p<s.size→s.extract b (p+dw s p)≠twoSl:=fun hp e=>hl ⟨hp,e⟩
   by_cases hon:p<s.size∧p-b<(sg (s.extract b (p+dw s p)) 0).size
   ·exact lstep3_on h hs hK hon.1 (hl' hon.1) hon.2
   ·have hoff:p<s.size→¬p-b<(sg (s.extract b (p+dw s p)) 0).size:=fun hp e=>hon ⟨hp,e⟩
    rcases hc with hp|⟨hp,h10⟩|⟨hp,h10,hb⟩|⟨hp,h10,hb,h0⟩|⟨hp,h10,hb,h0⟩
    ·exact lstep3_end h hs hK hp hl' hoff
    ·exact lstep3_lf h hs hK hp h10 hl' hoff
    ·exact lstep3_bl h hs hK hp h10 hb hl' hoff
    ·exact lstep3_no h hs hK hp h10 hb h0 hl' hoff
    ·exact lstep3_be h hs hK hp h10 hb _ rfl h0 hl' hoff
 ·by_cases hp:p<s.size
  ·by_cases h10:by8 s p=10
   ·exact lstep4_lf h hs hK hp h10
   ·exact lstep4_on h hs hK hp h10
  ·exact lstep4_end h hs hK (by omega)
 ·exact lstep_in h (by decide) (linside_block h hs)
 ·exact lstep_in h (by decide) (linside_text h hs)
 ·exact lstep_in h (by decide) (linside_char h hs)
 ·exact lstep_in h (by decide) (linside_quote h hs)
def Flt (S:Nat→Prop) (w0 w':World) (g:Nat) (s o:ByteArray) (T0:List Tk) (fin:Prop) (E:Nat):Prop:=
 ∃(k b f p':Nat) (new:List Tk) (A:Nat),Lq S w0 w' g k b (pL s b) (pC s b) f (s.extract b p') o (new.map (tv s))∧bd s b∧bd s p'∧b≤p'∧scn s=(T0++new,E,A)∧(fin→¬Early s E A)∧A=if E=102 then p' else b
def RPo (S:Nat→Prop) (w0:World) (g:Nat) (s o:ByteArray) (T0:List Tk) (e:Ending) (w':World):Prop:=
 ∃E:Nat,e=.returned (.int .i64 E)∧((E=0∧∃k b f new,SPr S w0 w' g s o T0 s.size k b f new)∨(E≠0∧Flt S w0 w' g s o T0 True E))
set_option maxRecDepth 100000 in
set_option maxHeartbeats 1000000 in
theorem lread_any {S:Nat→Prop}{w0 W:World}{g:Nat}{s o c:ByteArray}{T0:List Tk}{p0 k b f:Nat}{new:List Tk}(h:SPr S w0 W g s o T0 p0 k b f new) (hs:s.size≤1000000000) (hK:∀V,Kp S w0 V→Kab V) (hc:s.extract p0 s.size=c) :
  Calls Tryz.prog 25 #[.pointer (some ⟨g,0,none⟩),.string c] W fun e w'=>RPo S w0 g s o T0 e w':=by
 have hp0:p0≤s.size:=bd_le h.pd
 have hz:c.size=s.size-p0:=by rw [←hc];exact size_ext s p0 s.size (Nat.le_refl _)
 have HSt:Hid (∀V i,∀{k b f:Nat} {new:List Tk},SPr S w0 V g s o T0 (p0+i) k b f new→i<c.size→Calls Tryz.prog 27 #[.pointer (some ⟨g,0,none⟩),.int .i32 (dp c i),.string (c.extract i (i+dw c i))] V fun e w'=>SPo S w0 g s o T0 (p0+i) e w'):=fun V i k b f new hV hi=>by
  have h1:=lstep_any hV hs hK
  have hp:p0+i<s.size:=by omega
  have hd:=(dw_facts s (p0+i) hp).2.2
  have e1:dp c i=dp s (p0+i):=by unfold dp;rw [←hc,decode_tail s p0 i hp0]
  have e2:dw c i=dw s (p0+i):=by unfold dw;rw [←hc,decode_tail s p0 i hp0]
  rw [xp_in hp,xq_in hp] at h1
  rw [e1,e2,←hc,ext_ext s p0 s.size i (i+dw s (p0+i)) (Nat.le_refl _) (by omega) (by omega),show p0+(i+dw s (p0+i))=p0+i+dw s (p0+i) by omega]
  exact h1
 have HNx:Hid (∀V i,i<c.size→Calls Tryz.prog 42 #[.string c,.int .i64 i] V fun e w'=>e=.returned (.tuple #[.int .i64 (dp c i),.int .i64 (dw c i),.bool (gd c i)])∧Below V.heap.size V w'):=fun V i hi=>by
  have:=next_in c i V (by unfold maxLen;omega) (by omega) (by omega)
  rw [Int.toNat_natCast] at this
  exact this
 have HDw:Hid (∀i,i<c.size→1≤dw c i∧i+dw c i≤c.size∧dw c i=dw s (p0+i)∧dp c i≤1114111):=fun i hi=>by
  have:=dw_facts c i hi
  exact ⟨this.1,this.2.2,by unfold dw;rw [←hc,decode_tail s p0 i hp0],dp_le c i⟩
 have H0:Hid (SPr S w0 W g s o T0 p0 k b f new):=h
 have hcz:c.size≤1000000000:=by omega
 have HZ:Hid (c.size=s.size-p0):=hz
 clear h hc hz
 go_enter Tryz.func25,Tryz.ntmps25
 go_wp2_with fail
 go_loopw [5] (fun i wr=>∃j:Nat,i=.int .i64 j∧j≤c.size∧Hid (∃k b f new,SPr S w0 wr g s o T0 (p0+j) k b f new)) (fun i _=>c.size-(intOf i).toNat)
 case atStart=>exact ⟨0,rfl,Nat.zero_le _,_,_,_,_,H0.out⟩
 case round=>
  obtain ⟨j,rfl,hj,HI⟩:=hrel
  obtain ⟨w5,e5⟩:∃w5,w5=wr:=⟨wr,rfl⟩
  subst e5
  by_cases hlt:j<c.size
  ·have r1:(j:Int)<c.size:=by omega
   obtain ⟨d1,d2,d3,d4⟩:=HDw.out j hlt
   have HN:Hid (∀V,Calls Tryz.prog 42 #[.string c,.int .i64 j] V fun e w'=>e=.returned (.tuple #[.int .i64 (dp c j),.int .i64 (dw c j),.bool (gd c j)])∧Below V.heap.size V w'):=fun V=>HNx.out V j hlt
   have HS:Hid (∀V,Below w5.heap.size w5 V→Calls Tryz.prog 27 #[.pointer (some ⟨g,0,none⟩),.int .i32 (dp c j),.string (c.extract j (j+dw c j))] V fun e w'=>SPo S w0 g s o T0 (p0+j) e w'):=fun V hV=>by
    obtain ⟨k,b,f,new,hI⟩:=HI.out
    exact HSt.out V j (hI.below hV) hlt
   have w32:IntKind.i32.wrap (dp c j:Int)=dp c j:=by rw [IntKind.wrap_i32];omega
   have wad:IntKind.i64.wrap ((j:Int)+(dw c j:Int))=((j+dw c j:Nat):Int):=by rw [IntKind.wrap_i64];omega
   have b1:(j:Int)≤((j+dw c j:Nat):Int):=by omega
   have b2:((j+dw c j:Nat):Int)≤c.size:=by omega
   have HD3:Hid (dw c j=dw s (p0+j)):=d3
   clear HNx HSt HDw HI H0 d3
   generalize dp c j=x at *
   generalize dw c j=y at *
   generalize gd c j=z at *
   go_wp2_with (first|(go_at_call 42;refine (HN.out _).mono ?_;rintro e w6 ⟨rfl,hb6⟩))
   refine (HS.out _ hb6).mono ?_
   intro e w9 hz
   obtain ⟨E,k',b',f',p',new',rfl,z1,z2,z3,z4,z5⟩:=hz
   rcases z5 with ⟨rfl,y1,y2,y3,y4⟩|⟨rfl,y1,y2⟩|⟨y1,A,y2,y3,y4⟩
   ·have HN2:Hid (∃k b f new,SPr S w0 w9 g s o T0 (p0+(j+y)) k b f new):=⟨k',b',f',new',by
     rw [y2,←HD3.out,show p0+j+y=p0+(j+y) by omega] at z1 z3 y4
     exact ⟨z1,y3,y4,z3⟩⟩
    clear z1 z2 z3 z4 y1 y2 y3 y4 HS HN HD3
    go_wp2_with fail
    exact ⟨⟨j+y,by go_num,by omega,HN2⟩,by simp [intOf];omega⟩
   ·have:=HZ.out
    omega
   ·have qE:((E:Int) != 0)=true:=by rw [bne_iff_ne];omega
    have HF:Hid (RPo S w0 g s o T0 (.returned (.int .i64 E)) w9):=⟨E,rfl,.inr ⟨y1,k',b',f',p',new',A,z1,z2,z3,z4,y2,fun _=>y3 (by have:=HZ.out;omega),y4⟩⟩
    clear z1 z2 z3 z4 y1 y2 y3 y4 HS HN HD3
    go_wp2_with fail
    go_ret
    exact HF.out
  ·obtain rfl:j=c.size:=by omega
   have r1:¬(c.size:Int)<c.size:=by omega
   have HF:Hid (RPo S w0 g s o T0 (.returned (.int .i64 0)) w5):=by
    obtain ⟨k,b,f,new,hI⟩:=HI.out
    rw [show p0+c.size=s.size by have:=HZ.out;omega] at hI
    exact ⟨0,rfl,.inl ⟨rfl,k,b,f,new,hI⟩⟩
   clear HI H0
   go_wp2_with fail
   go_ret
   exact HF.out
theorem lrefuse_any {W:World}{g:Nat}{cl:Bool}{e x y z:Int}{k:Nat}{b L C f:Int}{vt vo vs:Value}(h:LxB W g cl e x y z k b L C f vt vo vs) :
  Calls Tryz.prog 22 #[.pointer (some ⟨g,0,none⟩)] W fun e' w'=>e'=.returned (if cl=true then .agg #[.int .i64 4,.int .i64 0,.int .i64 0,.int .i64 0] else .agg #[.int .i64 e,.int .i64 x,.int .i64 y,.int .i64 z])∧Below W.heap.size W w':=by
 obtain ⟨c0,c1,c2,c3,c4,c5,c6,c7,c8,c9,c10,c11,c12⟩:=h.cells
 have hlt:=blk_lt h
 clear h
 cases cl
 ·go_enter Tryz.func22,Tryz.ntmps22
  go_wp2_with fail
  have hn:(W.alloc (.cells #[.int .i64 e,.int .i64 x,.int .i64 y,.int .i64 z] 64)).heap[W.heap.size]?=some (.cells #[.int .i64 e,.int .i64 x,.int .i64 y,.int .i64 z] 64 (0,0)):=World.alloc_heap_new W _
  have m0:(W.alloc (.cells #[.int .i64 e,.int .i64 x,.int .i64 y,.int .i64 z] 64)).cell? ⟨W.heap.size,0,none⟩=some (.int .i64 e):=blk_cell hn rfl
  have m1:(W.alloc (.cells #[.int .i64 e,.int .i64 x,.int .i64 y,.int .i64 z] 64)).cell? ⟨W.heap.size,1,none⟩=some (.int .i64 x):=blk_cell hn rfl
  have m2:(W.alloc (.cells #[.int .i64 e,.int .i64 x,.int .i64 y,.int .i64 z] 64)).cell? ⟨W.heap.size,2,none⟩=some (.int .i64 y):=blk_cell hn rfl
  have m3:(W.alloc (.cells #[.int .i64 e,.int .i64 x,.int .i64 y,.int .i64 z] 64)).cell? ⟨W.heap.size,3,none⟩=some (.int .i64 z):=blk_cell hn rfl
  refine bodyPost_ret (v:=.agg #[.int .i64 e,.int .i64 x,.int .i64 y,.int .i64 z]) (by simp [results,Tryz.f22,go_sem,m0,m1,m2,m3]) rfl ?_
  exact ⟨rfl,(Below.refl _ _).alloc (Nat.le_refl _) _⟩
 ·go_enter Tryz.func22,Tryz.ntmps22
  go_wp2_with fail
  have hn:(W.alloc (.cells #[.int .i64 4,.int .i64 0,.int .i64 0,.int .i64 0] 64)).heap[W.heap.size]?=some (.cells #[.int .i64 4,.int .i64 0,.int .i64 0,.int .i64 0] 64 (0,0)):=World.alloc_heap_new W _
  have m0:(W.alloc (.cells #[.int .i64 4,.int .i64 0,.int .i64 0,.int .i64 0] 64)).cell? ⟨W.heap.size,0,none⟩=some (.int .i64 4):=blk_cell hn rfl
  have m1:(W.alloc (.cells #[.int .i64 4,.int .i64 0,.int .i64 0,.int .i64 0] 64)).cell? ⟨W.heap.size,1,none⟩=some (.int .i64 0):=blk_cell hn rfl
  have m2:(W.alloc (.cells #[.int .i64 4,.int .i64 0,.int .i64 0,.int .i64 0] 64)).cell? ⟨W.heap.size,2,none⟩=some (.int .i64 0):=blk_cell hn rfl
  have m3:(W.alloc (.cells #[.int .i64 4,.int .i64 0,.int .i64 0,.int .i64 0] 64)).cell? ⟨W.heap.size,3,none⟩=some (.int .i64 0):=blk_cell hn rfl
  refine bodyPost_ret (v:=.agg #[.int .i64 4,.int .i64 0,.int .i64 0,.int .i64 0]) (by simp [results,Tryz.f22,go_sem,m0,m1,m2,m3]) rfl ?_
  exact ⟨rfl,(Below.refl _ _).alloc (Nat.le_refl _) _⟩
theorem lx_all {W:World}{g:Nat}{cl:Bool}{e x y z:Int}{k:Nat}{b L C f:Int}{vt vo vs:Value}(h:LxB W g cl e x y z k b L C f vt vo vs) (a0 a1 a2 a3 a4 a5 a6 a7 a8 a9 a10 a11 a12:Value) :
  (((((((((((((W.setCell ⟨g,0,none⟩ a0).setCell ⟨g,1,none⟩ a1).setCell ⟨g,2,none⟩ a2).setCell ⟨g,3,none⟩ a3).setCell ⟨g,4,none⟩ a4).setCell ⟨g,5,none⟩ a5).setCell ⟨g,6,none⟩ a6).setCell ⟨g,7,none⟩ a7).setCell ⟨g,8,none⟩ a8).setCell ⟨g,9,none⟩ a9).setCell ⟨g,10,none⟩ a10).setCell ⟨g,11,none⟩ a11).setCell ⟨g,12,none⟩ a12).heap[g]?=some (.cells #[a0,a1,a2,a3,a4,a5,a6,a7,a8,a9,a10,a11,a12] 68 (0,0))∧Kp (fun k=>k=g) W (((((((((((((W.setCell ⟨g,0,none⟩ a0).setCell ⟨g,1,none⟩ a1).setCell ⟨g,2,none⟩ a2).setCell ⟨g,3,none⟩ a3).setCell ⟨g,4,none⟩ a4).setCell ⟨g,5,none⟩ a5).setCell ⟨g,6,none⟩ a6).setCell ⟨g,7,none⟩ a7).setCell ⟨g,8,none⟩ a8).setCell ⟨g,9,none⟩ a9).setCell ⟨g,10,none⟩ a10).setCell ⟨g,11,none⟩ a11).setCell ⟨g,12,none⟩ a12):=by
 have x1:(W.setCell ⟨g,0,none⟩ a0).heap[g]?=some (.cells #[a0,.int .i64 e,.int .i64 x,.int .i64 y,.int .i64 z,.int .i64 k,.int .i64 b,.int .i64 L,.int .i64 C,.int .i64 f,vt,vo,vs] 68 (0,0)):=blk_set h 0 a0
 have x2:((W.setCell ⟨g,0,none⟩ a0).setCell ⟨g,1,none⟩ a1).heap[g]?=some (.cells #[a0,a1,.int .i64 x,.int .i64 y,.int .i64 z,.int .i64 k,.int .i64 b,.int .i64 L,.int .i64 C,.int .i64 f,vt,vo,vs] 68 (0,0)):=blk_set x1 1 a1
 have x3:(((W.setCell ⟨g,0,none⟩ a0).setCell ⟨g,1,none⟩ a1).setCell ⟨g,2,none⟩ a2).heap[g]?=some (.cells #[a0,a1,a2,.int .i64 y,.int .i64 z,.int .i64 k,.int .i64 b,.int .i64 L,.int .i64 C,.int .i64 f,vt,vo,vs] 68 (0,0)):=blk_set x2 2 a2
 have x4:((((W.setCell ⟨g,0,none⟩ a0).setCell ⟨g,1,none⟩ a1).setCell ⟨g,2,none⟩ a2).setCell ⟨g,3,none⟩ a3).heap[g]?=some (.cells #[a0,a1,a2,a3,.int .i64 z,.int .i64 k,.int .i64 b,.int .i64 L,.int .i64 C,.int .i64 f,vt,vo,vs] 68 (0,0)):=blk_set x3 3 a3
 have x5:(((((W.setCell ⟨g,0,none⟩ a0).setCell ⟨g,1,none⟩ a1).setCell ⟨g,2,none⟩ a2).setCell ⟨g,3,none⟩ a3).setCell ⟨g,4,none⟩ a4).heap[g]?=some (.cells #[a0,a1,a2,a3,a4,.int .i64 k,.int .i64 b,.int .i64 L,.int .i64 C,.int .i64 f,vt,vo,vs] 68 (0,0)):=blk_set x4 4 a4
 have x6:((((((W.setCell ⟨g,0,none⟩ a0).setCell ⟨g,1,none⟩ a1).setCell ⟨g,2,none⟩ a2).setCell ⟨g,3,none⟩ a3).setCell ⟨g,4,none⟩ a4).setCell ⟨g,5,none⟩ a5).heap[g]?=some (.cells #[a0,a1,a2,a3,a4,a5,.int .i64 b,.int .i64 L,.int .i64 C,.int .i64 f,vt,vo,vs] 68 (0,0)):=blk_set x5 5 a5
 have x7:(((((((W.setCell ⟨g,0,none⟩ a0).setCell ⟨g,1,none⟩ a1).setCell ⟨g,2,none⟩ a2).setCell ⟨g,3,none⟩ a3).setCell ⟨g,4,none⟩ a4).setCell ⟨g,5,none⟩ a5).setCell ⟨g,6,none⟩ a6).heap[g]?=some (.cells #[a0,a1,a2,a3,a4,a5,a6,.int .i64 L,.int .i64 C,.int .i64 f,vt,vo,vs] 68 (0,0)):=blk_set x6 6 a6
 have x8:((((((((W.setCell ⟨g,0,none⟩ a0).setCell ⟨g,1,none⟩ a1).setCell ⟨g,2,none⟩ a2).setCell ⟨g,3,none⟩ a3).setCell ⟨g,4,none⟩ a4).setCell ⟨g,5,none⟩ a5).setCell ⟨g,6,none⟩ a6).setCell ⟨g,7,none⟩ a7).heap[g]?=some (.cells #[a0,a1,a2,a3,a4,a5,a6,a7,.int .i64 C,.int .i64 f,vt,vo,vs] 68 (0,0)):=blk_set x7 7 a7
 have x9:(((((((((W.setCell ⟨g,0,none⟩ a0).setCell ⟨g,1,none⟩ a1).setCell ⟨g,2,none⟩ a2).setCell ⟨g,3,none⟩ a3).setCell ⟨g,4,none⟩ a4).setCell ⟨g,5,none⟩ a5).setCell ⟨g,6,none⟩ a6).setCell ⟨g,7,none⟩ a7).setCell ⟨g,8,none⟩ a8).heap[g]?=some (.cells #[a0,a1,a2,a3,a4,a5,a6,a7,a8,.int .i64 f,vt,vo,vs] 68 (0,0)):=blk_set x8 8 a8
 have x10:((((((((((W.setCell ⟨g,0,none⟩ a0).setCell ⟨g,1,none⟩ a1).setCell ⟨g,2,none⟩ a2).setCell ⟨g,3,none⟩ a3).setCell ⟨g,4,none⟩ a4).setCell ⟨g,5,none⟩ a5).setCell ⟨g,6,none⟩ a6).setCell ⟨g,7,none⟩ a7).setCell ⟨g,8,none⟩ a8).setCell ⟨g,9,none⟩ a9).heap[g]?=some (.cells #[a0,a1,a2,a3,a4,a5,a6,a7,a8,a9,vt,vo,vs] 68 (0,0)):=blk_set x9 9 a9
 have x11:(((((((((((W.setCell ⟨g,0,none⟩ a0).setCell ⟨g,1,none⟩ a1).setCell ⟨g,2,none⟩ a2).setCell ⟨g,3,none⟩ a3).setCell ⟨g,4,none⟩ a4).setCell ⟨g,5,none⟩ a5).setCell ⟨g,6,none⟩ a6).setCell ⟨g,7,none⟩ a7).setCell ⟨g,8,none⟩ a8).setCell ⟨g,9,none⟩ a9).setCell ⟨g,10,none⟩ a10).heap[g]?=some (.cells #[a0,a1,a2,a3,a4,a5,a6,a7,a8,a9,a10,vo,vs] 68 (0,0)):=blk_set x10 10 a10
 have x12:((((((((((((W.setCell ⟨g,0,none⟩ a0).setCell ⟨g,1,none⟩ a1).setCell ⟨g,2,none⟩ a2).setCell ⟨g,3,none⟩ a3).setCell ⟨g,4,none⟩ a4).setCell ⟨g,5,none⟩ a5).setCell ⟨g,6,none⟩ a6).setCell ⟨g,7,none⟩ a7).setCell ⟨g,8,none⟩ a8).setCell ⟨g,9,none⟩ a9).setCell ⟨g,10,none⟩ a10).setCell ⟨g,11,none⟩ a11).heap[g]?=some (.cells #[a0,a1,a2,a3,a4,a5,a6,a7,a8,a9,a10,a11,vs] 68 (0,0)):=blk_set x11 11 a11
 have x13:(((((((((((((W.setCell ⟨g,0,none⟩ a0).setCell ⟨g,1,none⟩ a1).setCell ⟨g,2,none⟩ a2).setCell ⟨g,3,none⟩ a3).setCell ⟨g,4,none⟩ a4).setCell ⟨g,5,none⟩ a5).setCell ⟨g,6,none⟩ a6).setCell ⟨g,7,none⟩ a7).setCell ⟨g,8,none⟩ a8).setCell ⟨g,9,none⟩ a9).setCell ⟨g,10,none⟩ a10).setCell ⟨g,11,none⟩ a11).setCell ⟨g,12,none⟩ a12).heap[g]?=some (.cells #[a0,a1,a2,a3,a4,a5,a6,a7,a8,a9,a10,a11,a12] 68 (0,0)):=blk_set x12 12 a12
 have k1:Kp (fun k=>k=g) W (W.setCell ⟨g,0,none⟩ a0):=Kp.set W g 0 a0
 have k2:Kp (fun k=>k=g) W ((W.setCell ⟨g,0,none⟩ a0).setCell ⟨g,1,none⟩ a1):=k1.trans (Kp.set _ g 1 a1)
 have k3:Kp (fun k=>k=g) W (((W.setCell ⟨g,0,none⟩ a0).setCell ⟨g,1,none⟩ a1).setCell ⟨g,2,none⟩ a2):=k2.trans (Kp.set _ g 2 a2)
 have k4:Kp (fun k=>k=g) W ((((W.setCell ⟨g,0,none⟩ a0).setCell ⟨g,1,none⟩ a1).setCell ⟨g,2,none⟩ a2).setCell ⟨g,3,none⟩ a3):=k3.trans (Kp.set _ g 3 a3)
 have k5:Kp (fun k=>k=g) W (((((W.setCell ⟨g,0,none⟩ a0).setCell ⟨g,1,none⟩ a1).setCell ⟨g,2,none⟩ a2).setCell ⟨g,3,none⟩ a3).setCell ⟨g,4,none⟩ a4):=k4.trans (Kp.set _ g 4 a4)
 have k6:Kp (fun k=>k=g) W ((((((W.setCell ⟨g,0,none⟩ a0).setCell ⟨g,1,none⟩ a1).setCell ⟨g,2,none⟩ a2).setCell ⟨g,3,none⟩ a3).setCell ⟨g,4,none⟩ a4).setCell ⟨g,5,none⟩ a5):=k5.trans (Kp.set _ g 5 a5)
 have k7:Kp (fun k=>k=g) W (((((((W.setCell ⟨g,0,none⟩ a0).setCell ⟨g,1,none⟩ a1).setCell ⟨g,2,none⟩ a2).setCell ⟨g,3,none⟩ a3).setCell ⟨g,4,none⟩ a4).setCell ⟨g,5,none⟩ a5).setCell ⟨g,6,none⟩ a6):=k6.trans (Kp.set _ g 6 a6)
 have k8:Kp (fun k=>k=g) W ((((((((W.setCell ⟨g,0,none⟩ a0).setCell ⟨g,1,none⟩ a1).setCell ⟨g,2,none⟩ a2).setCell ⟨g,3,none⟩ a3).setCell ⟨g,4,none⟩ a4).setCell ⟨g,5,none⟩ a5).setCell ⟨g,6,none⟩ a6).setCell ⟨g,7,none⟩ a7):=k7.trans (Kp.set _ g 7 a7)
 have k9:Kp (fun k=>k=g) W (((((((((W.setCell ⟨g,0,none⟩ a0).setCell ⟨g,1,none⟩ a1).setCell ⟨g,2,none⟩ a2).setCell ⟨g,3,none⟩ a3).setCell ⟨g,4,none⟩ a4).setCell ⟨g,5,none⟩ a5).setCell ⟨g,6,none⟩ a6).setCell ⟨g,7,none⟩ a7).setCell ⟨g,8,none⟩ a8):=k8.trans (Kp.set _ g 8 a8)
 have k10:Kp (fun k=>k=g) W ((((((((((W.setCell ⟨g,0,none⟩ a0).setCell ⟨g,1,none⟩ a1).setCell ⟨g,2,none⟩ a2).setCell ⟨g,3,none⟩ a3).setCell ⟨g,4,none⟩ a4).setCell ⟨g,5,none⟩ a5).setCell ⟨g,6,none⟩ a6).setCell ⟨g,7,none⟩ a7).setCell ⟨g,8,none⟩ a8).setCell ⟨g,9,none⟩ a9):=k9.trans (Kp.set _ g 9 a9)
 have k11:Kp (fun k=>k=g) W (((((((((((W.setCell ⟨g,0,none⟩ a0).setCell ⟨g,1,none⟩ a1).setCell ⟨g,2,none⟩ a2).setCell ⟨g,3,none⟩ a3).setCell ⟨g,4,none⟩ a4).setCell ⟨g,5,none⟩ a5).setCell ⟨g,6,none⟩ a6).setCell ⟨g,7,none⟩ a7).setCell ⟨g,8,none⟩ a8).setCell ⟨g,9,none⟩ a9).setCell ⟨g,10,none⟩ a10):=k10.trans (Kp.set _ g 10 a10)
 have k12:Kp (fun k=>k=g) W ((((((((((((W.setCell ⟨g,0,none⟩ a0).setCell ⟨g,1,none⟩ a1).setCell ⟨g,2,none⟩ a2).setCell ⟨g,3,none⟩ a3).setCell ⟨g,4,none⟩ a4).setCell ⟨g,5,none⟩ a5).setCell ⟨g,6,none⟩ a6).setCell ⟨g,7,none⟩ a7).setCell ⟨g,8,none⟩ a8).setCell ⟨g,9,none⟩ a9).setCell ⟨g,10,none⟩ a10).setCell ⟨g,11,none⟩ a11):=k11.trans (Kp.set _ g 11 a11)
 have k13:Kp (fun k=>k=g) W (((((((((((((W.setCell ⟨g,0,none⟩ a0).setCell ⟨g,1,none⟩ a1).setCell ⟨g,2,none⟩ a2).setCell ⟨g,3,none⟩ a3).setCell ⟨g,4,none⟩ a4).setCell ⟨g,5,none⟩ a5).setCell ⟨g,6,none⟩ a6).setCell ⟨g,7,none⟩ a7).setCell ⟨g,8,none⟩ a8).setCell ⟨g,9,none⟩ a9).setCell ⟨g,10,none⟩ a10).setCell ⟨g,11,none⟩ a11).setCell ⟨g,12,none⟩ a12):=k12.trans (Kp.set _ g 12 a12)
 exact ⟨x13,k13⟩
set_option maxRecDepth 100000 in
set_option maxHeartbeats 2000000 in
theorem lans_ok {S:Nat→Prop}{w0 W:World}{g k b:Nat}{L C:Int}{f:Nat}{t o:ByteArray}{l:List Tv}(h:Lq S w0 W g k b L C f t o l) :
  Calls Tryz.prog 24 #[.pointer (some ⟨g,0,none⟩),.int .i64 0] W fun e' w'=>∃v,e'=.returned (.tuple #[v,.int .i64 0,.agg #[.int .i64 0,.int .i64 0,.int .i64 0]])∧Rt w0.heap.size w' v l∧∃vt vo,LxB w' g false 0 0 0 0 k b L C f vt vo (.slice none 0 0)∧Lz S w0 w' g vt vo (.slice none 0 0) t o []:=by
 obtain ⟨vt,vo,vs,h1,h2⟩:=h
 obtain ⟨c0,c1,c2,c3,c4,c5,c6,c7,c8,c9,c10,c11,c12⟩:=h1.cells
 have hlt:=blk_lt h1
 have z12:=h1.frozen 12
 obtain ⟨sp,sc,e2,_⟩:=h2.rs.shape
 have hsz:(W.setCell ⟨g,12,none⟩ (.slice none 0 0)).heap.size=W.heap.size:=World.size_setCell _ _ _
 obtain ⟨W1,hW1⟩:∃W1,W.setCell ⟨g,12,none⟩ (.slice none 0 0)=W1:=⟨_,rfl⟩
 have HW:Hid (W.setCell ⟨g,12,none⟩ (.slice none 0 0)=W1):=hW1
 have y3:Lz S w0 W1 g vt vo vs t o l:=by rw [←hW1];exact h2.set h1 12 _
 have y1:LxB W1 g false 0 0 0 0 k b L C f vt vo (.slice none 0 0):=by rw [←hW1];exact blk_set h1 12 _
 have hn:=World.alloc_heap_new W1 (.cells #[.int .i64 0,.int .i64 0,.int .i64 0] 27)
 rw [hW1] at hsz
 rw [hsz] at hn
 have hB0:Below W1.heap.size W1 (W1.alloc (.cells #[.int .i64 0,.int .i64 0,.int .i64 0] 27)).drew:=((Below.refl _ _).alloc (Nat.le_refl _) _).drew
 have HF:Hid (Rt w0.heap.size (W1.alloc (.cells #[.int .i64 0,.int .i64 0,.int .i64 0] 27)).drew vs l∧∃vt vo,LxB (W1.alloc (.cells #[.int .i64 0,.int .i64 0,.int .i64 0] 27)).drew g false 0 0 0 0 k b L C f vt vo (.slice none 0 0)∧Lz S w0 (W1.alloc (.cells #[.int .i64 0,.int .i64 0,.int .i64 0] 27)).drew g vt vo (.slice none 0 0) t o []):=by
  have y4:=y3.below hB0
  exact ⟨y4.rs,vt,vo,blk_below y1 hB0,y4.kp,y4.sg,y4.nw,y4.rt,y4.ro,y4.ap,rt_nil _ _⟩
 have m0:(W1.alloc (.cells #[.int .i64 0,.int .i64 0,.int .i64 0] 27)).drew.cell? ⟨W.heap.size,0,none⟩=some (.int .i64 0):=blk_cell (W:=(W1.alloc (.cells #[.int .i64 0,.int .i64 0,.int .i64 0] 27)).drew) hn rfl
 have m1:(W1.alloc (.cells #[.int .i64 0,.int .i64 0,.int .i64 0] 27)).drew.cell? ⟨W.heap.size,1,none⟩=some (.int .i64 0):=blk_cell (W:=(W1.alloc (.cells #[.int .i64 0,.int .i64 0,.int .i64 0] 27)).drew) hn rfl
 have m2:(W1.alloc (.cells #[.int .i64 0,.int .i64 0,.int .i64 0] 27)).drew.cell? ⟨W.heap.size,2,none⟩=some (.int .i64 0):=blk_cell (W:=(W1.alloc (.cells #[.int .i64 0,.int .i64 0,.int .i64 0] 27)).drew) hn rfl
 subst e2
 clear h1 h2 y1 y3 hW1 hn hB0
 go_enter Tryz.func24,Tryz.ntmps24
 go_wp2_with fail
 go_region_law (fail)
 all_goals (
  go_wp2_with fail
  rw [HW.out]
  refine bodyPost_ret (v:=.tuple #[.slice sp l.length sc,.int .i64 0,.agg #[.int .i64 0,.int .i64 0,.int .i64 0]]) (by simp [results,Tryz.f24,go_sem,m0,m1,m2]) rfl ?_
  exact ⟨_,rfl,HF.out⟩)
def LxE (W:World) (g:Nat) (E:Nat) (A:Nat) (L C:Int):Prop:=LxB W g false E A L C 0 0 0 0 0 (.slice none 0 0) (.slice none 0 0) (.slice none 0 0)
set_option maxRecDepth 100000 in
set_option maxHeartbeats 4000000 in
theorem lans_bad {S:Nat→Prop}{w0 W:World}{g k b:Nat}{f:Nat}{s o:ByteArray}{l:List Tv}{p:Nat}(h:Lq S w0 W g k b (pL s b) (pC s b) f (s.extract b p) o l) (hs:s.size≤2147483647) (hbp:b≤p) (hb:bd s b) (hp:bd s p) (E A:Nat) (hE:E≠0) (hA:A=if E=102 then p else b) :
  Calls Tryz.prog 24 #[.pointer (some ⟨g,0,none⟩),.int .i64 E] W fun e' w'=>∃v,e'=.returned (.tuple #[v,.int .i64 E,.agg #[.int .i64 A,.int .i64 (pL s A),.int .i64 (pC s A)]])∧Rt w0.heap.size w' v l∧LxE w' g E A (pL s A) (pC s A)∧Kp S w0 w':=by
 obtain ⟨vt,vo,vs,h1,h2⟩:=h
 obtain ⟨sp,sc,e2,_⟩:=h2.rs.shape
 have hlt:=blk_lt h1
 have hne:g≠W.heap.size:=by omega
 have z12:=h1.frozen 12
 have qE:((E:Int) != 0)=true:=by rw [bne_iff_ne];omega
 have hsz:(W.setCell ⟨g,12,none⟩ (.slice none 0 0)).heap.size=W.heap.size:=World.size_setCell _ _ _
 have c12:W.cell? ⟨g,12,none⟩=some vs:=blk_cell h1 rfl
 obtain ⟨XL,hXL⟩:∃x,pL s A=x:=⟨_,rfl⟩
 obtain ⟨XC,hXC⟩:∃x,pC s A=x:=⟨_,rfl⟩
 have HFa:Hid (Calls Tryz.prog 55 #[.pointer (some ⟨g,0,none⟩),.int .i64 E] ((W.setCell ⟨g,12,none⟩ (.slice none 0 0)).alloc (.cells #[.int .i64 0,.int .i64 0,.int .i64 0] 27)) fun e w'=>e=.returned (.agg #[.int .i64 A,.int .i64 XL,.int .i64 XC])∧Below ((W.setCell ⟨g,12,none⟩ (.slice none 0 0)).alloc (.cells #[.int .i64 0,.int .i64 0,.int .i64 0] 27)).heap.size ((W.setCell ⟨g,12,none⟩ (.slice none 0 0)).alloc (.cells #[.int .i64 0,.int .i64 0,.int .i64 0] 27)) w'):=by
  have y3:=(h2.set h1 12 (.slice none 0 0)).below ((Below.refl _ _).alloc (Nat.le_refl _) (.cells #[.int .i64 0,.int .i64 0,.int .i64 0] 27))
  have y1:LxB ((W.setCell ⟨g,12,none⟩ (.slice none 0 0)).alloc (.cells #[.int .i64 0,.int .i64 0,.int .i64 0] 27)) g false 0 0 0 0 k b (pL s b) (pC s b) f vt vo (.slice none 0 0):=blk_below (blk_set h1 12 (.slice none 0 0)) ((Below.refl _ _).alloc (Nat.le_refl _) _)
  have:=lfault_any (S:=S) (w0:=w0) (l:=[]) ⟨vt,vo,(.slice none 0 0),y1,y3.kp,y3.sg,y3.nw,y3.rt,y3.ro,y3.ap,rt_nil _ _⟩ hs hbp hb hp E A hA
  rw [hXL,hXC] at this
  exact this
 have HK:Hid (∀V,Below ((W.setCell ⟨g,12,none⟩ (.slice none 0 0)).alloc (.cells #[.int .i64 0,.int .i64 0,.int .i64 0] 27)).heap.size ((W.setCell ⟨g,12,none⟩ (.slice none 0 0)).alloc (.cells #[.int .i64 0,.int .i64 0,.int .i64 0] 27)) V→LxB V g false 0 0 0 0 k b (pL s b) (pC s b) f vt vo (.slice none 0 0)∧Lz S w0 V g vt vo vs (s.extract b p) o l∧Box3 V W.heap.size 0 0 0):=fun V hV=>by
  have hba:Below (W.setCell ⟨g,12,none⟩ (.slice none 0 0)).heap.size (W.setCell ⟨g,12,none⟩ (.slice none 0 0)) V:=((Below.refl _ _).alloc (Nat.le_refl _) (.cells #[.int .i64 0,.int .i64 0,.int .i64 0] 27)).trans (hV.mono (by rw [World.size_alloc];omega))
  refine ⟨blk_below (blk_set h1 12 (.slice none 0 0)) hba,(h2.set h1 12 (.slice none 0 0)).below hba,?_⟩
  have hn:=World.alloc_heap_new (W.setCell ⟨g,12,none⟩ (.slice none 0 0)) (.cells #[.int .i64 0,.int .i64 0,.int .i64 0] 27)
  rw [hsz] at hn
  exact blk_below hn hV
 have HSZ:Hid (w0.heap.size≤W.heap.size):=h2.kp.size
 rw [hXL,hXC]
 clear hXL hXC
 subst e2
 clear h1 h2 hE hA hb hp
 go_enter Tryz.func24,Tryz.ntmps24
 go_wp2_with (first|(go_at_call 55;refine HFa.out.mono ?_;rintro e w2 ⟨rfl,hb2⟩;obtain ⟨u1,u2,u3⟩:=HK.out _ hb2;obtain ⟨c0,c1,c2,c3,c4,c5,c6,c7,c8,c9,c10,c11,c12⟩:=u1.cells;have z0:=u1.frozen 0;have z1:=u1.frozen 1;have z2:=u1.frozen 2;have z3:=u1.frozen 3;have z4:=u1.frozen 4;have z5:=u1.frozen 5;have z6:=u1.frozen 6;have z7:=u1.frozen 7;have z8:=u1.frozen 8;have z9:=u1.frozen 9;have z10:=u1.frozen 10;have z11:=u1.frozen 11;have z12:=u1.frozen 12;have hl2:=blk_lt u1;obtain ⟨t1,t2⟩:=lx_all u1 (.bool false) (.int .i64 E) (.int .i64 A) (.int .i64 XL) (.int .i64 XC) (.int .i64 0) (.int .i64 0) (.int .i64 0) (.int .i64 0) (.int .i64 0) (.slice none 0 0) (.slice none 0 0) (.slice none 0 0);have t3:=t2.blk u3 (fun e=>hne e.symm)))
 obtain ⟨W3,hW3⟩:∃W3,(((((((((((((w2.setCell ⟨g,0,none⟩ (.bool false)).setCell ⟨g,1,none⟩ (.int .i64 E)).setCell ⟨g,2,none⟩ (.int .i64 A)).setCell ⟨g,3,none⟩ (.int .i64 XL)).setCell ⟨g,4,none⟩ (.int .i64 XC)).setCell ⟨g,5,none⟩ (.int .i64 0)).setCell ⟨g,6,none⟩ (.int .i64 0)).setCell ⟨g,7,none⟩ (.int .i64 0)).setCell ⟨g,8,none⟩ (.int .i64 0)).setCell ⟨g,9,none⟩ (.int .i64 0)).setCell ⟨g,10,none⟩ (.slice none 0 0)).setCell ⟨g,11,none⟩ (.slice none 0 0)).setCell ⟨g,12,none⟩ (.slice none 0 0))=W3:=⟨_,rfl⟩
 rw [hW3] at t1 t2 t3 ⊢
 clear hW3 c0 c1 c2 c3 c4 c5 c6 c7 c8 c9 c10 c11 c12 z0 z1 z2 z3 z4 z5 z6 z7 z8 z9 z10 z11 z12
 have e1:LxE W3 g E A XL XC:=t1
 have t4:Box3 W3 W.heap.size 0 0 0:=t3
 obtain ⟨c0,c1,c2,c3,c4,c5,c6,c7,c8,c9,c10,c11,c12⟩:=LxB.cells e1
 have b0:=t4.cell0
 have b1:=t4.cell1
 have b2:=t4.cell2
 have k0:=t4.frozen 0
 have k1:=t4.frozen 1
 have k2:=t4.frozen 2
 have hl3:=t4.lt
 have hl4:=blk_lt e1
 have t5:=((t4.set0 A).set1 XL).set2 XC
 have hk5:Kp (fun k=>k=W.heap.size) W3 (((W3.setCell ⟨W.heap.size,0,none⟩ (.int .i64 A)).setCell ⟨W.heap.size,1,none⟩ (.int .i64 XL)).setCell ⟨W.heap.size,2,none⟩ (.int .i64 XC)):=((Kp.set _ _ _ _).trans (Kp.set _ _ _ _)).trans (Kp.set _ _ _ _)
 have HF:Hid (Rt w0.heap.size (((W3.setCell ⟨W.heap.size,0,none⟩ (.int .i64 A)).setCell ⟨W.heap.size,1,none⟩ (.int .i64 XL)).setCell ⟨W.heap.size,2,none⟩ (.int .i64 XC)).drew (.slice sp l.length sc) l∧LxE (((W3.setCell ⟨W.heap.size,0,none⟩ (.int .i64 A)).setCell ⟨W.heap.size,1,none⟩ (.int .i64 XL)).setCell ⟨W.heap.size,2,none⟩ (.int .i64 XC)).drew g E A XL XC∧Kp S w0 (((W3.setCell ⟨W.heap.size,0,none⟩ (.int .i64 A)).setCell ⟨W.heap.size,1,none⟩ (.int .i64 XL)).setCell ⟨W.heap.size,2,none⟩ (.int .i64 XC)).drew):=by
  have r3:Rt w0.heap.size W3 (.slice sp l.length sc) l:=u2.rs.kp t2 (u2.rs.ne u1 (by decide))
  have r5:=r3.kp hk5 (r3.ne t4 (by decide))
  have l5:=hk5.blk e1 hne
  have k5:=(u2.kp.step t2 (fun j _ e=>by rw [e];exact u2.sg)).step hk5 (fun j hj e=>by have:=HSZ.out;omega)
  exact ⟨r5.below (Below.refl _ _).drew,blk_below l5 (Below.refl _ _).drew,k5.then (Below.refl _ _).drew⟩
 have m0:((((W3.setCell ⟨W.heap.size,0,none⟩ (.int .i64 A)).setCell ⟨W.heap.size,1,none⟩ (.int .i64 XL)).setCell ⟨W.heap.size,2,none⟩ (.int .i64 XC)).drew).cell? ⟨W.heap.size,0,none⟩=some (.int .i64 A):=t5.drew.cell0
 have m1:((((W3.setCell ⟨W.heap.size,0,none⟩ (.int .i64 A)).setCell ⟨W.heap.size,1,none⟩ (.int .i64 XL)).setCell ⟨W.heap.size,2,none⟩ (.int .i64 XC)).drew).cell? ⟨W.heap.size,1,none⟩=some (.int .i64 XL):=t5.drew.cell1
 have m2:((((W3.setCell ⟨W.heap.size,0,none⟩ (.int .i64 A)).setCell ⟨W.heap.size,1,none⟩ (.int .i64 XL)).setCell ⟨W.heap.size,2,none⟩ (.int .i64 XC)).drew).cell? ⟨W.heap.size,2,none⟩=some (.int .i64 XC):=t5.drew.cell2
 clear t1 t2 t3 t4 t5 hk5 e1 u1 u2 u3 HK hb2
 go_wp2_with fail
 go_region_law (fail)
 all_goals (
  go_wp2_with fail
  refine bodyPost_ret (v:=.tuple #[.slice sp l.length sc,.int .i64 E,.agg #[.int .i64 A,.int .i64 XL,.int .i64 XC]]) (by simp [results,Tryz.f24,go_sem,m0,m1,m2]) rfl ?_
  exact ⟨_,rfl,HF.out⟩)
set_option maxHeartbeats 400000 in
theorem goes_core (s t q:ByteArray) (g:Bool) (d p:Nat) (w:World) (hs:s.size≤2147483647) (hadd:¬(9223372036854775807<s.size+t.size)) (hq:s++t=q)
  (hn:∀w,Calls Tryz.prog 42 #[.string q,.int .i64 0] w fun e w'=>e=.returned (.tuple #[.int .i64 p,.int .i64 d,.bool g])∧Below w.heap.size w w') :
  Calls Tryz.prog 96 #[.string s,.string t] w fun e w'=>e=.returned (.bool (g && decide (s.size<d)))∧Below w.heap.size w w':=by
 have HN:Hid _:=hn
 clear hn
 go_enter Tryz.func96,Tryz.ntmps96
 go_wp2_with fail
 refine (HN.out _).mono ?_
 rintro e w1 ⟨rfl,hb1⟩
 clear HN
 cases g with
 |true=>
  go_wp2_with fail
  go_ret
  exact ⟨by show Ending.returned (.bool _)=_;simp,hb1⟩
 |false=>
  go_wp2_with fail
  go_ret
  exact ⟨rfl,hb1⟩
theorem goes_any (s t:ByteArray) (w:World) (hs:s.size≤2147483647) (ht:t.size=3) :
  Calls Tryz.prog 96 #[.string s,.string t] w fun e w'=>e=.returned (.bool (goB s t))∧Below w.heap.size w w':=by
 have hz:(s++t).size=s.size+t.size:=by simp [ByteArray.size_append]
 exact goes_core s t (s++t) (gd (s++t) 0) (dw (s++t) 0) (dp (s++t) 0) w hs (by omega) rfl (fun w=>next_in (s++t) 0 w (by unfold maxLen;omega) (by omega) (by omega))
set_option maxHeartbeats 400000 in
theorem open_core (s:ByteArray) (g1 g2:Bool) (w:World)
  (h1:∀w,Calls Tryz.prog 96 #[.string s,.string ⟨#[128,128,128]⟩] w fun e w'=>e=.returned (.bool g1)∧Below w.heap.size w w')
  (h2:∀w,Calls Tryz.prog 96 #[.string s,.string ⟨#[191,191,191]⟩] w fun e w'=>e=.returned (.bool g2)∧Below w.heap.size w w') :
  Calls Tryz.prog 54 #[.string s] w fun e w'=>e=.returned (.bool (g1 || g2))∧Below w.heap.size w w':=by
 have H1:Hid _:=h1
 have H2:Hid _:=h2
 clear h1 h2
 go_enter Tryz.func54,Tryz.ntmps54
 go_wp2_with fail
 refine (H1.out _).mono ?_
 rintro e w1 ⟨rfl,hb1⟩
 cases g1 with
 |true=>
  go_wp2_with fail
  go_ret
  exact ⟨rfl,hb1⟩
 |false=>
  go_wp2_with fail
  refine (H2.out _).mono ?_
  rintro e w2 ⟨rfl,hb2⟩
  go_wp2_with fail
  go_ret
  exact ⟨rfl,hb1.trans (hb2.mono hb1.size)⟩
theorem open_any (s:ByteArray) (w:World) (hs:s.size≤2147483647) :
  Calls Tryz.prog 54 #[.string s] w fun e w'=>e=.returned (.bool (opn s))∧Below w.heap.size w w':=
 open_core s _ _ w (fun w=>goes_any s _ w hs rfl) (fun w=>goes_any s _ w hs rfl)
set_option maxHeartbeats 400000 in
theorem whole_any (s:ByteArray) (w:World) (hs:s.size≤2147483647) :
  Calls Tryz.prog 23 #[.string s] w fun e w'=>e=.returned (.int .i64 (wh s))∧Below w.heap.size w w':=by
 go_enter Tryz.func23,Tryz.ntmps23
 go_wp2_with fail
 go_loopw [3] (fun i wr=>∃n:Nat,1≤n∧n≤4∧i=.int .i64 n∧whF s (4-n) n=wh s∧Below w.heap.size w wr) (fun i _=>4-(intOf i).toNat)
 case atStart=>exact ⟨1,by omega,by omega,rfl,rfl,Below.refl _ _⟩
 case round=>
  obtain ⟨n,hn1,hn4,rfl,hr,hbel⟩:=hrel
  by_cases h3:n≤3
  ·by_cases hsz:n≤s.size
   ·obtain ⟨f,hf⟩:∃f,4-n=f+1:=⟨3-n,by omega⟩
    rw [hf] at hr
    unfold whF at hr
    rw [if_pos hsz] at hr
    have hf2:f=4-(n+1):=by omega
    subst hf2
    have hc:Hid _:=open_any (s.extract (s.size-n) s.size)
    have hzz:(s.extract (s.size-n) s.size).size≤2147483647:=by rw [size_ext s _ _ (Nat.le_refl _)];omega
    have HR:Hid (_=wh s):=hr
    clear hr hf
    go_wp2_with fail
    refine (hc.out _ hzz).mono ?_
    rintro e w1 ⟨rfl,hb1⟩
    clear hc hzz
    generalize opn (s.extract (s.size-n) s.size)=g at *
    have hb2:=hbel.trans (hb1.mono hbel.size)
    clear hb1 hbel
    cases g with
    |true=>
     go_wp2_with fail
     go_ret
     exact ⟨ret_int (by have h:=HR.out;simp at h;omega),hb2⟩
    |false=>
     go_wp2_with fail
     go_roundw
     case rel=>exact ⟨n+1,by omega,by omega,by go_num,by have h:=HR.out;simpa using h,hb2⟩
     case measure=>simp [intOf];omega
   ·have HR:Hid (s.size=wh s):=by
     show _=_
     rw [←hr]
     obtain ⟨f,hf⟩:∃f,4-n=f+1:=⟨3-n,by omega⟩
     rw [hf]
     unfold whF
     rw [if_neg hsz]
    clear hr
    go_wp2_with fail
    go_ret
    exact ⟨ret_int (by rw [HR.out]),hbel⟩
  ·have HR:Hid (s.size=wh s):=by
    show _=_
    rw [←hr,show 4-n=0 by omega]
    rfl
   clear hr
   go_wp2_with fail
   go_ret
   exact ⟨ret_int (by rw [HR.out]),hbel⟩
end Go.Proofs.YtkigadnkclkopaaGreatDoor.Lx
