import Derived.Deep.CutRange
import Derived.Deep.QuietTactic
import Derived.Shelf.Abstract
import Derived.Test.YtkigadnkclkopaaGreatDoorM27
set_option linter.unusedVariables false
set_option linter.unusedSimpArgs false
namespace Go.Proofs.YtkigadnkclkopaaGreatDoor
open Go.RowKit
theorem SV.step {X:Sx}{i n:Nat}{E:List Ev}{W:World}(h:SV X i n E W) (j:Nat):W.cell? ⟨X.g,1,none⟩=some (.int .i64 (i:Int))∧W.frozen? ⟨X.g,1,none⟩=false∧X.g<W.heap.size∧SV X j n E (W.setCell ⟨X.g,1,none⟩ (.int .i64 (j:Int))):=by
 obtain ⟨ve,a,b,c⟩:=h.ex
 refine ⟨a.cells.2.1,a.frozen 1,a.lt,kp_low h.bel (Kp.set _ _ _ _) (fun k e=>by rw [e];exact h.g0) h.bel.size,h.lt,h.g0,h.hl,ve,blk_set a 1 _,b.kp (Kp.set _ _ _ _) (b.ne a (by decide)),c⟩
theorem SV.deep {X:Sx}{i n:Nat}{E:List Ev}{W:World}(h:SV X i n E W) (m:Nat):W.cell? ⟨X.g,2,none⟩=some (.int .i64 (n:Int))∧W.frozen? ⟨X.g,2,none⟩=false∧X.g<W.heap.size∧SV X i m E (W.setCell ⟨X.g,2,none⟩ (.int .i64 (m:Int))):=by
 obtain ⟨ve,a,b,c⟩:=h.ex
 refine ⟨a.cells.2.2.1,a.frozen 2,a.lt,kp_low h.bel (Kp.set _ _ _ _) (fun k e=>by rw [e];exact h.g0) h.bel.size,h.lt,h.g0,h.hl,ve,blk_set a 2 _,b.kp (Kp.set _ _ _ _) (b.ne a (by decide)),c⟩
structure CoI (X:Sx) (i n:Nat) (E:List Ev) (k b:Nat) (W:World):Prop where
 sv:SV X (i+k) n (E++((lead (X.l.drop i)).take k).map ntE) W
 tk:W.heap[b]?=some (TokB (nx X (i+k)))
 le:k≤(lead (X.l.drop i)).length
theorem lead_le (r:List Tv):(lead r).length≤r.length:=by
 have:=congrArg List.length (app_bhd r)
 rw [List.length_append] at this
 omega
theorem CoI.on {X:Sx}{i n:Nat}{E:List Ev}{k b:Nat}{W:World}(h:CoI X i n E k b W):(k<(lead (X.l.drop i)).length→∃c,(lead (X.l.drop i))[k]?=some c∧nx X (i+k)=c∧cmm c=true)∧(k=(lead (X.l.drop i)).length→cmm (nx X (i+k))=false):=by
 obtain ⟨a1,a2⟩:=lead_at (X.l.drop i) k
 constructor
 ·intro hk
  obtain ⟨c,hc⟩:∃c,(lead (X.l.drop i))[k]?=some c:=⟨_,List.getElem?_eq_getElem hk⟩
  obtain ⟨b1,b2⟩:=a1 c hc
  rw [List.getElem?_drop] at b1
  exact ⟨c,hc,by simp [nx,b1],b2⟩
 ·intro hk
  unfold nx
  cases hc:X.l[i+k]? with
  |none=>rfl
  |some c=>exact a2 hk c (by rw [List.getElem?_drop];exact hc)
theorem take_map {l:List Tv}{k:Nat}{c:Tv}(h:l[k]?=some c):(l.take (k+1)).map ntE=(l.take k).map ntE++[ntE c]:=by
 rw [List.take_add_one,h]
 simp
def atC (g:Nat) (w:World):Nat:=match w.cell? ⟨g,1,none⟩ with|some (.int _ z)=>z.toNat|_=>0
theorem atC_is {g:Nat}{w:World}{z:Int}(h:w.cell? ⟨g,1,none⟩=some (.int .i64 z)):atC g w=z.toNat:=by unfold atC;rw [h]
theorem cmm_is (t:Tv):cmm t=(t.k == 7 || t.k == 8):=rfl
set_option maxHeartbeats 2000000 in
theorem comments_any {X:Sx}{i n:Nat}{E:List Ev}{W:World}(h:SV X i n E W) (hi:i≤X.l.length) (hl:E.length+X.l.length≤1000000000) :
  Calls Tryz.prog 76 #[pg X.g] W fun e w'=>e=.returned (.tuple #[])∧SV X (i+(lead (X.l.drop i)).length) n (E++(lead (X.l.drop i)).map ntE) w':=by
 have hll:i+(lead (X.l.drop i)).length≤X.l.length:=by
  have:=lead_le (X.l.drop i)
  rw [List.length_drop] at this
  omega
 have hxl:=h.hl
 have H1:Hid (Calls Tryz.prog 110 #[pg X.g] W fun e w'=>e=.returned (nx X i).v∧Below W.heap.size W w'):=snext_any h hi
 have H0:Hid (∀w1,Below W.heap.size W w1→CoI X i n E 0 w1.heap.size (w1.alloc (TokB (nx X i)))):=fun w1 hb=>⟨by simpa using (h.below hb).below ((Below.refl _ _).alloc (Nat.le_refl _) _),new_at _ _,Nat.zero_le _⟩
 clear h
 obtain ⟨m,hm⟩:∃m,(lead (X.l.drop i)).length=m:=⟨_,rfl⟩
 obtain ⟨t0,ht0⟩:∃t,nx X i=t:=⟨_,rfl⟩
 rw [ht0] at H1 H0
 dsimp only [Tv.v] at H1
 go_enter Tryz.func76,Tryz.ntmps76
 go_wp2_with (go_at_call 110;refine H1.out.mono ?_;rintro e w1 ⟨rfl,hb1⟩;have HC:=show Hid _ from H0.out _ hb1;clear hb1)
 go_loopw [2] (fun p wr=>∃k b,p=.pointer (some ⟨b,0,none⟩)∧Hid (CoI X i n E k b wr)) (fun p wr=>m+1-(atC X.g wr-i))
 case atStart=>exact ⟨0,_,rfl,HC.out⟩
 case round=>
  obtain ⟨k,b,rfl,HI⟩:=hrel
  obtain ⟨c0,c1,c2,c3,c4,c5⟩:=tk_cells HI.out.tk
  have hbl:=blk_lt HI.out.tk
  obtain ⟨o1,o2⟩:=HI.out.on
  have hle:=HI.out.le
  obtain ⟨ve,hsb,_,_⟩:=HI.out.sv.ex
  have g1:=hsb.cells.2.1
  clear hsb
  by_cases hk:k<(lead (X.l.drop i)).length
  ·obtain ⟨c,e1,e2,e3⟩:=o1 hk
   rw [e2] at c0 c1 c2 c3 c4 c5
   have HT:Hid (Calls Tryz.prog 75 #[pg X.g,(⟨4,0,c⟩:Ev).v] wr fun r w'=>r=.returned (.tuple #[])∧SV X (i+k) n ((E++((lead (X.l.drop i)).take k).map ntE)++[⟨4,0,c⟩]) w'∧Frm X wr w'):=stell_any HI.out.sv _ (by simp;omega)
   have HN:Hid (∀w2,SV X (i+k) n ((E++((lead (X.l.drop i)).take k).map ntE)++[⟨4,0,c⟩]) w2→Frm X wr w2→(w2.cell? ⟨X.g,1,none⟩=some (.int .i64 ((i:Int)+k))∧w2.frozen? ⟨X.g,1,none⟩=false∧X.g<w2.heap.size)∧∃w3,w2.setCell ⟨X.g,1,none⟩ (.int .i64 ((i:Int)+k+1))=w3∧(w3.cell? ⟨b,0,none⟩=some (.int .u8 c.k)∧w3.cell? ⟨b,1,none⟩=some (.string c.t)∧w3.cell? ⟨b,2,none⟩=some (.int .i64 c.a)∧w3.cell? ⟨b,3,none⟩=some (.int .i64 c.l)∧w3.cell? ⟨b,4,none⟩=some (.int .i64 c.c)∧w3.cell? ⟨b,5,none⟩=some (.int .i64 c.f)∧b<w3.heap.size)∧Hid (SV X (i+(k+1)) n (E++((lead (X.l.drop i)).take (k+1)).map ntE) w3)):=fun w2 h2 f2=>by
    have hbg:b≠X.g:=fun e=>by
     have h1:=HI.out.tk
     obtain ⟨ve,hsb,_,_⟩:=HI.out.sv.ex
     rw [e,hsb] at h1
     cases h1
    have h3:=f2 b _ _ _ HI.out.tk (by decide) hbg
    rw [e2] at h3
    have h4:=(Kp.set w2 X.g 1 (.int .i64 ((i:Int)+k+1))).blk h3 hbg
    obtain ⟨y0,y1,y2,y3,y4,y5⟩:=tk_cells h4
    obtain ⟨z0,z1,z2,z3⟩:=h2.step (i+(k+1))
    refine ⟨⟨by rw [z0];simp,z1,z2⟩,_,rfl,⟨y0,y1,y2,y3,y4,y5,blk_lt h4⟩,?_⟩
    have e5:((i:Int)+k+1)=((i+(k+1):Nat):Int):=by omega
    rw [e5,take_map e1,←List.append_assoc]
    exact z3
   have HF:Hid (∀w3 w5,SV X (i+(k+1)) n (E++((lead (X.l.drop i)).take (k+1)).map ntE) w3→Below (w3.alloc (TokB c)).heap.size (w3.alloc (TokB c)) w5→(w5.cell? ⟨w3.heap.size,0,none⟩=some (.int .u8 c.k)∧w5.cell? ⟨w3.heap.size,1,none⟩=some (.string c.t)∧w5.cell? ⟨w3.heap.size,2,none⟩=some (.int .i64 c.a)∧w5.cell? ⟨w3.heap.size,3,none⟩=some (.int .i64 c.l)∧w5.cell? ⟨w3.heap.size,4,none⟩=some (.int .i64 c.c)∧w5.cell? ⟨w3.heap.size,5,none⟩=some (.int .i64 c.f)∧(∀j,w5.frozen? ⟨w3.heap.size,j,none⟩=false)∧w3.heap.size<w5.heap.size)∧CoI X i n E (k+1) w3.heap.size (sets6 w5 w3.heap.size (nx X (i+(k+1))))∧(sets6 w5 w3.heap.size (nx X (i+(k+1)))).cell? ⟨X.g,1,none⟩=some (.int .i64 ((i:Int)+k+1))):=fun w3 w5 s3 hb5=>by
    have h0:=blk_below (new_at w3 (TokB c)) hb5
    obtain ⟨y0,y1,y2,y3,y4,y5⟩:=tk_cells h0
    have b0:Below w3.heap.size w3 (w3.alloc (TokB c)):=(Below.refl _ _).alloc (Nat.le_refl _) _
    have b1:Below w3.heap.size w3 w5:=b0.trans (hb5.mono b0.size)
    have s5:=s3.below (sets6_below (nx X (i+(k+1))) b1 (Nat.le_refl _))
    refine ⟨⟨y0,y1,y2,y3,y4,y5,fun j=>blk_frozen h0,blk_lt h0⟩,⟨s5,sets6_at _ h0,hk⟩,?_⟩
    obtain ⟨ve,hsb,_,_⟩:=s5.ex
    rw [hsb.cells.2.1]
    simp
    omega
   have HX:Hid (∀V,SV X (i+(k+1)) n (E++((lead (X.l.drop i)).take (k+1)).map ntE) V→Calls Tryz.prog 110 #[pg X.g] (V.alloc (TokB c)) fun e w'=>e=.returned (nx X (i+(k+1))).v∧Below (V.alloc (TokB c)).heap.size (V.alloc (TokB c)) w'):=fun V hV=>snext_any (hV.below ((Below.refl _ _).alloc (Nat.le_refl _) _)) (by omega)
   obtain ⟨t2,ht2⟩:∃t,nx X (i+(k+1))=t:=⟨_,rfl⟩
   rw [ht2] at HF HX
   dsimp only [Tv.v] at HX
   clear o1 o2
   dsimp only [Ev.v] at HT
   cases h7:(c.k == 7) with
   |true=>
    go_wp2_with (go_at_call 75;refine HT.out.mono ?_;rintro r w2 ⟨rfl,h2,f2⟩;obtain ⟨⟨z0,z1,z2⟩,w3,e4,⟨y0,y1,y2,y3,y4,y5,yl⟩,s3⟩:=HN.out w2 h2 f2;clear h2 f2)
    refine (HX.out _ s3.out).mono ?_
    rintro e w5 ⟨rfl,hb5⟩
    obtain ⟨⟨x0,x1,x2,x3,x4,x5,xf,xl⟩,p1,p2⟩:=HF.out w3 w5 s3.out hb5
    have HP:=hid p1
    have HM:=hid p2
    have xf0:=xf 0
    have xf1:=xf 1
    have xf2:=xf 2
    have xf3:=xf 3
    have xf4:=xf 4
    have xf5:=xf 5
    clear p1 p2 xf hb5 z0 z1 z2 y0 y1 y2 y3 y4 y5 yl e4 c0 c1 c2 c3 c4 c5
    generalize w3.heap.size=q at *
    go_wp2_with fail
    obtain ⟨w6,e6⟩:∃w6,sets6 w5 q t2=w6:=⟨_,rfl⟩
    rw [e6] at HP HM
    unfold sets6 at e6
    rw [e6]
    refine ⟨⟨k+1,q,rfl,HP.out⟩,?_⟩
    rw [atC_is HM.out,atC_is g1]
    simp
    omega
   |false=>
    have h8:(c.k == 8)=true:=by rw [cmm_is,h7] at e3;simpa using e3
    go_wp2_with (go_at_call 75;refine HT.out.mono ?_;rintro r w2 ⟨rfl,h2,f2⟩;obtain ⟨⟨z0,z1,z2⟩,w3,e4,⟨y0,y1,y2,y3,y4,y5,yl⟩,s3⟩:=HN.out w2 h2 f2;clear h2 f2)
    refine (HX.out _ s3.out).mono ?_
    rintro e w5 ⟨rfl,hb5⟩
    obtain ⟨⟨x0,x1,x2,x3,x4,x5,xf,xl⟩,p1,p2⟩:=HF.out w3 w5 s3.out hb5
    have HP:=hid p1
    have HM:=hid p2
    have xf0:=xf 0
    have xf1:=xf 1
    have xf2:=xf 2
    have xf3:=xf 3
    have xf4:=xf 4
    have xf5:=xf 5
    clear p1 p2 xf hb5 z0 z1 z2 y0 y1 y2 y3 y4 y5 yl e4 c0 c1 c2 c3 c4 c5
    generalize w3.heap.size=q at *
    go_wp2_with fail
    obtain ⟨w6,e6⟩:∃w6,sets6 w5 q t2=w6:=⟨_,rfl⟩
    rw [e6] at HP HM
    unfold sets6 at e6
    rw [e6]
    refine ⟨⟨k+1,q,rfl,HP.out⟩,?_⟩
    rw [atC_is HM.out,atC_is g1]
    simp
    omega
  ·have hke:k=(lead (X.l.drop i)).length:=by omega
   have hc:=o2 hke
   obtain ⟨c,hcn⟩:∃c,nx X (i+k)=c:=⟨_,rfl⟩
   rw [hcn] at c0 c1 c2 c3 c4 c5 hc
   have HZ:Hid (SV X (i+(lead (X.l.drop i)).length) n (E++(lead (X.l.drop i)).map ntE) wr):=by
    have:=HI.out.sv
    rw [hke,List.take_length] at this
    exact this
   rw [cmm_is] at hc
   have h7:(c.k == 7)=false:=by cases h:(c.k == 7) <;> simp_all
   have h8:(c.k == 8)=false:=by cases h:(c.k == 8) <;> simp_all
   clear o1 o2 hc hke
   go_wp2_with fail
   go_end0
   exact ⟨rfl,HZ.out⟩
set_option maxHeartbeats 2000000 in
theorem stake_any {X:Sx}{i n:Nat}{E:List Ev}{W:World}(h:SV X i n E W) {t:Tv}(ht:X.l[i]?=some t) (hn:n≤1000) (hl:E.length+1+X.l.length≤1000000000) :
  Calls Tryz.prog 158 #[pg X.g] W fun e w'=>e=.returned (.tuple #[])∧SV X (i+1+(lead (X.l.drop (i+1))).length) n (E++⟨2,0,t⟩ :: (lead (X.l.drop (i+1))).map ntE) w':=by
 have hlt:i<X.l.length:=(List.getElem?_eq_some_iff.1 ht).1
 obtain ⟨ve,hs,hE,hv⟩:=h.ex
 obtain ⟨c0,c1,c2,c3⟩:=hs.cells
 have hgl:=hs.lt
 have hxl:=h.hl
 obtain ⟨b,off,e0,x0,x1,x2,x3,x4,x5,xl⟩:=h.tok ht
 rw [e0] at c0
 have q1:¬((n:Int)>1000):=by omega
 have q2:(0:Int)≤i:=by omega
 have q3:(i:Int)<X.l.length:=by omega
 have HT:Hid (∀V,Below W.heap.size W V→Calls Tryz.prog 75 #[pg X.g,(⟨2,0,t⟩:Ev).v] V fun r w'=>r=.returned (.tuple #[])∧SV X i n (E++[⟨2,0,t⟩]) w'∧Frm X V w'):=fun V hb=>stell_any (h.below hb) _ (by omega)
 have HN:Hid (∀w2,SV X i n (E++[⟨2,0,t⟩]) w2→(w2.cell? ⟨X.g,1,none⟩=some (.int .i64 (i:Int))∧w2.frozen? ⟨X.g,1,none⟩=false∧X.g<w2.heap.size)∧∃w3,w2.setCell ⟨X.g,1,none⟩ (.int .i64 ((i:Int)+1))=w3∧Hid (SV X (i+1) n (E++[⟨2,0,t⟩]) w3)):=fun w2 h2=>by
  obtain ⟨z0,z1,z2,z3⟩:=h2.step (i+1)
  exact ⟨⟨z0,z1,z2⟩,_,rfl,by show SV _ _ _ _ _;rw [show ((i:Int)+1)=((i+1:Nat):Int) by omega];exact z3⟩
 have HC:Hid (∀w3,SV X (i+1) n (E++[⟨2,0,t⟩]) w3→Calls Tryz.prog 76 #[pg X.g] w3 fun e w'=>e=.returned (.tuple #[])∧SV X (i+1+(lead (X.l.drop (i+1))).length) n (E++[⟨2,0,t⟩]++(lead (X.l.drop (i+1))).map ntE) w'):=fun w3 h3=>comments_any h3 hlt (by simp;omega)
 have HE:Hid (E++⟨2,0,t⟩ :: (lead (X.l.drop (i+1))).map ntE=E++[⟨2,0,t⟩]++(lead (X.l.drop (i+1))).map ntE):=by show _=_;simp
 have HB:Hid (∀m,Below W.heap.size W (W.drewN m)):=fun m=>below_dr (Below.refl _ _) m
 rw [HE.out]
 clear h hs hE hv ht hlt e0
 dsimp only [Ev.v] at HT
 generalize X.ao=ao at *
 go_enter Tryz.func158,Tryz.ntmps158
 go_wp2_with fail
 go_cut [25] from 13 to 25 (fun _ wx=>Hid (SV X i n (E++[⟨2,0,t⟩]) wx))
 case first=>
  go_region_with (go_at_call 75;refine (HT.out _ (HB.out _)).mono ?_;rintro r w2 ⟨rfl,h2,f2⟩;have H2:=hid h2;clear h2 f2)
  all_goals (
   go_wp2_with fail
   go_meet
   exact H2)
 case rest=>
  have H2:=hcut
  clear hcut c0 c1 c2 c3 x0 x1 x2 x3 x4 x5 HT
  obtain ⟨⟨z0,z1,z2⟩,w3,e3,H3⟩:=HN.out _ H2.out
  go_wp2_with (go_at_call 76;refine (HC.out _ H3.out).mono ?_;rintro r w4 ⟨rfl,h4⟩;have H4:=hid h4;clear h4)
  go_end0
  exact ⟨rfl,H4.out⟩
set_option maxHeartbeats 1000000 in
theorem sdeep_any {X:Sx}{i n:Nat}{E:List Ev}{W:World}(h:SV X i n E W) (hn:1000<n) :
  Calls Tryz.prog 158 #[pg X.g] W fun e w'=>e=.panicked (stop 122 i)∧Below W.heap.size W w':=by
 obtain ⟨ve,hs,hE,hv⟩:=h.ex
 obtain ⟨c0,c1,c2,c3⟩:=hs.cells
 have hgl:=hs.lt
 have q1:((n:Int)>1000):=by omega
 have HB:Hid (∀m,Below W.heap.size W (W.drewN m)):=fun m=>below_dr (Below.refl _ _) m
 clear h hs hE
 go_enter Tryz.func158,Tryz.ntmps158
 go_wp2_with fail
 exact ⟨rfl,rfl,HB.out 0⟩
def Ls (W:World) (ao:Option Addr) (l:List ByteArray):Prop:=∀j s,l[j]?=some s→∃b off,ao=some ⟨b,off,none⟩∧W.cell? ⟨b,off+j,none⟩=some (.string s)
theorem Ls.kp {S:Nat→Prop}{w w':World}{ao:Option Addr}{l:List ByteArray}(h:Ls w ao l) (hb:Kp S w w') (hS:∀a,ao=some a→¬S a.block):Ls w' ao l:=by
 intro j a ha
 obtain ⟨b,off,h1,c0⟩:=h j a ha
 have hlt:=World.block_lt_of_cell? _ _ c0
 have e:w'.heap[b]?=w.heap[b]?:=hb.block b hlt (hS _ h1)
 exact ⟨b,off,h1,(World.cell?_of_block (a:=⟨b,_,none⟩) e).trans c0⟩
theorem Ls.below {w w':World}{ao:Option Addr}{l:List ByteArray}(h:Ls w ao l) (hb:Below w.heap.size w w'):Ls w' ao l:=h.kp (Kp.of_below (S:=fun _=>False) hb) (fun _ _ h=>h)
theorem has_step (l:List ByteArray) (s x:ByteArray) (k:Nat) (hk:l[k]?=some x) (h:has (l.take k) s=false):has (l.take (k+1)) s=(s.toList == x.toList):=by
 rw [btl_eq]
 unfold has at h ⊢
 rw [List.take_add_one,hk,List.any_append,h]
 simp
theorem has_take (l:List ByteArray) (s:ByteArray) (k:Nat) (h:has (l.take k) s=true):has l s=true:=by
 unfold has at h ⊢
 simp only [List.any_eq_true] at h ⊢
 obtain ⟨x,hx,e⟩:=h
 exact ⟨x,List.mem_of_mem_take hx,e⟩
set_option maxHeartbeats 400000 in
theorem sIndex_any (ao:Option Addr) (l:List ByteArray) (cap:Nat) (s:ByteArray) (W:World) (h:Ls W ao l) (hl:l.length≤1000) :
  Calls Tryz.prog 148 #[.slice ao l.length cap,.string s] W fun r w'=>(∃z:Int,r=.returned (.int .i64 z)∧(decide (0≤z)=has l s))∧w'=W:=by
 have H:Hid (Ls W ao l):=h
 clear h
 go_enter Tryz.func148,Tryz.ntmps148
 go_wp2_with fail
 go_loopw [5,8] (fun _ i wr=>∃k:Nat,k≤l.length∧i=.int .i64 k∧Hid (has (l.take k) s=false)∧wr=W) (fun _ i _=>l.length-(intOf i).toNat)
 case atStart=>exact ⟨0,Nat.zero_le _,rfl,by show has _ _=_;simp [has],rfl⟩
 case round=>
  obtain ⟨k,hk,rfl,HI,rfl⟩:=hrel
  by_cases hlt:k<l.length
  ·have q1:(k:Int)<l.length:=by omega
   have q0:(0:Int)≤k:=by omega
   obtain ⟨x,hx⟩:∃x,l[k]?=some x:=⟨_,List.getElem?_eq_getElem hlt⟩
   obtain ⟨b,off,rfl,hc⟩:=H.out k x hx
   have HS:Hid (has (l.take (k+1)) s=(s.toList == x.toList)):=has_step l s x k hx HI.out
   have HT:Hid (has (l.take (k+1)) s=true→has l s=true):=has_take l s _
   clear hx
   by_cases he:(s.toList == x.toList)=true
   ·go_wp2_with fail
    go_ret
    exact ⟨⟨_,rfl,by rw [HT.out (HS.out.trans he)];simp⟩,rfl⟩
   ·have he':(s.toList == x.toList)=false:=by simpa using he
    clear he
    go_wp2_with fail
    exact ⟨⟨k+1,hlt,by go_num,HS.out.trans he',trivial⟩,by simp [intOf];omega⟩
  ·obtain rfl:k=l.length:=by omega
   have q1:¬((l.length:Int)<l.length):=by omega
   go_wp2_with fail
   go_ret
   refine ⟨⟨_,rfl,?_⟩,rfl⟩
   have:=HI.out
   rw [List.take_length] at this
   rw [this]
   rfl
theorem sContains_any (ao:Option Addr) (l:List ByteArray) (cap:Nat) (s:ByteArray) (W:World) (h:Ls W ao l) (hl:l.length≤1000) :
  Calls Tryz.prog 125 #[.slice ao l.length cap,.string s] W fun r w'=>r=.returned (.bool (has l s))∧w'=W:=by
 have H:Hid (Calls Tryz.prog 148 #[.slice ao l.length cap,.string s] W fun r w'=>(∃z:Int,r=.returned (.int .i64 z)∧(decide (0≤z)=has l s))∧w'=W):=sIndex_any ao l cap s W h hl
 clear h
 generalize has l s=b at *
 go_enter Tryz.func125,Tryz.ntmps125
 go_wp2_with (go_at_call 148;refine H.out.mono ?_;rintro r w1 ⟨⟨z,rfl,hz⟩,rfl⟩;subst hz)
 go_ret
 exact ⟨by simp,rfl⟩
def evX (X:Sx) (d:D):List Ev:=⟨1,1,tv0⟩ :: ((lead X.l).map ntE++d.v.tail)
structure SD (X:Sx) (r:Nat) (d:D) (W:World):Prop where
 sv:SV X (ps X.l d.i) d.p.length (evX X d) W
 e0:d.e=0
 il:d.i≤(tks X.l).length
 nn:d.N=fun j=>(nts X.l j).map ntE
 v0:d.v≠[]
 sm:d.s≤100*d.i+r
 el:(evX X d).length+d.p.length=2*d.s+ps X.l d.i
theorem SD.below {X:Sx}{r:Nat}{d:D}{W W':World}(h:SD X r d W) (hb:Below W.heap.size W W'):SD X r d W':=⟨h.sv.below hb,h.e0,h.il,h.nn,h.v0,h.sm,h.el⟩
theorem SD.up {X:Sx}{r r':Nat}{d:D}{W:World}(h:SD X r d W) (hr:r≤r'):SD X r' d W:=⟨h.sv,h.e0,h.il,h.nn,h.v0,Nat.le_trans h.sm (by omega),h.el⟩
theorem tks_le (l:List Tv):(tks l).length≤l.length:=List.length_filter_le _ _
theorem SD.len {X:Sx}{r:Nat}{d:D}{W:World}(h:SD X r d W) (hr:r≤1000):(evX X d).length+1+X.l.length≤1000000000:=by
 have h1:=h.el
 have h2:=h.sm
 have h3:=h.il
 have h4:=tks_le X.l
 have h5:=h.sv.hl
 have h6:=ps_le X.l d.i
 omega
theorem SD.hnxt {X:Sx}{r:Nat}{d:D}{W:World}(h:SD X r d W):nxt (tks X.l) d=(tks X.l)[d.i]?:=by unfold nxt;rw [if_pos h.e0]
theorem SD.hnx {X:Sx}{r:Nat}{d:D}{W:World}(h:SD X r d W):nx X (ps X.l d.i)=(nxt (tks X.l) d).getD tv0:=by rw [h.hnxt];unfold nx;rw [ps_at]
theorem SD.hqn {X:Sx}{r:Nat}{d:D}{W:World}(h:SD X r d W) {f:Tv→Bool}(hf:f tv0=false):qn (tks X.l) d f=f (nx X (ps X.l d.i)):=by
 rw [h.hnx]
 unfold qn
 cases nxt (tks X.l) d with
 |none=>exact hf.symm
 |some t=>rfl
theorem SD.hend {X:Sx}{r:Nat}{d:D}{W:World}(h:SD X r d W):(ps X.l d.i=X.l.length↔¬d.i<(tks X.l).length):=by
 have h1:=ps_le X.l d.i
 rw [←ps_lt]
 omega
def Out (X:Sx) (v:Value) (d:D) (e:Ending) (w:World):Prop:=(d.e=0∧e=.returned v∧SD X 0 d w)∨(d.e≠0∧e=.panicked (stop d.e (ps X.l d.i))∧Below X.w0.heap.size X.w0 w)
theorem tail_app {a b:List Ev}(h:a≠[]):(a++b).tail=a.tail++b:=by
 cases a with
 |nil=>exact absurd rfl h
 |cons x a=>rfl
theorem take_sd {X:Sx}{r:Nat}{d:D}{W:World}(h:SD X r d W) (hr:r≤100) {x:Fl}(hq:qn (tks X.l) d (fun t=>x.takes t)=true) :
  Calls Tryz.prog 158 #[pg X.g] W fun e w'=>Out X (.tuple #[]) (tkI (tks X.l) x d) e w':=by
 have e1:tkI (tks X.l) x d=tkD (tks X.l) true d:=by unfold tkI;rw [hq]
 rw [e1]
 obtain ⟨he,hi⟩:=qn_live hq
 obtain ⟨t,ht⟩:∃t,(tks X.l)[d.i]?=some t:=⟨_,List.getElem?_eq_getElem hi⟩
 have ht2:X.l[ps X.l d.i]?=some t:=by rw [ps_at];exact ht
 unfold tkD
 simp only [if_true]
 by_cases hd:1000<d.p.length
 ·rw [if_pos hd]
  refine (sdeep_any h.sv hd).mono ?_
  rintro e w' ⟨rfl,hb⟩
  exact .inr ⟨(by show (122:Int)≠0;decide),rfl,h.sv.bel.trans (hb.mono h.sv.bel.size)⟩
 ·rw [if_neg hd]
  have hl:=h.len (by omega)
  refine (stake_any h.sv ht2 (by omega) hl).mono ?_
  rintro e w' ⟨rfl,h1⟩
  obtain ⟨p1,p2⟩:=ps_succ X.l d.i hi
  refine .inl ⟨he,rfl,?_,he,hi,h.nn,by simp,?_,?_⟩
  ·rw [p1]
   show SV X _ _ (evX X { d with i:=d.i+1,l:=if d.i+1=(tks X.l).length then d.p else d.l,v:=d.v++⟨2,0,(tks X.l)[d.i]?.getD tv0⟩ :: d.N d.i }) w'
   have e2:evX X { d with i:=d.i+1,l:=if d.i+1=(tks X.l).length then d.p else d.l,v:=d.v++⟨2,0,(tks X.l)[d.i]?.getD tv0⟩ :: d.N d.i }=evX X d++⟨2,0,t⟩ :: (nts X.l d.i).map ntE:=by
    unfold evX
    rw [tail_app h.v0,ht,h.nn]
    simp
   rw [e2,p2]
   exact h1
  ·have:=h.sm
   show d.s≤100*(d.i+1)+0
   omega
  ·have h5:=h.el
   show (evX X _).length+d.p.length=2*d.s+ps X.l (d.i+1)
   rw [p1]
   unfold evX at h5 ⊢
   simp only [tail_app h.v0,h.nn,List.length_cons,List.length_append,List.length_map] at h5 ⊢
   omega
theorem refuse_sd {X:Sx}{r:Nat}{d:D}{W:World}(h:SD X r d W) (v:Value) :
  Calls Tryz.prog 81 #[pg X.g] W fun e w'=>Out X v (tkD (tks X.l) false d) e w'∧(tkD (tks X.l) false d).e≠0∧e=.panicked (stop (tkD (tks X.l) false d).e (ps X.l (tkD (tks X.l) false d).i))∧Below X.w0.heap.size X.w0 w':=by
 refine (refuse_any h.sv).mono ?_
 rintro e w' ⟨rfl,hb⟩
 have hb2:=h.sv.bel.trans (hb.mono h.sv.bel.size)
 have e0:=h.e0
 have he:=h.hend
 unfold tkD
 simp only [Bool.false_eq_true,if_false,if_pos e0]
 by_cases hi:d.i<(tks X.l).length
 ·have:¬ps X.l d.i=X.l.length:=fun e=>(he.1 e) hi
  rw [if_pos hi,if_neg this]
  exact ⟨.inr ⟨(by show (120:Int)≠0;decide),rfl,hb2⟩,(by show (120:Int)≠0;decide),rfl,hb2⟩
 ·rw [if_neg hi,if_pos (he.2 hi)]
  exact ⟨.inr ⟨(by show (121:Int)≠0;decide),rfl,hb2⟩,(by show (121:Int)≠0;decide),rfl,hb2⟩
def Mb (X:Sx) (r:Nat) (x:Fl) (d:D) (e:Ending) (w:World):Prop:=(qn (tks X.l) d (fun t=>x.takes t)=false∧e=.returned (.bool false)∧SD X r d w)∨(qn (tks X.l) d (fun t=>x.takes t)=true∧Out X (.bool true) (tkI (tks X.l) x d) e w)
theorem takeIf_sd {X:Sx}{r:Nat}{d:D}{W:World}(h:SD X r d W) (hr:r≤100) {x:Fl}{b:Bool}(hq:qn (tks X.l) d (fun t=>x.takes t)=b) :
  Calls Tryz.prog 131 #[pg X.g,.bool b] W fun e w'=>Mb X r x d e w':=by
 cases b with
 |false=>
  have HX:Hid (Mb X r x d (.returned (.bool false)) W):=.inl ⟨hq,rfl,h⟩
  clear h hq
  go_enter Tryz.func131,Tryz.ntmps131
  go_wp2_with fail
  go_ret
  exact HX.out
 |true=>
  have HT:Hid (Calls Tryz.prog 158 #[pg X.g] W fun e w'=>Out X (.tuple #[]) (tkI (tks X.l) x d) e w'):=take_sd h hr hq
  have HX:Hid (∀e w',Out X (.bool true) (tkI (tks X.l) x d) e w'→Mb X r x d e w'):=fun e w' ho=>.inr ⟨hq,ho⟩
  clear h hq
  generalize tkI (tks X.l) x d=d' at *
  go_enter Tryz.func131,Tryz.ntmps131
  go_wp2_with fail
  refine HT.out.mono ?_
  rintro e w1 (⟨z,rfl,h1⟩|⟨z,rfl,h1⟩)
  ·have H1:=hid h1
   clear h1
   go_wp2_with fail
   go_ret
   exact HX.out _ _ (.inl ⟨z,rfl,H1.out⟩)
  ·have H1:=hid h1
   clear h1
   go_wp2_with fail
   exact ⟨rfl,HX.out _ _ (.inr ⟨z,rfl,H1.out⟩)⟩
theorem kt_has {k:Int}{ts:List ByteArray}{t:Tv}(hz:has ts ⟨#[]⟩=false):has ts (kt k t)=Fl.takes t (.wd k ts):=by
 unfold kt
 simp only [Fl.takes]
 cases h:(t.k == k) with
 |true=>simp
 |false=>simp [hz]
set_option maxHeartbeats 1000000 in
theorem maybeKey_sd {X:Sx}{r:Nat}{d:D}{W:World}(h:SD X r d W) (hr:r≤100) {ao:Option Addr}{ts:List ByteArray}{cap:Nat}(hl:Ls W ao ts) (hn:ts.length≤1000) (hz:has ts ⟨#[]⟩=false) :
  Calls Tryz.prog 111 #[pg X.g,.slice ao ts.length cap] W fun e w'=>Mb X r (.wd 2 ts) d e w':=by
 have HK:Hid (Calls Tryz.prog 132 #[pg X.g] W fun e w'=>e=.returned (.string (kt 2 (nx X (ps X.l d.i))))∧Below W.heap.size W w'):=skey_any h.sv (ps_le _ _)
 have HC:Hid (∀V,Below W.heap.size W V→Calls Tryz.prog 125 #[.slice ao ts.length cap,.string (kt 2 (nx X (ps X.l d.i)))] V fun r w'=>r=.returned (.bool (qn (tks X.l) d (fun t=>Fl.takes t (.wd 2 ts))))∧w'=V):=fun V hb=>by
  rw [h.hqn (by simp [Fl.takes,tv0]),←kt_has hz]
  exact sContains_any ao ts cap _ V (hl.below hb) hn
 have HT:Hid (∀V,Below W.heap.size W V→Calls Tryz.prog 131 #[pg X.g,.bool (qn (tks X.l) d (fun t=>Fl.takes t (.wd 2 ts)))] V fun e w'=>Mb X r (.wd 2 ts) d e w'):=fun V hb=>takeIf_sd (h.below hb) hr rfl
 clear h hl
 generalize (kt 2 (nx X (ps X.l d.i)))=s at *
 obtain ⟨b,hb⟩:∃b,qn (tks X.l) d (fun t=>Fl.takes t (.wd 2 ts))=b:=⟨_,rfl⟩
 rw [hb] at HC HT
 have HQ:=hid hb
 clear hb
 go_enter Tryz.func111,Tryz.ntmps111
 go_wp2_with fail
 refine HK.out.mono ?_
 rintro e w1 ⟨rfl,hb1⟩
 have HB1:=hid hb1
 clear hb1
 go_wp2_with fail
 refine (HC.out _ HB1.out).mono ?_
 rintro e w2 ⟨rfl,hw2⟩
 subst hw2
 go_wp2_with fail
 refine (HT.out _ HB1.out).mono ?_
 rintro e w3 (⟨z,rfl,h3⟩|⟨z,⟨z2,rfl,h3⟩|⟨z2,rfl,h3⟩⟩)
 ·have H3:=hid h3
  have HZ:=hid z
  clear h3 z
  go_wp2_with fail
  go_ret
  exact .inl ⟨HZ.out,rfl,H3.out⟩
 ·have H3:=hid h3
  have HZ:=hid z
  have HY:=hid z2
  clear h3 z z2
  go_wp2_with fail
  go_ret
  exact .inr ⟨HZ.out,.inl ⟨HY.out,rfl,H3.out⟩⟩
 ·have H3:=hid h3
  have HZ:=hid z
  have HY:=hid z2
  clear h3 z z2
  go_wp2_with fail
  exact ⟨rfl,.inr ⟨HZ.out,.inr ⟨HY.out,rfl,H3.out⟩⟩⟩
set_option maxHeartbeats 1000000 in
theorem maybeSign_sd {X:Sx}{r:Nat}{d:D}{W:World}(h:SD X r d W) (hr:r≤100) {ao:Option Addr}{ts:List ByteArray}{cap:Nat}(hl:Ls W ao ts) (hn:ts.length≤1000) (hz:has ts ⟨#[]⟩=false) :
  Calls Tryz.prog 113 #[pg X.g,.slice ao ts.length cap] W fun e w'=>Mb X r (.wd 6 ts) d e w':=by
 have HK:Hid (Calls Tryz.prog 133 #[pg X.g] W fun e w'=>e=.returned (.string (kt 6 (nx X (ps X.l d.i))))∧Below W.heap.size W w'):=ssign_any h.sv (ps_le _ _)
 have HC:Hid (∀V,Below W.heap.size W V→Calls Tryz.prog 125 #[.slice ao ts.length cap,.string (kt 6 (nx X (ps X.l d.i)))] V fun r w'=>r=.returned (.bool (qn (tks X.l) d (fun t=>Fl.takes t (.wd 6 ts))))∧w'=V):=fun V hb=>by
  rw [h.hqn (by simp [Fl.takes,tv0]),←kt_has hz]
  exact sContains_any ao ts cap _ V (hl.below hb) hn
 have HT:Hid (∀V,Below W.heap.size W V→Calls Tryz.prog 131 #[pg X.g,.bool (qn (tks X.l) d (fun t=>Fl.takes t (.wd 6 ts)))] V fun e w'=>Mb X r (.wd 6 ts) d e w'):=fun V hb=>takeIf_sd (h.below hb) hr rfl
 clear h hl
 generalize (kt 6 (nx X (ps X.l d.i)))=s at *
 obtain ⟨b,hb⟩:∃b,qn (tks X.l) d (fun t=>Fl.takes t (.wd 6 ts))=b:=⟨_,rfl⟩
 rw [hb] at HC HT
 have HQ:=hid hb
 clear hb
 go_enter Tryz.func113,Tryz.ntmps113
 go_wp2_with fail
 refine HK.out.mono ?_
 rintro e w1 ⟨rfl,hb1⟩
 have HB1:=hid hb1
 clear hb1
 go_wp2_with fail
 refine (HC.out _ HB1.out).mono ?_
 rintro e w2 ⟨rfl,hw2⟩
 subst hw2
 go_wp2_with fail
 refine (HT.out _ HB1.out).mono ?_
 rintro e w3 (⟨z,rfl,h3⟩|⟨z,⟨z2,rfl,h3⟩|⟨z2,rfl,h3⟩⟩)
 ·have H3:=hid h3
  have HZ:=hid z
  clear h3 z
  go_wp2_with fail
  go_ret
  exact .inl ⟨HZ.out,rfl,H3.out⟩
 ·have H3:=hid h3
  have HZ:=hid z
  have HY:=hid z2
  clear h3 z z2
  go_wp2_with fail
  go_ret
  exact .inr ⟨HZ.out,.inl ⟨HY.out,rfl,H3.out⟩⟩
 ·have H3:=hid h3
  have HZ:=hid z
  have HY:=hid z2
  clear h3 z z2
  go_wp2_with fail
  exact ⟨rfl,.inr ⟨HZ.out,.inr ⟨HY.out,rfl,H3.out⟩⟩⟩
theorem fldK (k:Int) (t:ByteArray) (a l c f:Int) (w:World):(Instr.field 42 (.agg #[.int .u8 k,.string t,.int .i64 a,.int .i64 l,.int .i64 c,.int .i64 f]) 0).run Tryz.prog w=.ok (.int .u8 k) w:=by kernel_rfl
set_option maxHeartbeats 1000000 in
theorem maybeName_sd {X:Sx}{r:Nat}{d:D}{W:World}(h:SD X r d W) (hr:r≤100) :
  Calls Tryz.prog 112 #[pg X.g] W fun e w'=>Mb X r .nm d e w':=by
 have HK:Hid (Calls Tryz.prog 110 #[pg X.g] W fun e w'=>e=.returned (nx X (ps X.l d.i)).v∧Below W.heap.size W w'):=snext_any h.sv (ps_le _ _)
 have HE:qn (tks X.l) d (fun t=>Fl.takes t .nm)=((nx X (ps X.l d.i)).k == 1):=h.hqn (by simp [Fl.takes,tv0])
 have HT:Hid (∀V,Below W.heap.size W V→Calls Tryz.prog 131 #[pg X.g,.bool (qn (tks X.l) d (fun t=>Fl.takes t .nm))] V fun e w'=>Mb X r .nm d e w'):=fun V hb=>takeIf_sd (h.below hb) hr rfl
 rw [HE] at HT
 clear h HE
 generalize nx X (ps X.l d.i)=t at *
 have hfd:∀w:World,(Instr.field 42 (.agg #[.int .u8 t.k,.string t.t,.int .i64 t.a,.int .i64 t.l,.int .i64 t.c,.int .i64 t.f]) 0).run Tryz.prog w=.ok (.int .u8 t.k) w:=fun w=>fldK _ _ _ _ _ _ w
 dsimp only [Tv.v] at HK
 cases hb:(t.k == 1) with
 |true=>
  rw [hb] at HT
  go_enter Tryz.func112,Tryz.ntmps112
  go_wp2_with fail
  refine HK.out.mono ?_
  rintro e w1 ⟨rfl,hb1⟩
  have HB1:=hid hb1
  clear hb1
  go_wp2_with fail
  refine (HT.out _ HB1.out).mono ?_
  rintro e w3 (⟨z,rfl,h3⟩|⟨z,⟨z2,rfl,h3⟩|⟨z2,rfl,h3⟩⟩)
  ·have H3:=hid h3
   have HZ:=hid z
   clear h3 z
   go_wp2_with fail
   go_ret
   exact .inl ⟨HZ.out,rfl,H3.out⟩
  ·have H3:=hid h3
   have HZ:=hid z
   have HY:=hid z2
   clear h3 z z2
   go_wp2_with fail
   go_ret
   exact .inr ⟨HZ.out,.inl ⟨HY.out,rfl,H3.out⟩⟩
  ·have H3:=hid h3
   have HZ:=hid z
   have HY:=hid z2
   clear h3 z z2
   go_wp2_with fail
   exact ⟨rfl,.inr ⟨HZ.out,.inr ⟨HY.out,rfl,H3.out⟩⟩⟩
 |false=>
  rw [hb] at HT
  go_enter Tryz.func112,Tryz.ntmps112
  go_wp2_with fail
  refine HK.out.mono ?_
  rintro e w1 ⟨rfl,hb1⟩
  have HB1:=hid hb1
  clear hb1
  go_wp2_with fail
  refine (HT.out _ HB1.out).mono ?_
  rintro e w3 (⟨z,rfl,h3⟩|⟨z,⟨z2,rfl,h3⟩|⟨z2,rfl,h3⟩⟩)
  ·have H3:=hid h3
   have HZ:=hid z
   clear h3 z
   go_wp2_with fail
   go_ret
   exact .inl ⟨HZ.out,rfl,H3.out⟩
  ·have H3:=hid h3
   have HZ:=hid z
   have HY:=hid z2
   clear h3 z z2
   go_wp2_with fail
   go_ret
   exact .inr ⟨HZ.out,.inl ⟨HY.out,rfl,H3.out⟩⟩
  ·have H3:=hid h3
   have HZ:=hid z
   have HY:=hid z2
   clear h3 z z2
   go_wp2_with fail
   exact ⟨rfl,.inr ⟨HZ.out,.inr ⟨HY.out,rfl,H3.out⟩⟩⟩
theorem ls_one (W:World) (s:ByteArray):Ls (W.alloc (.cells #[.string s] 9)) (some ⟨W.heap.size,0,none⟩) [s]:=by
 intro j x hj
 have hj0:j=0:=by
  cases j with
  |zero=>rfl
  |succ j=>simp at hj
 subst hj0
 simp at hj
 subst hj
 exact ⟨_,_,rfl,blk_cell (new_at W _) rfl⟩
theorem tkI_no {L:List Tv}{x:Fl}{d:D}(h:qn L d (fun t=>x.takes t)=false):tkI L x d=tkD L false d:=by unfold tkI;rw [h]
set_option maxHeartbeats 1000000 in
theorem key_sd {X:Sx}{r:Nat}{d:D}{W:World}(h:SD X r d W) (hr:r≤100) {s:ByteArray}(hz:has [s] ⟨#[]⟩=false) :
  Calls Tryz.prog 77 #[pg X.g,.string s] W fun e w'=>Out X (.tuple #[]) (tkI (tks X.l) (.wd 2 [s]) d) e w':=by
 have HM:Hid (Calls Tryz.prog 111 #[pg X.g,.slice (some ⟨W.heap.size,0,none⟩) 1 1] (W.alloc (.cells #[.string s] 9)) fun e w'=>Mb X r (.wd 2 [s]) d e w'):=maybeKey_sd (ts:=[s]) (h.below ((Below.refl _ _).alloc (Nat.le_refl _) _)) hr (ls_one W s) (by simp) hz
 clear h
 go_enter Tryz.func77,Tryz.ntmps77
 go_wp2_with fail
 refine HM.out.mono ?_
 rintro e w1 (⟨z,rfl,h1⟩|⟨z,⟨z2,rfl,h1⟩|⟨z2,rfl,h1⟩⟩)
 ·have HR:Hid (Calls Tryz.prog 81 #[pg X.g] w1 fun e w'=>Out X (.tuple #[]) (tkI (tks X.l) (.wd 2 [s]) d) e w'∧(tkI (tks X.l) (.wd 2 [s]) d).e≠0∧e=.panicked (stop (tkI (tks X.l) (.wd 2 [s]) d).e (ps X.l (tkI (tks X.l) (.wd 2 [s]) d).i))∧Below X.w0.heap.size X.w0 w'):=by rw [tkI_no z];exact refuse_sd h1 _
  clear z h1 HM
  go_wp2_with fail
  refine HR.out.mono ?_
  rintro e w2 ⟨ho,hz2,rfl,hb2⟩
  have HO:=hid hz2
  have HB:=hid hb2
  clear ho hz2 hb2
  go_wp2_with fail
  exact ⟨rfl,.inr ⟨HO.out,rfl,HB.out⟩⟩
 ·have H1:=hid h1
  have HY:=hid z2
  clear h1 z z2
  go_wp2_with fail
  go_end0
  exact .inl ⟨HY.out,rfl,H1.out⟩
 ·have H1:=hid h1
  have HY:=hid z2
  clear h1 z z2
  go_wp2_with fail
  exact ⟨rfl,.inr ⟨HY.out,rfl,H1.out⟩⟩
set_option maxHeartbeats 1000000 in
theorem sign_sd {X:Sx}{r:Nat}{d:D}{W:World}(h:SD X r d W) (hr:r≤100) {s:ByteArray}(hz:has [s] ⟨#[]⟩=false) :
  Calls Tryz.prog 79 #[pg X.g,.string s] W fun e w'=>Out X (.tuple #[]) (tkI (tks X.l) (.wd 6 [s]) d) e w':=by
 have HM:Hid (Calls Tryz.prog 113 #[pg X.g,.slice (some ⟨W.heap.size,0,none⟩) 1 1] (W.alloc (.cells #[.string s] 9)) fun e w'=>Mb X r (.wd 6 [s]) d e w'):=maybeSign_sd (ts:=[s]) (h.below ((Below.refl _ _).alloc (Nat.le_refl _) _)) hr (ls_one W s) (by simp) hz
 clear h
 go_enter Tryz.func79,Tryz.ntmps79
 go_wp2_with fail
 refine HM.out.mono ?_
 rintro e w1 (⟨z,rfl,h1⟩|⟨z,⟨z2,rfl,h1⟩|⟨z2,rfl,h1⟩⟩)
 ·have HR:Hid (Calls Tryz.prog 81 #[pg X.g] w1 fun e w'=>Out X (.tuple #[]) (tkI (tks X.l) (.wd 6 [s]) d) e w'∧(tkI (tks X.l) (.wd 6 [s]) d).e≠0∧e=.panicked (stop (tkI (tks X.l) (.wd 6 [s]) d).e (ps X.l (tkI (tks X.l) (.wd 6 [s]) d).i))∧Below X.w0.heap.size X.w0 w'):=by rw [tkI_no z];exact refuse_sd h1 _
  clear z h1 HM
  go_wp2_with fail
  refine HR.out.mono ?_
  rintro e w2 ⟨ho,hz2,rfl,hb2⟩
  have HO:=hid hz2
  have HB:=hid hb2
  clear ho hz2 hb2
  go_wp2_with fail
  exact ⟨rfl,.inr ⟨HO.out,rfl,HB.out⟩⟩
 ·have H1:=hid h1
  have HY:=hid z2
  clear h1 z z2
  go_wp2_with fail
  go_end0
  exact .inl ⟨HY.out,rfl,H1.out⟩
 ·have H1:=hid h1
  have HY:=hid z2
  clear h1 z z2
  go_wp2_with fail
  exact ⟨rfl,.inr ⟨HY.out,rfl,H1.out⟩⟩
set_option maxHeartbeats 1000000 in
theorem name_sd {X:Sx}{r:Nat}{d:D}{W:World}(h:SD X r d W) (hr:r≤100) :
  Calls Tryz.prog 78 #[pg X.g] W fun e w'=>Out X (.tuple #[]) (tkI (tks X.l) (.nm) d) e w':=by
 have HM:Hid (Calls Tryz.prog 112 #[pg X.g] W fun e w'=>Mb X r (.nm) d e w'):=maybeName_sd h hr
 clear h
 go_enter Tryz.func78,Tryz.ntmps78
 go_wp2_with fail
 refine HM.out.mono ?_
 rintro e w1 (⟨z,rfl,h1⟩|⟨z,⟨z2,rfl,h1⟩|⟨z2,rfl,h1⟩⟩)
 ·have HR:Hid (Calls Tryz.prog 81 #[pg X.g] w1 fun e w'=>Out X (.tuple #[]) (tkI (tks X.l) (.nm) d) e w'∧(tkI (tks X.l) (.nm) d).e≠0∧e=.panicked (stop (tkI (tks X.l) (.nm) d).e (ps X.l (tkI (tks X.l) (.nm) d).i))∧Below X.w0.heap.size X.w0 w'):=by rw [tkI_no z];exact refuse_sd h1 _
  clear z h1 HM
  go_wp2_with fail
  refine HR.out.mono ?_
  rintro e w2 ⟨ho,hz2,rfl,hb2⟩
  have HO:=hid hz2
  have HB:=hid hb2
  clear ho hz2 hb2
  go_wp2_with fail
  exact ⟨rfl,.inr ⟨HO.out,rfl,HB.out⟩⟩
 ·have H1:=hid h1
  have HY:=hid z2
  clear h1 z z2
  go_wp2_with fail
  go_end0
  exact .inl ⟨HY.out,rfl,H1.out⟩
 ·have H1:=hid h1
  have HY:=hid z2
  clear h1 z z2
  go_wp2_with fail
  exact ⟨rfl,.inr ⟨HY.out,rfl,H1.out⟩⟩
abbrev Entr (f:Nat):Prop:=∀(args:Array Value) (w:World),(callFunc f args).run Tryz.prog w=.ok (.enter f args) w
abbrev fv (f g:Nat):Value:=.func (.func f) #[pg g] #[]
set_option maxHeartbeats 1000000 in
theorem node_raw {X:Sx}{i n:Nat}{E:List Ev}{W:World}(h:SV X i n E W) (hl:E.length≤1000000000) (hn:n≤1000000000) (nd:Int) {f:Nat}(hf:Entr f) {Q:Ending→World→Prop}
  (hrow:∀W1,SV X i (n+1) (E++[⟨1,nd,tv0⟩]) W1→Calls Tryz.prog f #[pg X.g] W1 fun e w'=>(e=.returned (.tuple #[])∧∃i' n' E',SV X i' (n'+1) E' w'∧E'.length≤1000000000∧n'≤1000000000∧∀w2,SV X i' n' (E'++[⟨3,nd,tv0⟩]) w2→Q (.returned (.tuple #[])) w2)∨(∃c,e=.panicked c∧Q (.panicked c) w')) :
  Calls Tryz.prog 32 #[pg X.g,.int .u8 nd,fv f X.g] W Q:=by
 obtain ⟨z0,z1,z2,z3⟩:=h.deep (n+1)
 obtain ⟨W1,e1⟩:∃W1,W.setCell ⟨X.g,2,none⟩ (.int .i64 ((n:Int)+1))=W1:=⟨_,rfl⟩
 have HT:Hid (Calls Tryz.prog 75 #[pg X.g,(⟨1,nd,tv0⟩:Ev).v] W1 fun r w'=>r=.returned (.tuple #[])∧SV X i (n+1) (E++[⟨1,nd,tv0⟩]) w'∧Frm X W1 w'):=by
  rw [show ((n+1:Nat):Int)=(n:Int)+1 by omega,e1] at z3
  exact stell_any z3 _ hl
 have HR:Hid (∀W1,SV X i (n+1) (E++[⟨1,nd,tv0⟩]) W1→Calls Tryz.prog f #[pg X.g] W1 fun e w'=>(e=.returned (.tuple #[])∧∃i' n' E',SV X i' (n'+1) E' w'∧E'.length≤1000000000∧n'≤1000000000∧∀w2,SV X i' n' (E'++[⟨3,nd,tv0⟩]) w2→Q (.returned (.tuple #[])) w2)∨(∃c,e=.panicked c∧Q (.panicked c) w')):=hrow
 have HS:Hid (∀i' n' E' w2,SV X i' (n'+1) E' w2→E'.length≤1000000000→Calls Tryz.prog 75 #[pg X.g,(⟨3,nd,tv0⟩:Ev).v] w2 fun r w'=>r=.returned (.tuple #[])∧SV X i' (n'+1) (E'++[⟨3,nd,tv0⟩]) w'∧Frm X w2 w'):=fun i' n' E' w2 h2 hl2=>stell_any h2 _ hl2
 have HD:Hid (∀i' n' E' w3,SV X i' (n'+1) E' w3→w3.cell? ⟨X.g,2,none⟩=some (.int .i64 ((n':Int)+1))∧w3.frozen? ⟨X.g,2,none⟩=false∧X.g<w3.heap.size∧∃w4,w3.setCell ⟨X.g,2,none⟩ (.int .i64 (n':Int))=w4∧Hid (SV X i' n' E' w4)):=fun i' n' E' w3 h3=>by
  obtain ⟨a,b,c,d⟩:=h3.deep n'
  exact ⟨by rw [a];simp,b,c,_,rfl,d⟩
 clear h hrow z3
 dsimp only [Ev.v,tv0] at HT HS
 go_enter Tryz.func32,Tryz.ntmps32
 go_wp2_with fail
 refine HT.out.mono ?_
 rintro r w2 ⟨rfl,h2,_⟩
 have H2:=hid h2
 clear h2 z0 z1 z2 e1 HT
 go_wp2_with fail
 refine (HR.out _ H2.out).mono ?_
 rintro e w3 (⟨rfl,i',n',E',h3,hl3,hn3,hq⟩|⟨c,rfl,hq⟩)
 ·have H3:=hid h3
  have HQ:=hid hq
  clear h3 hq
  go_wp2_with fail
  refine (HS.out _ _ _ _ H3.out hl3).mono ?_
  rintro r w4 ⟨rfl,h4,_⟩
  obtain ⟨y0,y1,y2,w5,e5,h5⟩:=HD.out _ _ _ _ h4
  clear h4
  go_wp2_with fail
  go_end0
  exact HQ.out _ h5.out
 ·have HQ:=hid hq
  clear hq
  go_wp2_with fail
  exact ⟨rfl,HQ.out⟩
end Go.Proofs.YtkigadnkclkopaaGreatDoor
