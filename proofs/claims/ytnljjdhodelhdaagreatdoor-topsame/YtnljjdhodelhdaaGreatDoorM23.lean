import Derived.Test.YtnljjdhodelhdaaGreatDoorM22
set_option linter.unusedVariables false
set_option linter.unusedSimpArgs false
namespace Go.Proofs.YtnljjdhodelhdaaGreatDoor
open Go.RowKit
variable {X:Sx}{W:World}
structure QJ (n:Nat):Prop where
 r_block:bJ 49 po 40 n
 r_variables:bJ 138 fO 90 n
 r_constant:bJ 139 gu 90 n
 r_procedure:bJ 140 fQ 90 n
 r_params:bJ 189 lM 90 n
 r_typed:bJ 187 gM 90 n
 r_array:bJ 222 iM 90 n
 r_record:bJ 223 gN 90 n
 r_body:bJ 97 gy 45 n
 r_skip:bJ 192 nJ 90 n
 r_act:bJ 191 pq 90 n
 r_branch:bJ 225 lO 45 n
 r_done:bJ 226 nL 90 n
 r_branches:bJ 193 gx 90 n
 r_while:bJ 194 kF 90 n
 r_count:bJ 195 kJ 90 n
 r_repeat:bJ 196 jq 90 n
 r_answer:bJ 197 jr 90 n
 r_compound:bJ 198 gw 90 n
 r_expr:bJ 188 dy 50 n
 r_rel:bJ 221 sQ 55 n
 r_sum:bJ 248 sP 60 n
 r_term:bJ 255 nI 65 n
 r_minus:bJ 260 kG 90 n
 r_not:bJ 259 sR 90 n
 r_group:bJ 261 kI 90 n
 r_object:bJ 224 gO 95 n
 r_list:bJ 263 nK 45 n
 r_index:bJ 256 kH 90 n
 r_selection:bJ 257 fP 90 n
 r_args:bJ 258 nM 90 n
theorem NL (n:Nat):QJ n:=by
 induction n using Nat.strongRecOn with
 |ind n ih=>
  have FA:∀k,k<n->PC .factor 250 k:=fun k hk=>rm k (ih k hk).r_minus (ih k hk).r_not (ih k hk).r_group (ih k hk).r_object
  have KA:∀k,k<n->PC .kind 190 k:=fun k hk=>JG k (ih k hk).r_array (ih k hk).r_record
  have SA:∀k,k<n->PC .statement 142 k:=fun k hk=>kf k (ih k hk).r_act (ih k hk).r_skip (ih k hk).r_branches (ih k hk).r_while (ih k hk).r_count (ih k hk).r_repeat (ih k hk).r_answer (ih k hk).r_compound
  have DA:∀k,k<n->PD .detail 249 k:=fun k hk=>Cp k (ih k hk).r_index (ih k hk).r_selection (ih k hk).r_args
  have object:=BJ n (hdetailA:=DA);have minus:=EO n (hfactorA:=FA);have not:=MG n (hfactorA:=FA);have group:=Fh n (hexprA:=(fun k hk=>(ih k hk).r_expr));have factorN:=rm n minus not group object;have term:=Hs n (hfactor:=factorN) (hfactorA:=FA);have sum:=L3 n (hterm:=term) (htermA:=(fun k hk=>(ih k hk).r_term));have rel:=Mq n (hsum:=sum) (hsumA:=(fun k hk=>(ih k hk).r_sum));have expr:=J6 n (hrel:=rel) (hrelA:=(fun k hk=>(ih k hk).r_rel));have list:=JA n (hexpr:=expr) (hexprA:=(fun k hk=>(ih k hk).r_expr));have index:=Fa n (hlistA:=(fun k hk=>(ih k hk).r_list));have selection:=rW n;have args:=KG n (hlistA:=(fun k hk=>(ih k hk).r_list));have typed:=Dd n (hkindA:=KA);have array:=GJ n (hexprA:=(fun k hk=>(ih k hk).r_expr)) (hkindA:=KA);have record:=Bj n (htypedA:=(fun k hk=>(ih k hk).r_typed));have params:=BH n (htypedA:=(fun k hk=>(ih k hk).r_typed));have variables:=rK n (htypedA:=(fun k hk=>(ih k hk).r_typed));have constant:=ww n (hexprA:=(fun k hk=>(ih k hk).r_expr));have act:=NN n (hobject:=object) (hexprA:=(fun k hk=>(ih k hk).r_expr));have branch:=CE n (hexpr:=expr) (hbodyA:=(fun k hk=>(ih k hk).r_body));have done:=Ke n (hbodyA:=(fun k hk=>(ih k hk).r_body));have branches:=wI n (hbranchA:=(fun k hk=>(ih k hk).r_branch)) (hbodyA:=(fun k hk=>(ih k hk).r_body));have «while»:=C4 n (hexprA:=(fun k hk=>(ih k hk).r_expr)) (hdoneA:=(fun k hk=>(ih k hk).r_done));have count:=F5 n (hexprA:=(fun k hk=>(ih k hk).r_expr)) (hdoneA:=(fun k hk=>(ih k hk).r_done));have «repeat»:=Bi n (hbodyA:=(fun k hk=>(ih k hk).r_body)) (hexprA:=(fun k hk=>(ih k hk).r_expr));have answer:=CM n (hexprA:=(fun k hk=>(ih k hk).r_expr));have compound:=wy n (hbodyA:=(fun k hk=>(ih k hk).r_body));have skip:=Io n;have statementN:=kf n act skip branches «while» count «repeat» answer compound;have body:=Ku n (hstatement:=statementN) (hstatementA:=SA);have procedure:=ss n (hparamsA:=(fun k hk=>(ih k hk).r_params)) (hkindA:=KA) (hblockA:=(fun k hk=>(ih k hk).r_block));have declarationN:=pT n variables constant procedure;have block:=Gq n (hdeclaration:=declarationN) (hbodyA:=(fun k hk=>(ih k hk).r_body));exact ⟨block,variables,constant,procedure,params,typed,array,record,body,skip,act,branch,done,branches,«while»,count,«repeat»,answer,compound,expr,rel,sum,term,minus,not,group,object,list,index,selection,args⟩
def Pr (X:Sx) (d:D) (e:Ending) (w:World):Prop:=(d.e=0/\d.i=(aG X.l).length/\e=.returned (.tuple #[])/\SD X 0 d w)\/((d.e=0->d.i<(aG X.l).length)/\e=.panicked (stop (if d.e=0 then 120 else d.e) (ps X.l d.i))/\Below X.w0.heap.size X.w0 w)
theorem oV {d:D}{w:World}(hz:d.e≠0) (hb:Below X.w0.heap.size X.w0 w):Pr X d (.panicked (stop d.e (ps X.l d.i))) w:=.inr ⟨fun h=>absurd h hz,by rw [Eq hz],hb⟩
def Po (X:Sx):Nat->List Ev:=fun j=>(qw X.l j).map j9
theorem DJ (h:dR X (0+(bD (X.l.drop 0)).length) 1 ([⟨1,1,aC⟩]++(bD (X.l.drop 0)).map j9) W):SD X 1 (eu 1 (tz (Po X))) W:=by
 rw [Ll];rw [List.drop_zero,Q8] at h;refine ⟨?_,rfl,QU _,rfl,by simp,by simp,?_⟩
 ·show dR X (ps X.l 0) 1 (nR X _) W
  rw [nj];have:nR X ⟨0,[(1,1)],1,[],0,[⟨1,1,aC⟩],Po X⟩=[⟨1,1,aC⟩]++(bD X.l).map j9:=by simp [nR]
  rw [this];exact h
 ·simp [nR,nj];omega
set_option maxHeartbeats 2000000 in
theorem xH (h:dR X 0 1 [⟨1,1,aC⟩] W) :
  Ra 19 #[pg X.g] W fun e w'=>∃d,Rb (aG X.l) cd (eu 1 (tz (Po X))) d/\Pr X d e w':=by
 have hmf:=mkfn;have HC:Hid (Ra 45 #[pg X.g] W fun e w'=>e=.returned (.tuple #[])/\dR X (0+(bD (X.l.drop 0)).length) 1 ([⟨1,1,aC⟩]++(bD (X.l.drop 0)).map j9) w'):=kR h (QU _) (by have:=h.hl;simp;omega);have HS:Hid (∀w,dR X (0+(bD (X.l.drop 0)).length) 1 ([⟨1,1,aC⟩]++(bD (X.l.drop 0)).map j9) w->SD X 1 (eu 1 (tz (Po X))) w):=fun w hw=>DJ hw
 obtain ⟨d,hd⟩:∃d,eu 1 (tz (Po X))=d:=⟨_,rfl⟩;rw [hd] at HS ⊢;clear h hd
 go_enter Tryz.func19,Tryz.ntmps19
 go_wp2_with fail
 refine HC.out.mono ?_;rintro e w0 ⟨rfl,h0⟩;have H0:=show Hid _ from HS.out _ h0
 clear h0 HC HS
 go_wp2_with fail
 refine (bU H0.out (by omega) (by kernel_rfl)).mono ?_;rintro e w1 ⟨d1,i1,o1⟩;have I1:=ai i1
 rcases o1 with ⟨z1,rfl,h1⟩|⟨z1,rfl,h1⟩
 rotate_left
 ·have HP:=ai h1;have HZ:=ai z1;clear h1 i1 z1
  go_wp2_with fail
  exact ⟨rfl,_,(aa I1.out (ah HZ.out _)),oV HZ.out HP.out⟩
 have H1:=ai h1;clear h1 i1 z1
 go_wp2_with fail
 refine (fN H1.out (by omega)).mono ?_;rintro e w2 ⟨d2,i2,o2⟩;have I2:=ai i2
 rcases o2 with ⟨z2,rfl,h2⟩|⟨z2,rfl,h2⟩
 rotate_left
 ·have HP:=ai h2;have HZ:=ai z2;clear h2 i2 z2
  go_wp2_with fail
  exact ⟨rfl,_,(aa I1.out (aa I2.out (ah HZ.out _))),oV HZ.out HP.out⟩
 have H2:=ai h2;clear h2 i2 z2
 go_wp2_with fail
 refine (br H2.out (by omega) (by kernel_rfl)).mono ?_;rintro e w3 ⟨d3,i3,o3⟩;have I3:=ai i3
 rcases o3 with ⟨z3,rfl,h3⟩|⟨z3,rfl,h3⟩
 rotate_left
 ·have HP:=ai h3;have HZ:=ai z3;clear h3 i3 z3
  go_wp2_with fail
  exact ⟨rfl,_,(aa I1.out (aa I2.out (aa I3.out (ah HZ.out _)))),oV HZ.out HP.out⟩
 have H3:=ai h3;clear h3 i3 z3
 go_wp2_with fail
 refine (aP H3.out (by omega) (by omega) (gt _) (NL (ms (aG X.l) d3)).r_block iP rfl (fun d' hh=>aU (m:=.block) rfl hh)).mono ?_;rintro e w4 ⟨d4,i4,o4⟩;have I4:=ai i4
 rcases o4 with ⟨z4,rfl,h4⟩|⟨z4,rfl,h4⟩
 rotate_left
 ·have HP:=ai h4;have HZ:=ai z4;clear h4 i4 z4
  go_wp2_with fail
  exact ⟨rfl,_,(aa I1.out (aa I2.out (aa I3.out (aa I4.out (ah HZ.out _))))),oV HZ.out HP.out⟩
 have H4:=ai h4;clear h4 i4 z4
 go_wp2_with fail
 refine (br H4.out (by omega) (by kernel_rfl)).mono ?_;rintro e w5 ⟨d5,i5,o5⟩;have I5:=ai i5
 rcases o5 with ⟨z5,rfl,h5⟩|⟨z5,rfl,h5⟩
 rotate_left
 ·have HP:=ai h5;have HZ:=ai z5;clear h5 i5 z5
  go_wp2_with fail
  exact ⟨rfl,_,(aa I1.out (aa I2.out (aa I3.out (aa I4.out (aa I5.out (ah HZ.out _)))))),oV HZ.out HP.out⟩
 have H5:=ai h5;clear h5 i5 z5;obtain ⟨ve,hs,_,_⟩:=H5.out.sv.ex;obtain ⟨c0,c1,c2,c3⟩:=hs.cells;have hgl:=hs.lt;have IB:=show Hid _ from ((aa I1.out (aa I2.out (aa I3.out (aa I4.out (aa I5.out aF))))):Rb (aG X.l) cd d d5)
 clear hs
 by_cases hi:d5.i<(aG X.l).length
 ·have q1:((ps X.l d5.i:Int)<X.l.length):=by have:=zl.2 hi;omega
  have HR:Hid (∀V,Rc w5 V->Ra 50 #[pg X.g] V fun e w'=>e=.panicked (stop 120 (ps X.l d5.i))/\Below X.w0.heap.size X.w0 w'):=fun V hb=>(oP (H5.out.below hb).sv).mono (fun e w' ⟨h1,h2⟩=>⟨by rw [h1,Eq (by have:=zl.2 hi;omega)],(H5.out.below hb).sv.bel.trans (h2.mono (H5.out.below hb).sv.bel.size)⟩)
  have HB:Hid (∀m,Rc w5 (w5.drewN m)):=fun m=>fq (hH _ _) m
  have HI:=ai hi;clear hi
  go_wp2_with fail
  go_quiet (fail)
  go_wp2_with fail
  refine (HR.out _ (HB.out _)).mono ?_;rintro e w9 ⟨rfl,hb9⟩;have HB9:=ai hb9;clear hb9
  go_wp2_with fail
  exact ⟨rfl,_,IB.out,.inr ⟨fun _=>HI.out,by rw [IO H5.out.e0],HB9.out⟩⟩
 ·have q1:¬((ps X.l d5.i:Int)<X.l.length):=(fun hn:¬ps X.l d5.i<X.l.length=>by omega) (fun h=>hi (zl.1 h));have HB:Hid (∀m,SD X 0 d5 (w5.drewN m)):=fun m=>H5.out.below (fq (hH _ _) m)
  have HI:Hid (d5.i=(aG X.l).length):=by have:=H5.out.il;show _=_;omega
  clear hi
  go_wp2_with fail
  go_quiet (fail)
  go_wp2_with fail
  go_end0
  exact ⟨_,IB.out,.inl ⟨H5.out.e0,HI.out,rfl,HB.out _⟩⟩
end Go.Proofs.YtnljjdhodelhdaaGreatDoor
