import Derived.Test.YtjiepkenkcgkhaaGreatDoorM23
set_option linter.unusedVariables false
set_option linter.unusedSimpArgs false
namespace Go.Proofs.YtjiepkenkcgkhaaGreatDoor
open Go.RowKit
variable {X:Sx}{W:World}
structure Qx (n:Nat):Prop where
 r_block:bG 154 pk 40 n
 r_variables:bG 217 fK 90 n
 r_constant:bG 218 gn 90 n
 r_procedure:bG 219 fM 90 n
 r_params:bG 233 lI 90 n
 r_typed:bG 231 gK 90 n
 r_array:bG 246 iK 90 n
 r_record:bG 247 gM 90 n
 r_body:bG 191 gu 45 n
 r_skip:bG 236 nF 90 n
 r_act:bG 235 pm 90 n
 r_branch:bG 249 lJ 45 n
 r_done:bG 250 nI 90 n
 r_branches:bG 237 gr 90 n
 r_while:bG 238 kC 90 n
 r_count:bG 239 kG 90 n
 r_repeat:bG 240 jo 90 n
 r_answer:bG 241 jp 90 n
 r_compound:bG 242 gq 90 n
 r_expr:bG 232 dq 50 n
 r_rel:bG 245 sK 55 n
 r_sum:bG 252 sJ 60 n
 r_term:bG 255 nD 65 n
 r_minus:bG 260 kD 90 n
 r_not:bG 259 sL 90 n
 r_group:bG 261 kF 90 n
 r_object:bG 248 gN 95 n
 r_list:bG 262 nG 45 n
 r_index:bG 256 kE 90 n
 r_selection:bG 257 fL 90 n
 r_args:bG 258 nJ 90 n
theorem Np (n:Nat):Qx n:=by
 induction n using Nat.strongRecOn with
 |ind n ih=>
  have FA:∀k,k<n->PC .factor 254 k:=fun k hk=>ra k (ih k hk).r_minus (ih k hk).r_not (ih k hk).r_group (ih k hk).r_object
  have KA:∀k,k<n->PC .kind 234 k:=fun k hk=>Jl k (ih k hk).r_array (ih k hk).r_record
  have SA:∀k,k<n->PC .statement 221 k:=fun k hk=>kc k (ih k hk).r_act (ih k hk).r_skip (ih k hk).r_branches (ih k hk).r_while (ih k hk).r_count (ih k hk).r_repeat (ih k hk).r_answer (ih k hk).r_compound
  have DA:∀k,k<n->PD .detail 253 k:=fun k hk=>B8 k (ih k hk).r_index (ih k hk).r_selection (ih k hk).r_args
  have object:=Bq n (hdetailA:=DA);have minus:=Ew n (hfactorA:=FA);have not:=Ml n (hfactorA:=FA);have group:=ER n (hexprA:=(fun k hk=>(ih k hk).r_expr));have factorN:=ra n minus not group object;have term:=G8 n (hfactor:=factorN) (hfactorA:=FA);have sum:=LE n (hterm:=term) (htermA:=(fun k hk=>(ih k hk).r_term));have rel:=L6 n (hsum:=sum) (hsumA:=(fun k hk=>(ih k hk).r_sum));have expr:=JJ n (hrel:=rel) (hrelA:=(fun k hk=>(ih k hk).r_rel));have list:=Jg n (hexpr:=expr) (hexprA:=(fun k hk=>(ih k hk).r_expr));have index:=EM n (hlistA:=(fun k hk=>(ih k hk).r_list));have selection:=rP n;have args:=Kj n (hlistA:=(fun k hk=>(ih k hk).r_list));have typed:=CS n (hkindA:=KA);have array:=Gn n (hexprA:=(fun k hk=>(ih k hk).r_expr)) (hkindA:=KA);have record:=A2 n (htypedA:=(fun k hk=>(ih k hk).r_typed));have params:=Bm n (htypedA:=(fun k hk=>(ih k hk).r_typed));have variables:=rF n (htypedA:=(fun k hk=>(ih k hk).r_typed));have constant:=wb n (hexprA:=(fun k hk=>(ih k hk).r_expr));have act:=Nr n (hobject:=object) (hexprA:=(fun k hk=>(ih k hk).r_expr));have branch:=Cm n (hexpr:=expr) (hbodyA:=(fun k hk=>(ih k hk).r_body));have done:=JT n (hbodyA:=(fun k hk=>(ih k hk).r_body));have branches:=wu n (hbranchA:=(fun k hk=>(ih k hk).r_branch)) (hbodyA:=(fun k hk=>(ih k hk).r_body));have «while»:=CJ n (hexprA:=(fun k hk=>(ih k hk).r_expr)) (hdoneA:=(fun k hk=>(ih k hk).r_done));have count:=FM n (hexprA:=(fun k hk=>(ih k hk).r_expr)) (hdoneA:=(fun k hk=>(ih k hk).r_done));have «repeat»:=A1 n (hbodyA:=(fun k hk=>(ih k hk).r_body)) (hexprA:=(fun k hk=>(ih k hk).r_expr));have answer:=Ct n (hexprA:=(fun k hk=>(ih k hk).r_expr));have compound:=we n (hbodyA:=(fun k hk=>(ih k hk).r_body));have skip:=Hu n;have statementN:=kc n act skip branches «while» count «repeat» answer compound;have body:=J7 n (hstatement:=statementN) (hstatementA:=SA);have procedure:=se n (hparamsA:=(fun k hk=>(ih k hk).r_params)) (hkindA:=KA) (hblockA:=(fun k hk=>(ih k hk).r_block));have declarationN:=pP n variables constant procedure;have block:=F6 n (hdeclaration:=declarationN) (hbodyA:=(fun k hk=>(ih k hk).r_body));exact ⟨block,variables,constant,procedure,params,typed,array,record,body,skip,act,branch,done,branches,«while»,count,«repeat»,answer,compound,expr,rel,sum,term,minus,not,group,object,list,index,selection,args⟩
def Pr (X:Sx) (d:D) (e:Ending) (w:World):Prop:=(d.e=0/\d.i=(aF X.l).length/\e=.returned (.tuple #[])/\SD X 0 d w)\/((d.e=0->d.i<(aF X.l).length)/\e=.panicked (stop (if d.e=0 then 120 else d.e) (ps X.l d.i))/\Below X.w0.heap.size X.w0 w)
theorem oS {d:D}{w:World}(hz:d.e≠0) (hb:Below X.w0.heap.size X.w0 w):Pr X d (.panicked (stop d.e (ps X.l d.i))) w:=.inr ⟨fun h=>absurd h hz,by rw [Eq hz],hb⟩
def O4 (X:Sx):Nat->List Ev:=fun j=>(qp X.l j).map jY
theorem Ds (h:dM X (0+(bA (X.l.drop 0)).length) 1 ([⟨1,1,aB⟩]++(bA (X.l.drop 0)).map jY) W):SD X 1 (ei 1 (tf (O4 X))) W:=by
 rw [KR];rw [List.drop_zero,QU] at h;refine ⟨?_,rfl,QK _,rfl,by simp,by simp,?_⟩
 ·show dM X (ps X.l 0) 1 (nO X _) W
  rw [na];have:nO X ⟨0,[(1,1)],1,[],0,[⟨1,1,aB⟩],O4 X⟩=[⟨1,1,aB⟩]++(bA X.l).map jY:=by simp [nO]
  rw [this];exact h
 ·simp [nO,na];omega
set_option maxHeartbeats 2000000 in
theorem xt (h:dM X 0 1 [⟨1,1,aB⟩] W) :
  Ra 111 #[pg X.g] W fun e w'=>∃d,Rb (aF X.l) bY (ei 1 (tf (O4 X))) d/\Pr X d e w':=by
 have hmf:=mkfn;have HC:Hid (Ra 150 #[pg X.g] W fun e w'=>e=.returned (.tuple #[])/\dM X (0+(bA (X.l.drop 0)).length) 1 ([⟨1,1,aB⟩]++(bA (X.l.drop 0)).map jY) w'):=kP h (QK _) (by have:=h.hl;simp;omega);have HS:Hid (∀w,dM X (0+(bA (X.l.drop 0)).length) 1 ([⟨1,1,aB⟩]++(bA (X.l.drop 0)).map jY) w->SD X 1 (ei 1 (tf (O4 X))) w):=fun w hw=>Ds hw
 obtain ⟨d,hd⟩:∃d,ei 1 (tf (O4 X))=d:=⟨_,rfl⟩;rw [hd] at HS ⊢;clear h hd
 go_enter Tryz.func111,Tryz.ntmps111
 go_wp2_with fail
 refine HC.out.mono ?_;rintro e w0 ⟨rfl,h0⟩;have H0:=show Hid _ from HS.out _ h0
 clear h0 HC HS
 go_wp2_with fail
 refine (bS H0.out (by omega) (by kernel_rfl)).mono ?_;rintro e w1 ⟨d1,i1,o1⟩;have I1:=ai i1
 rcases o1 with ⟨z1,rfl,h1⟩|⟨z1,rfl,h1⟩
 rotate_left
 ·have HP:=ai h1;have HZ:=ai z1;clear h1 i1 z1
  go_wp2_with fail
  exact ⟨rfl,_,(aa I1.out (ah HZ.out _)),oS HZ.out HP.out⟩
 have H1:=ai h1;clear h1 i1 z1
 go_wp2_with fail
 refine (fJ H1.out (by omega)).mono ?_;rintro e w2 ⟨d2,i2,o2⟩;have I2:=ai i2
 rcases o2 with ⟨z2,rfl,h2⟩|⟨z2,rfl,h2⟩
 rotate_left
 ·have HP:=ai h2;have HZ:=ai z2;clear h2 i2 z2
  go_wp2_with fail
  exact ⟨rfl,_,(aa I1.out (aa I2.out (ah HZ.out _))),oS HZ.out HP.out⟩
 have H2:=ai h2;clear h2 i2 z2
 go_wp2_with fail
 refine (bm H2.out (by omega) (by kernel_rfl)).mono ?_;rintro e w3 ⟨d3,i3,o3⟩;have I3:=ai i3
 rcases o3 with ⟨z3,rfl,h3⟩|⟨z3,rfl,h3⟩
 rotate_left
 ·have HP:=ai h3;have HZ:=ai z3;clear h3 i3 z3
  go_wp2_with fail
  exact ⟨rfl,_,(aa I1.out (aa I2.out (aa I3.out (ah HZ.out _)))),oS HZ.out HP.out⟩
 have H3:=ai h3;clear h3 i3 z3
 go_wp2_with fail
 refine (aP H3.out (by omega) (by omega) (gt _) (Np (ms (aF X.l) d3)).r_block iM rfl (fun d' hh=>aT (m:=.block) rfl hh)).mono ?_;rintro e w4 ⟨d4,i4,o4⟩;have I4:=ai i4
 rcases o4 with ⟨z4,rfl,h4⟩|⟨z4,rfl,h4⟩
 rotate_left
 ·have HP:=ai h4;have HZ:=ai z4;clear h4 i4 z4
  go_wp2_with fail
  exact ⟨rfl,_,(aa I1.out (aa I2.out (aa I3.out (aa I4.out (ah HZ.out _))))),oS HZ.out HP.out⟩
 have H4:=ai h4;clear h4 i4 z4
 go_wp2_with fail
 refine (bm H4.out (by omega) (by kernel_rfl)).mono ?_;rintro e w5 ⟨d5,i5,o5⟩;have I5:=ai i5
 rcases o5 with ⟨z5,rfl,h5⟩|⟨z5,rfl,h5⟩
 rotate_left
 ·have HP:=ai h5;have HZ:=ai z5;clear h5 i5 z5
  go_wp2_with fail
  exact ⟨rfl,_,(aa I1.out (aa I2.out (aa I3.out (aa I4.out (aa I5.out (ah HZ.out _)))))),oS HZ.out HP.out⟩
 have H5:=ai h5;clear h5 i5 z5;obtain ⟨ve,hs,_,_⟩:=H5.out.sv.ex;obtain ⟨c0,c1,c2,c3⟩:=hs.cells;have hgl:=hs.lt;have IB:=show Hid _ from ((aa I1.out (aa I2.out (aa I3.out (aa I4.out (aa I5.out aE))))):Rb (aF X.l) bY d d5)
 clear hs
 by_cases hi:d5.i<(aF X.l).length
 ·have q1:((ps X.l d5.i:Int)<X.l.length):=by have:=yS.2 hi;omega
  have HR:Hid (∀V,Rc w5 V->Ra 155 #[pg X.g] V fun e w'=>e=.panicked (stop 120 (ps X.l d5.i))/\Below X.w0.heap.size X.w0 w'):=fun V hb=>(oL (H5.out.below hb).sv).mono (fun e w' ⟨h1,h2⟩=>⟨by rw [h1,Eq (by have:=yS.2 hi;omega)],(H5.out.below hb).sv.bel.trans (h2.mono (H5.out.below hb).sv.bel.size)⟩)
  have HB:Hid (∀m,Rc w5 (w5.drewN m)):=fun m=>fm (hH _ _) m
  have HI:=ai hi;clear hi
  go_wp2_with fail
  go_quiet (fail)
  go_wp2_with fail
  refine (HR.out _ (HB.out _)).mono ?_;rintro e w9 ⟨rfl,hb9⟩;have HB9:=ai hb9;clear hb9
  go_wp2_with fail
  exact ⟨rfl,_,IB.out,.inr ⟨fun _=>HI.out,by rw [IO H5.out.e0],HB9.out⟩⟩
 ·have q1:¬((ps X.l d5.i:Int)<X.l.length):=(fun hn:¬ps X.l d5.i<X.l.length=>by omega) (fun h=>hi (yS.1 h));have HB:Hid (∀m,SD X 0 d5 (w5.drewN m)):=fun m=>H5.out.below (fm (hH _ _) m)
  have HI:Hid (d5.i=(aF X.l).length):=by have:=H5.out.il;show _=_;omega
  clear hi
  go_wp2_with fail
  go_quiet (fail)
  go_wp2_with fail
  go_end0
  exact ⟨_,IB.out,.inl ⟨H5.out.e0,HI.out,rfl,HB.out _⟩⟩
end Go.Proofs.YtjiepkenkcgkhaaGreatDoor
