import Derived.Test.YtacohdpndpliaaaGreatDoorM23
set_option linter.all false
namespace Go.Proofs.YtacohdpndpliaaaGreatDoor
open Go.RowKit
variable {X:Sx}{W:World}
structure Qi (n:Nat):Prop where
 r_block:bH 100 pE 40 n
 r_variables:bH 259 fK 90 n
 r_constant:bH 260 gn 90 n
 r_procedure:bH 261 fM 90 n
 r_params:bH 336 lR 90 n
 r_typed:bH 334 gN 90 n
 r_array:bH 386 iN 90 n
 r_record:bH 387 gO 90 n
 r_body:bH 185 gu 45 n
 r_skip:bH 339 nP 90 n
 r_act:bH 338 pF 90 n
 r_branch:bH 389 lS 45 n
 r_done:bH 390 nR 90 n
 r_branches:bH 340 gr 90 n
 r_while:bH 341 kH 90 n
 r_count:bH 342 kL 90 n
 r_repeat:bH 343 jq 90 n
 r_answer:bH 344 jr 90 n
 r_compound:bH 345 gq 90 n
 r_expr:bH 335 dv 50 n
 r_rel:bH 385 sU 55 n
 r_sum:bH 406 sS 60 n
 r_term:bH 415 nO 65 n
 r_minus:bH 420 kI 90 n
 r_not:bH 419 sV 90 n
 r_group:bH 421 kK 90 n
 r_object:bH 388 gP 95 n
 r_list:bH 425 nQ 45 n
 r_index:bH 416 kJ 90 n
 r_selection:bH 417 fL 90 n
 r_args:bH 418 nS 90 n
theorem Nk (n:Nat):Qi n:=by
 induction n using Nat.strongRecOn with
 |ind n ih=>
  have FA:∀k,k<n->PC .factor 408 k:=fun k hk=>rA k (ih k hk).r_minus (ih k hk).r_not (ih k hk).r_group (ih k hk).r_object
  have KA:∀k,k<n->PC .kind 337 k:=fun k hk=>Jl k (ih k hk).r_array (ih k hk).r_record
  have SA:∀k,k<n->PC .statement 263 k:=fun k hk=>ki k (ih k hk).r_act (ih k hk).r_skip (ih k hk).r_branches (ih k hk).r_while (ih k hk).r_count (ih k hk).r_repeat (ih k hk).r_answer (ih k hk).r_compound
  have DA:∀k,k<n->PD .detail 407 k:=fun k hk=>Cf k (ih k hk).r_index (ih k hk).r_selection (ih k hk).r_args
  have object:=BA n (hdetailA:=DA);have minus:=EF n (hfactorA:=FA);have not:=Mf n (hfactorA:=FA);have group:=E5 n (hexprA:=(fun k hk=>(ih k hk).r_expr));have factorN:=rA n minus not group object;have term:=Hc n (hfactor:=factorN) (hfactorA:=FA);have sum:=LE n (hterm:=term) (htermA:=(fun k hk=>(ih k hk).r_term));have rel:=LZ n (hsum:=sum) (hsumA:=(fun k hk=>(ih k hk).r_sum));have expr:=JJ n (hrel:=rel) (hrelA:=(fun k hk=>(ih k hk).r_rel));have list:=Jg n (hexpr:=expr) (hexprA:=(fun k hk=>(ih k hk).r_expr));have index:=EW n (hlistA:=(fun k hk=>(ih k hk).r_list));have selection:=rZ n;have args:=Kk n (hlistA:=(fun k hk=>(ih k hk).r_list));have typed:=C1 n (hkindA:=KA);have array:=Gu n (hexprA:=(fun k hk=>(ih k hk).r_expr)) (hkindA:=KA);have record:=Ba n (htypedA:=(fun k hk=>(ih k hk).r_typed));have params:=By n (htypedA:=(fun k hk=>(ih k hk).r_typed));have variables:=rP n (htypedA:=(fun k hk=>(ih k hk).r_typed));have constant:=wn n (hexprA:=(fun k hk=>(ih k hk).r_expr));have act:=Nm n (hobject:=object) (hexprA:=(fun k hk=>(ih k hk).r_expr));have branch:=Ct n (hexpr:=expr) (hbodyA:=(fun k hk=>(ih k hk).r_body));have done:=JT n (hbodyA:=(fun k hk=>(ih k hk).r_body));have branches:=wE n (hbranchA:=(fun k hk=>(ih k hk).r_branch)) (hbodyA:=(fun k hk=>(ih k hk).r_body));have «while»:=CV n (hexprA:=(fun k hk=>(ih k hk).r_expr)) (hdoneA:=(fun k hk=>(ih k hk).r_done));have count:=FT n (hexprA:=(fun k hk=>(ih k hk).r_expr)) (hdoneA:=(fun k hk=>(ih k hk).r_done));have «repeat»:=A9 n (hbodyA:=(fun k hk=>(ih k hk).r_body)) (hexprA:=(fun k hk=>(ih k hk).r_expr));have answer:=CD n (hexprA:=(fun k hk=>(ih k hk).r_expr));have compound:=wq n (hbodyA:=(fun k hk=>(ih k hk).r_body));have skip:=Hy n;have statementN:=ki n act skip branches «while» count «repeat» answer compound;have body:=J7 n (hstatement:=statementN) (hstatementA:=SA);have procedure:=sx n (hparamsA:=(fun k hk=>(ih k hk).r_params)) (hkindA:=KA) (hblockA:=(fun k hk=>(ih k hk).r_block));have declarationN:=qb n variables constant procedure;have block:=Gc n (hdeclaration:=declarationN) (hbodyA:=(fun k hk=>(ih k hk).r_body));exact ⟨block,variables,constant,procedure,params,typed,array,record,body,skip,act,branch,done,branches,«while»,count,«repeat»,answer,compound,expr,rel,sum,term,minus,not,group,object,list,index,selection,args⟩
def Pr (X:Sx) (d:D) (e:Ending) (w:World):Prop:=(d.e=0/\d.i=(aF X.l).length/\e=.returned (.tuple #[])/\SD X 0 d w)\/((d.e=0->d.i<(aF X.l).length)/\e=.panicked (stop (if d.e=0 then 120 else d.e) (ps X.l d.i))/\Below X.w0.heap.size X.w0 w)
theorem pe {d:D}{w:World}(hz:d.e≠0) (hb:Below X.w0.heap.size X.w0 w):Pr X d (.panicked (stop d.e (ps X.l d.i))) w:=.inr ⟨fun h=>absurd h hz,by rw [Eq hz],hb⟩
def OU (X:Sx):Nat->List Ev:=fun j=>(qC X.l j).map ka
theorem DC (h:dP X (0+(bB (X.l.drop 0)).length) 1 ([⟨1,1,aB⟩]++(bB (X.l.drop 0)).map ka) W):SD X 1 (ep 1 (tD (OU X))) W:=by
 rw [KV];rw [List.drop_zero,QG] at h;refine ⟨?_,rfl,Qw _,rfl,by simp,by simp,?_⟩
 ·show dP X (ps X.l 0) 1 (nY X _) W
  rw [ny];have:nY X ⟨0,[(1,1)],1,[],0,[⟨1,1,aB⟩],OU X⟩=[⟨1,1,aB⟩]++(bB X.l).map ka:=by simp [nY]
  rw [this];exact h
 ·simp [nY,ny];omega
set_option maxHeartbeats 2000000 in
theorem xA (h:dP X 0 1 [⟨1,1,aB⟩] W) :
  Qu 41 #[pg X.g] W fun e w'=>∃d,Rb (aF X.l) ce (ep 1 (tD (OU X))) d/\Pr X d e w':=by
 have hmf:=mkfn;have HC:Hid (Qu 96 #[pg X.g] W fun e w'=>e=.returned (.tuple #[])/\dP X (0+(bB (X.l.drop 0)).length) 1 ([⟨1,1,aB⟩]++(bB (X.l.drop 0)).map ka) w'):=kU h (Qw _) (by have:=h.hl;simp;omega);have HS:Hid (∀w,dP X (0+(bB (X.l.drop 0)).length) 1 ([⟨1,1,aB⟩]++(bB (X.l.drop 0)).map ka) w->SD X 1 (ep 1 (tD (OU X))) w):=fun w hw=>DC hw
 obtain ⟨d,hd⟩:∃d,ep 1 (tD (OU X))=d:=⟨_,rfl⟩;rw [hd] at HS ⊢;clear h hd
 go_enter Tryz.func41,Tryz.ntmps41
 go_wp2_with fail
 refine HC.out.mono ?_;rintro e w0 ⟨rfl,h0⟩;have H0:=show Hid _ from HS.out _ h0
 clear h0 HC HS
 go_wp2_with fail
 refine (bU H0.out (by omega) (by kernel_rfl)).mono ?_;rintro e w1 ⟨d1,i1,o1⟩;have I1:=ai i1
 rcases o1 with ⟨z1,rfl,h1⟩|⟨z1,rfl,h1⟩
 all_goals(have H1:=ai h1;have HZ:=ai z1;clear h1 i1 z1;go_wp2_with fail)
 rotate_left
 ·exact ⟨rfl,_,(aa I1.out (ah HZ.out _)),pe HZ.out H1.out⟩
 refine (fJ H1.out (by omega)).mono ?_;rintro e w2 ⟨d2,i2,o2⟩;have I2:=ai i2
 rcases o2 with ⟨z2,rfl,h2⟩|⟨z2,rfl,h2⟩
 all_goals(have H2:=ai h2;have HZ:=ai z2;clear h2 i2 z2;go_wp2_with fail)
 rotate_left
 ·exact ⟨rfl,_,(aa I1.out (aa I2.out (ah HZ.out _))),pe HZ.out H2.out⟩
 refine (bp H2.out (by omega) (by kernel_rfl)).mono ?_;rintro e w3 ⟨d3,i3,o3⟩;have I3:=ai i3
 rcases o3 with ⟨z3,rfl,h3⟩|⟨z3,rfl,h3⟩
 all_goals(have H3:=ai h3;have HZ:=ai z3;clear h3 i3 z3;go_wp2_with fail)
 rotate_left
 ·exact ⟨rfl,_,(aa I1.out (aa I2.out (aa I3.out (ah HZ.out _)))),pe HZ.out H3.out⟩
 refine (aP H3.out (by omega) (by omega) (gt _) (Nk (ms (aF X.l) d3)).r_block iP rfl (fun d' hh=>aT (m:=.block) rfl hh)).mono ?_;rintro e w4 ⟨d4,i4,o4⟩;have I4:=ai i4
 rcases o4 with ⟨z4,rfl,h4⟩|⟨z4,rfl,h4⟩
 all_goals(have H4:=ai h4;have HZ:=ai z4;clear h4 i4 z4;go_wp2_with fail)
 rotate_left
 ·exact ⟨rfl,_,(aa I1.out (aa I2.out (aa I3.out (aa I4.out (ah HZ.out _))))),pe HZ.out H4.out⟩
 refine (bp H4.out (by omega) (by kernel_rfl)).mono ?_;rintro e w5 ⟨d5,i5,o5⟩;have I5:=ai i5
 rcases o5 with ⟨z5,rfl,h5⟩|⟨z5,rfl,h5⟩
 rotate_left
 ·have HP:=ai h5;have HZ:=ai z5;clear h5 i5 z5
  go_wp2_with fail
  exact ⟨rfl,_,(aa I1.out (aa I2.out (aa I3.out (aa I4.out (aa I5.out (ah HZ.out _)))))),pe HZ.out HP.out⟩
 have H5:=ai h5;clear h5 i5 z5;obtain ⟨ve,hs,_,_⟩:=H5.out.sv.ex;obtain ⟨c0,c1,c2,c3⟩:=hs.cells;have hgl:=hs.lt;have IB:=show Hid _ from ((aa I1.out (aa I2.out (aa I3.out (aa I4.out (aa I5.out aE))))):Rb (aF X.l) ce d d5)
 clear hs
 by_cases hi:d5.i<(aF X.l).length
 ·have q1:((ps X.l d5.i:Int)<X.l.length):=by have:=yW.2 hi;omega
  have HR:Hid (∀V,Qv w5 V->Qu 101 #[pg X.g] V fun e w'=>e=.panicked (stop 120 (ps X.l d5.i))/\Below X.w0.heap.size X.w0 w'):=fun V hb=>(oY (H5.out.below hb).sv).mono (fun e w' ⟨h1,h2⟩=>⟨by rw [h1,Eq (by have:=yW.2 hi;omega)],(H5.out.below hb).sv.bel.trans (h2.mono (H5.out.below hb).sv.bel.size)⟩)
  have HB:Hid (∀m,Qv w5 (w5.drewN m)):=fun m=>fo (hH _ _) m
  have HI:=ai hi;clear hi
  go_wp2_with fail
  go_quiet (fail)
  go_wp2_with fail
  refine (HR.out _ (HB.out _)).mono ?_;rintro e w9 ⟨rfl,hb9⟩;have HB9:=ai hb9;clear hb9
  go_wp2_with fail
  exact ⟨rfl,_,IB.out,.inr ⟨fun _=>HI.out,by rw [IO H5.out.e0],HB9.out⟩⟩
 ·have q1:¬((ps X.l d5.i:Int)<X.l.length):=(fun hn:¬ps X.l d5.i<X.l.length=>by omega) (fun h=>hi (yW.1 h));have HB:Hid (∀m,SD X 0 d5 (w5.drewN m)):=fun m=>H5.out.below (fo (hH _ _) m)
  have HI:Hid (d5.i=(aF X.l).length):=by have:=H5.out.il;show _=_;omega
  clear hi
  go_wp2_with fail
  go_quiet (fail)
  go_wp2_with fail
  go_end0
  exact ⟨_,IB.out,.inl ⟨H5.out.e0,HI.out,rfl,HB.out _⟩⟩
end Go.Proofs.YtacohdpndpliaaaGreatDoor
