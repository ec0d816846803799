import Derived.Test.YtcjiapphbpiffaaGreatDoorTie
import Derived.Test.YtcjiapphbpiffaaGreatDoorCards
import Derived.LaidHandle
import Derived.LaidSub
import Derived.LaidLaws
import Derived.Test.YtcjiapphbpiffaaGreatDoorM41
import Derived.Test.YtcjiapphbpiffaaGreatDoorM42
import Derived.Test.YtcjiapphbpiffaaGreatDoorM43
set_option linter.unusedVariables false
set_option linter.unusedSimpArgs false
namespace Go.Proofs.YtcjiapphbpiffaaGreatDoor
open Go.ChangeShapes Go.WideShapes Go.ChangeAt Go.RowKit
open Go.ChangeMaps (open_string shut_string)
abbrev MB:List (String × DataW Unit):=[("colophon/width.spans",Rows.laid_colophon_width_spans),("unicode/utf8.acceptRanges",Rows.laid_unicode_utf8_acceptRanges),("errors.errorType",Rows.laid_errors_errorType),("colophon/class.spans",Rows.laid_colophon_class_spans),("colophon/class.words",Rows.laid_colophon_class_words),("colophon/class.signs",Rows.laid_colophon_class_signs),("unicode/utf8.first",Rows.laid_unicode_utf8_first)]
abbrev Rk:List (String × DataW Unit):=[("colophon/width.spans",Rows.laid_colophon_width_spans),("unicode/utf8.acceptRanges",Rows.laid_unicode_utf8_acceptRanges),("colophon/class.spans",Rows.laid_colophon_class_spans),("colophon/class.words",Rows.laid_colophon_class_words),("colophon/class.signs",Rows.laid_colophon_class_signs),("unicode/utf8.first",Rows.laid_unicode_utf8_first)]
theorem tL {P:Program}{w0:World}{C:List (String × DataW Unit)}(args:Array Value) (I:w0.layFits P C []=true) (J:w0.layIfaces P C (w0.layVars P C)=true) :
  laidMet P C ((w0.layVars P C).forCall (fun _ _=>0) ⟨#[],args,[]⟩).memory:=by
 have F:(C.filter fun x=>(C.map (·.1)).contains x.1)=C:=List.filter_eq_self.2 fun x G=>List.contains_iff_mem.2 (UV.2 ⟨x,G,rfl⟩)
 have H:(C.filter fun x=>!(C.map (·.1)).contains x.1)=[]:=List.filter_eq_nil_iff.2 fun x G=>by rw [List.contains_iff_mem.2 (UV.2 ⟨x,G,rfl⟩)];simp
 have h:laidMet P C (w0.layVars P C):=laidMet_layVars (w0:=w0) (C.map (·.1)) [] (by rw [F]) (by rw [F];exact I) (by rw [F];exact J) (by rw [H];exact LaidIn.none);exact h.of_heap (by simp [World.memory,World.forCall,Input.heap])
theorem Qo:Tryz.prog.globalNamed "errors.errorType"=some 0:=by kernel_rfl
theorem Qn:(Tryz.prog.cutTypes.find? (·.1 == "internal/reflectlite.rtype")).map (·.2)=some 197:=by kernel_rfl
theorem K0:Tryz.prog.types.size=322:=by kernel_rfl
theorem Ot:((List.range 322).filter fun t=>Tryz.prog.rowNamed t [101,114,114,111,114])=[24]:=by kernel_rfl
theorem wS {W:World}(h:laidMetH Tryz.prog MB W):nu W:=by
 have F:("errors.errorType",Rows.laid_errors_errorType)∈MB.filter fun x=>x.2.handleName?.isSome:=by
  refine List.mem_filter.2 ⟨.tail _ (.tail _ (.head _)),by kernel_rfl⟩
 have Q:handlesMet Tryz.prog (MB.filter fun x=>x.2.handleName?.isSome) W:=by
  unfold laidMetH at h
  revert h F
  generalize (MB.filter fun x=>x.2.handleName?.isSome)=fl
  intro h F;cases fl with
  |nil=>cases F
  |cons a r=>exact h.2
 obtain ⟨C,u,U,I,J,M,O,G⟩:=Q _ F;have en:C=[101,114,114,111,114]:=(TE I).symm;subst en;obtain rfl:=TE (Qn.symm.trans J);have H:U∈(List.range 322).filter fun t=>Tryz.prog.rowNamed t [101,114,114,111,114]:=List.mem_filter.2 ⟨List.mem_range.2 (by rw [<-K0];exact M),O⟩
 rw [Ot] at H;obtain rfl:=UE.1 H;have S:typeHandle Tryz.prog 24=g8 24:=by kernel_rfl
 rw [S] at G
 simpa [nu] using VE Qo G 0
theorem qO:ownKnob Tryz.prog.godebug=none:=by kernel_rfl
set_option maxRecDepth 100000 in
theorem lW (os:Os) (J:os.Started) (H:Type) (enc:TypeId × Value->H) :
  ReturnsInHanded {} Tryz.checked os 3 .any (fun w F=>(Rows.notesStaySpec.pre enc Tryz.prog Tryz.f3 Rows.notesStayRow.domain false w F/\laidMetH Tryz.prog MB w)/\sizedMet enc Tryz.prog Tryz.f3 (OpenSpec.ofChange Rows.notesStaySpec) false w F)
   (Rows.notesStaySpec.post enc Tryz.prog Tryz.f3 false true false false):=by
 refine returnsInHanded_of_change_and (C:=Tryz.checked) (X:=fun w _=>laidMetH Tryz.prog MB w) (fun _ _ _ hh h=>h.of_heap hh) qO J (by kernel_rfl) Tryz.func3
  (ChangeSpec.witness_shaped (enc:=enc) (C:=Tryz.checked) (os:=os) (X:=fun w _=>laidMetH Tryz.prog MB w) false (((World.holding Tryz.prog os ⟨#[],#[],[]⟩).setCell ⟨0,0,none⟩ (.iface 197 (.agg #[g8 24]))).layVars Tryz.prog Rk) #[.int .i64 0,.string ByteArray.empty] 8 (World.layVars_os _ _ _)
   (World.shaped_of_ZipB (by kernel_rfl) (by kernel_rfl)) (by kernel_rfl) (by kernel_rfl) (by kernel_rfl)
   (laidMetH_of_parts (tL _ (by kernel_rfl) (by kernel_rfl)) (by kernel_rfl))) ?_
 intro W base F ds gs O I hW hc _ Z _;have G:∀(j:Nat) t v,Tryz.f3.params[j]?=some t->F[j]?=some v->Value.okWide Tryz.prog W .any base t v:=I;have S:=hW;obtain ⟨p,q,M,hV,rfl,_,_⟩:=hW;have Y:DataW.TrodAll enc Tryz.prog W 0 (fun _=>true) true Tryz.f3.params.toList F.toList ds p:=M;rw [Tryz.params3] at Y G;obtain ⟨v0,v1,d0,d1,p0,p1,rfl,rfl,rfl,h0,h1⟩:=trodAll_two Y;obtain ⟨rfl,rfl⟩:=trodVars_none hV;obtain ⟨a0,rfl,rfl,rfl,w0⟩:=open_int TO (G 0 3 v0 rfl rfl) h0;obtain ⟨a1,rfl,rfl,rfl,w1⟩:=open_string TH (G 1 9 v1 rfl rfl) h1;clear M I
 have hP:laidMetH Tryz.prog Rk W:=by
  have U:=Z.filter (fun x=>x.2.handleName?.isNone);have e9:MB.filter (fun x=>x.2.handleName?.isNone)=Rk:=by kernel_rfl
  rw [e9] at U;exact U
 refine (qP a0 a1 w1 W (Lx.ww (by kernel_rfl) (by exact .tail _ (.tail _ (.head _))) (by exact .tail _ (.tail _ (.tail _ (.head _)))) (by exact .tail _ (.tail _ (.tail _ (.tail _ (.head _))))) hP) (Lw.vf (by kernel_rfl) (by exact .head _) hP) (wS Z)).mono fun e W' ⟨he,Q⟩=>?_
 subst he;exact ⟨_,rfl,_,_,_,[],_,[],S,trodAll_mk1 (shut_bool UG _),(trodAll_mk2 (shut_int TO w0) (shut_string TH w1)),rfl,Q.frame _,fun h=>by cases h⟩
theorem nh:Rows.NotesStaySaid:=
 OpenClaim.holds_of_wide 3 Tryz.f3 rfl rfl rfl rfl rfl rfl rfl ⟨rfl,rfl,rfl,rfl,rfl⟩ rfl rfl rfl rfl rfl (by kernel_rfl) Tryz.func3 CC
  (TI (by kernel_rfl)) (by unfold Func.isWrapper;first|(rw [IO (by decide +kernel)];kernel_rfl)|(rw [Eq (by decide +kernel)];exact ⟨rfl,rfl⟩))
  (fun F C H enc _=>lW F C H enc)
theorem notesStay_card:Rows.NotesStayCardSaid:=
 Claim7.holds_tied_plain_at .later [] [.data,.data,.handle,.data,.data,.data,.pinned] true (true, "b7529a756887dccfb87315042dc5e3a9041c8603ebc32389f42a3684baa4baac") true
  nh (fun _ h=>by cases h) NZ (fun _ h=>by cases h) notesStay_row_tie rfl ⟨rfl,rfl⟩ NY rfl
  (fun f G H F=>by
   obtain rfl:f=3:=TE ((show Tryz.prog.funcNamed "colophon/colophonlaw19.NotesStay"=some 3 by kernel_rfl).symm.trans H) |>.symm
   obtain rfl:G=Tryz.f3:=(TE (Tryz.func3.symm.trans F)).symm
   exact ⟨NX,fun j t ht=>by
    rw [Tryz.params3] at ht;have I:t∈[3,9]:=by simpa using Array.mem_of_getElem? ht
    have C:([3,9].all fun u=>!Tryz.prog.wantsStandIn u)=true:=by kernel_rfl
    exact (show Tryz.prog.wantsStandIn t=false by simpa using Vu.1 C t I)⟩)
  NW
#print axioms notesStay_card
end Go.Proofs.YtcjiapphbpiffaaGreatDoor
