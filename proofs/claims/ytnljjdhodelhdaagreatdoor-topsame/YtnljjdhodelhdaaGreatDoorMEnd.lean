import Derived.Test.YtnljjdhodelhdaaGreatDoorTie
import Derived.Test.YtnljjdhodelhdaaGreatDoorCards
import Derived.LaidHandle
import Derived.LaidSub
import Derived.LaidLaws
import Derived.Test.YtnljjdhodelhdaaGreatDoorM40
import Derived.Test.YtnljjdhodelhdaaGreatDoorM41
import Derived.Test.YtnljjdhodelhdaaGreatDoorM42
set_option linter.unusedVariables false
set_option linter.unusedSimpArgs false
namespace Go.Proofs.YtnljjdhodelhdaaGreatDoor
open Go.ChangeShapes Go.WideShapes Go.ChangeAt Go.RowKit
open Go.ChangeMaps (open_string shut_string)
abbrev Lf:List (String × DataW Unit):=[("colophon/width.spans",Rows.laid_colophon_width_spans),("unicode/utf8.acceptRanges",Rows.laid_unicode_utf8_acceptRanges),("errors.errorType",Rows.laid_errors_errorType),("colophon/class.spans",Rows.laid_colophon_class_spans),("colophon/class.words",Rows.laid_colophon_class_words),("colophon/class.signs",Rows.laid_colophon_class_signs),("unicode/utf8.first",Rows.laid_unicode_utf8_first)]
abbrev PR:List (String × DataW Unit):=[("colophon/width.spans",Rows.laid_colophon_width_spans),("unicode/utf8.acceptRanges",Rows.laid_unicode_utf8_acceptRanges),("colophon/class.spans",Rows.laid_colophon_class_spans),("colophon/class.words",Rows.laid_colophon_class_words),("colophon/class.signs",Rows.laid_colophon_class_signs),("unicode/utf8.first",Rows.laid_unicode_utf8_first)]
theorem sM {P:Program}{w0:World}{laid:List (String × DataW Unit)}(args:Array Value) (hf:w0.layFits P laid []=true) (hi:w0.layIfaces P laid (w0.layVars P laid)=true) :
  laidMet P laid ((w0.layVars P laid).forCall (fun _ _=>0) ⟨#[],args,[]⟩).memory:=by
 have e1:(laid.filter fun x=>(laid.map (·.1)).contains x.1)=laid:=List.filter_eq_self.2 fun x hx=>List.contains_iff_mem.2 (TE.2 ⟨x,hx,rfl⟩)
 have e2:(laid.filter fun x=>!(laid.map (·.1)).contains x.1)=[]:=List.filter_eq_nil_iff.2 fun x hx=>by rw [List.contains_iff_mem.2 (TE.2 ⟨x,hx,rfl⟩)];simp
 have h:laidMet P laid (w0.layVars P laid):=laidMet_layVars (w0:=w0) (laid.map (·.1)) [] (by rw [e1]) (by rw [e1];exact hf) (by rw [e1];exact hi) (by rw [e2];exact LaidIn.none);exact h.of_heap (by simp [World.memory,World.forCall,Input.heap])
theorem OV:Tryz.prog.globalNamed "errors.errorType"=some 0:=by kernel_rfl
theorem OU:(Tryz.prog.cutTypes.find? (·.1 == "internal/reflectlite.rtype")).map (·.2)=some 206:=by kernel_rfl
theorem JX:Tryz.prog.types.size=312:=by kernel_rfl
theorem M3:((List.range 312).filter fun t=>Tryz.prog.rowNamed t [101,114,114,111,114])=[24]:=by kernel_rfl
theorem vV {W:World}(h:laidMetH Tryz.prog Lf W):mM W:=by
 have hx:("errors.errorType",Rows.laid_errors_errorType)∈Lf.filter fun x=>x.2.handleName?.isSome:=by
  refine VB.2 ⟨.tail _ (.tail _ (.head _)),by kernel_rfl⟩
 have h':handlesMet Tryz.prog (Lf.filter fun x=>x.2.handleName?.isSome) W:=by
  unfold laidMetH at h
  revert h hx
  generalize (Lf.filter fun x=>x.2.handleName?.isSome)=fl
  intro h hx;cases fl with
  |nil=>cases hx
  |cons a r=>exact h.2
 obtain ⟨name,u,ty,e1,e2,e3,e4,e5⟩:=h' _ hx;have en:name=[101,114,114,111,114]:=(RJ e1).symm;subst en;obtain rfl:=RJ (OU.symm.trans e2);have hm:ty∈(List.range 312).filter fun t=>Tryz.prog.rowNamed t [101,114,114,111,114]:=VB.2 ⟨List.mem_range.2 (by rw [<-JX];exact e3),e4⟩
 rw [M3] at hm;obtain rfl:=ST.1 hm;have hh:typeHandle Tryz.prog 24=gK 24:=by kernel_rfl
 rw [hh] at e5
 simpa [mM] using T9 OV e5 0
theorem uj:ownKnob Tryz.prog.godebug=none:=by kernel_rfl
set_option maxRecDepth 100000 in
theorem ot (os:Os) (started:os.Started) (H:Type) (enc:TypeId × Value->H) :
  ReturnsInHanded {} Tryz.checked os 3 .any (fun w args=>(Rows.topSameSpec.pre enc Tryz.prog Tryz.f3 Rows.topSameRow.domain false w args/\laidMetH Tryz.prog Lf w)/\sizedMet enc Tryz.prog Tryz.f3 (OpenSpec.ofChange Rows.topSameSpec) false w args)
   (Rows.topSameSpec.post enc Tryz.prog Tryz.f3 false true false false):=by
 refine returnsInHanded_of_change_and (C:=Tryz.checked) (X:=fun w _=>laidMetH Tryz.prog Lf w) (fun _ _ _ hh h=>h.of_heap hh) uj started (by kernel_rfl) VD
  (ChangeSpec.witness_shaped (enc:=enc) (C:=Tryz.checked) (os:=os) (X:=fun w _=>laidMetH Tryz.prog Lf w) false (((World.holding Tryz.prog os ⟨#[],#[],[]⟩).setCell ⟨0,0,none⟩ (.iface 206 (.agg #[gK 24]))).layVars Tryz.prog PR) #[.string ByteArray.empty,.int .i64 0,.int .i64 0] 8 (World.layVars_os _ _ _)
   (World.shaped_of_ZipB (by kernel_rfl) (by kernel_rfl)) (by kernel_rfl) (by kernel_rfl) (by kernel_rfl)
   (laidMetH_of_parts (sM _ (by kernel_rfl) (by kernel_rfl)) (by kernel_rfl))) ?_
 intro W base args ds gs before hval0 hW hc _ hL _;have hval:∀(j:Nat) t v,Tryz.f3.params[j]?=some t->args[j]?=some v->Value.okWide Tryz.prog W .any base t v:=hval0;have hW':=hW;obtain ⟨p,q,hA0,hV,rfl,_,_⟩:=hW;have hA:DataW.TrodAll enc Tryz.prog W 0 (fun _=>true) true Tryz.f3.params.toList args.toList ds p:=hA0;rw [Tryz.params3] at hA hval;obtain ⟨v0,v1,v2,d0,d1,d2,p0,p1,p2,rfl,rfl,rfl,h0,h1,h2⟩:=trodAll_three hA;obtain ⟨rfl,rfl⟩:=trodVars_none hV;obtain ⟨a0,rfl,rfl,rfl,w0⟩:=open_string RO (hval 0 9 v0 rfl rfl) h0;obtain ⟨a1,rfl,rfl,rfl,w1⟩:=open_int RM (hval 1 3 v1 rfl rfl) h1;obtain ⟨a2,rfl,rfl,rfl,w2⟩:=open_int RM (hval 2 3 v2 rfl rfl) h2;clear hA0 hval0
 have hP:laidMetH Tryz.prog PR W:=by
  have h9:=hL.filter (fun x=>x.2.handleName?.isNone);have e9:Lf.filter (fun x=>x.2.handleName?.isNone)=PR:=by kernel_rfl
  rw [e9] at h9;exact h9
 refine (AN a0 a1 a2 w0 W (Lx.vC (by kernel_rfl) (by exact .tail _ (.tail _ (.head _))) (by exact .tail _ (.tail _ (.tail _ (.head _)))) (by exact .tail _ (.tail _ (.tail _ (.tail _ (.head _))))) hP) (Lw.ur (by kernel_rfl) (by exact .head _) hP) (vV hL)).mono fun e W' ⟨he,bel⟩=>?_
 subst he;exact ⟨_,rfl,_,_,_,[],_,[],hW',trodAll_mk1 (shut_bool SX _),(trodAll_mk3 (shut_string RO w0) (shut_int RM w1) (shut_int RM w2)),rfl,bel.frame _,fun h=>by cases h⟩
theorem qm:Rows.TopSameSaid:=
 OpenClaim.holds_of_wide 3 Tryz.f3 rfl rfl rfl rfl rfl rfl rfl ⟨rfl,rfl,rfl,rfl,rfl⟩ rfl rfl rfl rfl rfl (by kernel_rfl) VD Fq
  (RE (by kernel_rfl)) (by unfold Func.isWrapper;first|(rw [IO (by decide +kernel)];kernel_rfl)|(rw [Eq (by decide +kernel)];exact ⟨rfl,rfl⟩))
  (fun os started H enc _=>ot os started H enc)
theorem topSame_card:Rows.TopSameCardSaid:=
 Claim7.holds_tied_plain_at .later [] [.data,.data,.handle,.data,.data,.data,.pinned] true (true, "2cc34379e11bef35ae62c27b875ef521c90dd4aa68942605d95b72676eca8106") true
  qm (fun _ h=>by cases h) OT (fun _ h=>by cases h) topSame_row_tie rfl ⟨rfl,rfl⟩ OS rfl
  (fun f fn hf hfn=>by
   obtain rfl:f=3:=RJ ((show Tryz.prog.funcNamed "colophon/colophontop.TopSame"=some 3 by kernel_rfl).symm.trans hf) |>.symm
   obtain rfl:fn=Tryz.f3:=(RJ (Tryz.func3.symm.trans hfn)).symm
   exact ⟨OR,fun j t ht=>by
    rw [Tryz.params3] at ht;have hm:t∈[9,3]:=by simpa using Array.mem_of_getElem? ht
    have hall:([9,3].all fun u=>!Tryz.prog.wantsStandIn u)=true:=by kernel_rfl
    exact (show Tryz.prog.wantsStandIn t=false by simpa using TY.1 hall t hm)⟩)
  OQ
#print axioms topSame_card
end Go.Proofs.YtnljjdhodelhdaaGreatDoor
