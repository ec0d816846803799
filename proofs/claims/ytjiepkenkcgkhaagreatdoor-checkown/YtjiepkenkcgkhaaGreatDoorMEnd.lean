import Derived.Test.YtjiepkenkcgkhaaGreatDoorTie
import Derived.Test.YtjiepkenkcgkhaaGreatDoorCards
import Derived.LaidHandle
import Derived.LaidSub
import Derived.LaidLaws
import Derived.Test.YtjiepkenkcgkhaaGreatDoorM41
import Derived.Test.YtjiepkenkcgkhaaGreatDoorM42
import Derived.Test.YtjiepkenkcgkhaaGreatDoorM43
set_option linter.unusedVariables false
set_option linter.unusedSimpArgs false
namespace Go.Proofs.YtjiepkenkcgkhaaGreatDoor
open Go.ChangeShapes Go.WideShapes Go.ChangeAt Go.RowKit
open Go.ChangeMaps (open_string shut_string)
abbrev KM:List (String × DataW Unit):=[("colophon/width.spans",Rows.laid_colophon_width_spans),("unicode/utf8.acceptRanges",Rows.laid_unicode_utf8_acceptRanges),("errors.errorType",Rows.laid_errors_errorType),("colophon/class.spans",Rows.laid_colophon_class_spans),("colophon/class.words",Rows.laid_colophon_class_words),("colophon/class.signs",Rows.laid_colophon_class_signs),("unicode/utf8.first",Rows.laid_unicode_utf8_first)]
abbrev Py:List (String × DataW Unit):=[("colophon/width.spans",Rows.laid_colophon_width_spans),("unicode/utf8.acceptRanges",Rows.laid_unicode_utf8_acceptRanges),("colophon/class.spans",Rows.laid_colophon_class_spans),("colophon/class.words",Rows.laid_colophon_class_words),("colophon/class.signs",Rows.laid_colophon_class_signs),("unicode/utf8.first",Rows.laid_unicode_utf8_first)]
theorem sG {P:Program}{w0:World}{laid:List (String × DataW Unit)}(args:Array Value) (hf:w0.layFits P laid []=true) (hi:w0.layIfaces P laid (w0.layVars P laid)=true) :
  laidMet P laid ((w0.layVars P laid).forCall (fun _ _=>0) ⟨#[],args,[]⟩).memory:=by
 have e1:(laid.filter fun x=>(laid.map (·.1)).contains x.1)=laid:=List.filter_eq_self.2 fun x hx=>List.contains_iff_mem.2 (Tm.2 ⟨x,hx,rfl⟩)
 have e2:(laid.filter fun x=>!(laid.map (·.1)).contains x.1)=[]:=List.filter_eq_nil_iff.2 fun x hx=>by rw [List.contains_iff_mem.2 (Tm.2 ⟨x,hx,rfl⟩)];simp
 have h:laidMet P laid (w0.layVars P laid):=laidMet_layVars (w0:=w0) (laid.map (·.1)) [] (by rw [e1]) (by rw [e1];exact hf) (by rw [e1];exact hi) (by rw [e2];exact LaidIn.none);exact h.of_heap (by simp [World.memory,World.forCall,Input.heap])
theorem Ow:Tryz.prog.globalNamed "errors.errorType"=some 0:=by kernel_rfl
theorem Ov:(Tryz.prog.cutTypes.find? (·.1 == "internal/reflectlite.rtype")).map (·.2)=some 189:=by kernel_rfl
theorem Jz:Tryz.prog.types.size=316:=by kernel_rfl
theorem MJ:((List.range 316).filter fun t=>Tryz.prog.rowNamed t [101,114,114,111,114])=[24]:=by kernel_rfl
theorem vK {W:World}(h:laidMetH Tryz.prog KM W):k9 W:=by
 have hx:("errors.errorType",Rows.laid_errors_errorType)∈KM.filter fun x=>x.2.handleName?.isSome:=by
  refine List.mem_filter.2 ⟨.tail _ (.tail _ (.head _)),by kernel_rfl⟩
 have h':handlesMet Tryz.prog (KM.filter fun x=>x.2.handleName?.isSome) W:=by
  unfold laidMetH at h
  revert h hx
  generalize (KM.filter fun x=>x.2.handleName?.isSome)=fl
  intro h hx;cases fl with
  |nil=>cases hx
  |cons a r=>exact h.2
 obtain ⟨name,u,ty,e1,e2,e3,e4,e5⟩:=h' _ hx;have en:name=[101,114,114,111,114]:=(Ry e1).symm;subst en;obtain rfl:=Ry (Ov.symm.trans e2);have hm:ty∈(List.range 316).filter fun t=>Tryz.prog.rowNamed t [101,114,114,111,114]:=List.mem_filter.2 ⟨List.mem_range.2 (by rw [<-Jz];exact e3),e4⟩
 rw [MJ] at hm;obtain rfl:=Sw.1 hm;have hh:typeHandle Tryz.prog 24=gJ 24:=by kernel_rfl
 rw [hh] at e5
 simpa [k9] using TV Ow e5 0
theorem tz:ownKnob Tryz.prog.godebug=none:=by kernel_rfl
set_option maxRecDepth 100000 in
theorem mO (os:Os) (started:os.Started) (H:Type) (enc:TypeId × Value->H) :
  ReturnsInHanded {} Tryz.checked os 3 .any (fun w args=>(Rows.checkOwnSpec.pre enc Tryz.prog Tryz.f3 Rows.checkOwnRow.domain false w args/\laidMetH Tryz.prog KM w)/\sizedMet enc Tryz.prog Tryz.f3 (OpenSpec.ofChange Rows.checkOwnSpec) false w args)
   (Rows.checkOwnSpec.post enc Tryz.prog Tryz.f3 false true false false):=by
 refine returnsInHanded_of_change_and (C:=Tryz.checked) (X:=fun w _=>laidMetH Tryz.prog KM w) (fun _ _ _ hh h=>h.of_heap hh) tz started (by kernel_rfl) Vn
  (ChangeSpec.witness_shaped (enc:=enc) (C:=Tryz.checked) (os:=os) (X:=fun w _=>laidMetH Tryz.prog KM w) false (((World.holding Tryz.prog os ⟨#[],#[],[]⟩).setCell ⟨0,0,none⟩ (.iface 189 (.agg #[gJ 24]))).layVars Tryz.prog Py) #[.int .i64 0,.string ByteArray.empty] 8 (World.layVars_os _ _ _)
   (World.shaped_of_ZipB (by kernel_rfl) (by kernel_rfl)) (by kernel_rfl) (by kernel_rfl) (by kernel_rfl)
   (laidMetH_of_parts (sG _ (by kernel_rfl) (by kernel_rfl)) (by kernel_rfl))) ?_
 intro W base args ds gs before hval0 hW hc _ hL _;have hval:∀(j:Nat) t v,Tryz.f3.params[j]?=some t->args[j]?=some v->Value.okWide Tryz.prog W .any base t v:=hval0;have hW':=hW;obtain ⟨p,q,hA0,hV,rfl,_,_⟩:=hW;have hA:DataW.TrodAll enc Tryz.prog W 0 (fun _=>true) true Tryz.f3.params.toList args.toList ds p:=hA0;rw [Tryz.params3] at hA hval;obtain ⟨v0,v1,d0,d1,p0,p1,rfl,rfl,rfl,h0,h1⟩:=trodAll_two hA;obtain ⟨rfl,rfl⟩:=trodVars_none hV;obtain ⟨a0,rfl,rfl,rfl,w0⟩:=open_int RE (hval 0 3 v0 rfl rfl) h0;obtain ⟨a1,rfl,rfl,rfl,w1⟩:=open_string Rz (hval 1 9 v1 rfl rfl) h1;clear hA0 hval0
 have hP:laidMetH Tryz.prog Py W:=by
  have h9:=hL.filter (fun x=>x.2.handleName?.isNone);have e9:KM.filter (fun x=>x.2.handleName?.isNone)=Py:=by kernel_rfl
  rw [e9] at h9;exact h9
 refine (FK a0 a1 w1 W (Lx.vg (by kernel_rfl) (by exact .tail _ (.tail _ (.head _))) (by exact .tail _ (.tail _ (.tail _ (.head _)))) (by exact .tail _ (.tail _ (.tail _ (.tail _ (.head _))))) hP) (Lw.uf (by kernel_rfl) (by exact .head _) hP) (vK hL)).mono fun e W' ⟨he,bel⟩=>?_
 subst he;exact ⟨_,rfl,_,_,_,[],_,[],hW',trodAll_mk1 (shut_bool SC _),(trodAll_mk2 (shut_int RE w0) (shut_string Rz w1)),rfl,bel.frame _,fun h=>by cases h⟩
theorem pU:Rows.CheckOwnSaid:=
 OpenClaim.holds_of_wide 3 Tryz.f3 rfl rfl rfl rfl rfl rfl rfl ⟨rfl,rfl,rfl,rfl,rfl⟩ rfl rfl rfl rfl rfl (by kernel_rfl) Vn FL
  (Rm (by kernel_rfl)) (by unfold Func.isWrapper;first|(rw [IO (by decide +kernel)];kernel_rfl)|(rw [Eq (by decide +kernel)];exact ⟨rfl,rfl⟩))
  (fun os started H enc _=>mO os started H enc)
theorem checkOwn_card:Rows.CheckOwnCardSaid:=
 Claim7.holds_tied_plain_at .later [] [.data,.data,.handle,.data,.data,.data,.pinned] true (true, "cc806e384e1616106cf5e8d6fecd13fd673b773dd36a0cd25d550884c9ad290b") true
  pU (fun _ h=>by cases h) OF (fun _ h=>by cases h) checkOwn_row_tie rfl ⟨rfl,rfl⟩ OE rfl
  (fun f fn hf hfn=>by
   obtain rfl:f=3:=Ry ((show Tryz.prog.funcNamed "colophon/colophonlaw18.CheckOwn"=some 3 by kernel_rfl).symm.trans hf) |>.symm
   obtain rfl:fn=Tryz.f3:=(Ry (Tryz.func3.symm.trans hfn)).symm
   exact ⟨OD,fun j t ht=>by
    rw [Tryz.params3] at ht;have hm:t∈[3,9]:=by simpa using Array.mem_of_getElem? ht
    have hall:([3,9].all fun u=>!Tryz.prog.wantsStandIn u)=true:=by kernel_rfl
    exact (show Tryz.prog.wantsStandIn t=false by simpa using Ti.1 hall t hm)⟩)
  OC
#print axioms checkOwn_card
end Go.Proofs.YtjiepkenkcgkhaaGreatDoor
