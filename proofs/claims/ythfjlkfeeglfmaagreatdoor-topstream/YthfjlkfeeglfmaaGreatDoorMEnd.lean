import Derived.Test.YthfjlkfeeglfmaaGreatDoorTie
import Derived.Test.YthfjlkfeeglfmaaGreatDoorCards
import Derived.LaidHandle
import Derived.LaidSub
import Derived.LaidLaws
import Derived.Test.YthfjlkfeeglfmaaGreatDoorM45
import Derived.Test.YthfjlkfeeglfmaaGreatDoorM46
import Derived.Test.YthfjlkfeeglfmaaGreatDoorM47
set_option linter.all false
namespace Go.Proofs.YthfjlkfeeglfmaaGreatDoor
open Go.Proofs.Tryz
open Go.ChangeShapes Go.WideShapes Go.ChangeAt Go.RowKit
open Go.ChangeMaps (open_string shut_string)
abbrev Mp:List (String × DataW Unit):=[("colophon/width.spans",Rows.laid_colophon_width_spans),("unicode/utf8.acceptRanges",Rows.laid_unicode_utf8_acceptRanges),("errors.errorType",Rows.laid_errors_errorType),("colophon/class.spans",Rows.laid_colophon_class_spans),("colophon/class.words",Rows.laid_colophon_class_words),("colophon/class.signs",Rows.laid_colophon_class_signs),("unicode/utf8.first",Rows.laid_unicode_utf8_first)]
abbrev QD:List (String × DataW Unit):=[("colophon/width.spans",Rows.laid_colophon_width_spans),("unicode/utf8.acceptRanges",Rows.laid_unicode_utf8_acceptRanges),("colophon/class.spans",Rows.laid_colophon_class_spans),("colophon/class.words",Rows.laid_colophon_class_words),("colophon/class.signs",Rows.laid_colophon_class_signs),("unicode/utf8.first",Rows.laid_unicode_utf8_first)]
theorem sW {P:Program}{w0:World}{u:List (String × DataW Unit)}(args:Array Value) (J:w0.layFits P u []=true) (M:w0.layIfaces P u (w0.layVars P u)=true) :
  laidMet P u ((w0.layVars P u).forCall (λ_ _=>0) ⟨#[],args,[]⟩).memory:=by
 have G:(u.filter λx=>(u.map (·.1)).contains x.1)=u:=List.filter_eq_self.2 λx H=>List.contains_iff_mem.2 (TY.2 ⟨x,H,rfl⟩)
 have I:(u.filter λx=>!(u.map (·.1)).contains x.1)=[]:=List.filter_eq_nil_iff.2 λx H=>by rw[List.contains_iff_mem.2 (TY.2 ⟨x,H,rfl⟩)];simp
 have h:laidMet P u (w0.layVars P u):=laidMet_layVars (w0:=w0) (u.map (·.1)) [] (by rw[G]) (by rw[G];exact J) (by rw[G];exact M) (by rw[I];exact LaidIn.none);exact h.of_heap (by simp[World.memory,World.forCall,Input.heap])
theorem PJ:Tryz.prog.globalNamed "errors.errorType"=some 0:=by kernel_rfl
theorem PH:(Tryz.prog.cutTypes.find? (·.1 == "internal/reflectlite.rtype")).map (·.2)=some 219:=by kernel_rfl
theorem KS:Tryz.prog.types.size=359:=by kernel_rfl
theorem N2:((List.range 359).filter λt=>Tryz.prog.rowNamed t [101,114,114,111,114])=[25]:=by kernel_rfl
theorem wN {W:World}(h:laidMetH Tryz.prog Mp W):mh W:=by
 have H:("errors.errorType",Rows.laid_errors_errorType)∈Mp.filter λx=>x.2.handleName?.isSome:=by
  refine List.mem_filter.2 ⟨.tail _ (.tail _ (.head _)),by kernel_rfl⟩
 have Y:handlesMet Tryz.prog (Mp.filter λx=>x.2.handleName?.isSome) W:=by
  unfold laidMetH at h
  revert h H
  generalize(Mp.filter λx=>x.2.handleName?.isSome)=fl;intro h H;cases fl with
  |nil=>cases H
  |cons a r=>exact h.2
 obtain⟨G,u,ty,M,O,Q,S,I⟩:=Y _ H;have en:G=[101,114,114,111,114]:=(SJ M).symm;subst en;obtain rfl:=SJ (PH.symm.trans O);have J:ty∈(List.range 359).filter λt=>Tryz.prog.rowNamed t [101,114,114,111,114]:=List.mem_filter.2 ⟨List.mem_range.2 (by rw[<-KS];exact Q),S⟩
 rw[N2]at J;obtain rfl:=Uc.1 J;have Z:typeHandle Tryz.prog 25=gz 25:=by kernel_rfl
 rw[Z]at I
 simpa[mh]using U6 PJ I 0
theorem qc:ownKnob Tryz.prog.godebug=none:=by kernel_rfl
set_option maxRecDepth 100000 in
theorem lw (os:Os) (I:os.Started) (H:Type) (enc:TypeId × Value->H) :
  ReturnsInHanded {} Tryz.checked os 3 .any (λw args=>(Rows.topStreamSpec.pre enc Tryz.prog Tryz.f3 Rows.topStreamRow.domain false w args/\laidMetH Tryz.prog Mp w)/\sizedMet enc Tryz.prog Tryz.f3 (OpenSpec.ofChange Rows.topStreamSpec) false w args)
   (Rows.topStreamSpec.post enc Tryz.prog Tryz.f3 false true false false):=by
 refine returnsInHanded_of_change_and (C:=Tryz.checked) (X:=λw _=>laidMetH Tryz.prog Mp w) (λ_ _ _ hh h=>h.of_heap hh) qc I (by kernel_rfl) func3
  (ChangeSpec.witness_shaped (enc:=enc) (C:=Tryz.checked) (os:=os) (X:=λw _=>laidMetH Tryz.prog Mp w) false (((World.holding Tryz.prog os ⟨#[],#[],[]⟩).setCell ⟨0,0,none⟩ (.iface 219 (.agg #[gz 25]))).layVars Tryz.prog QD) #[.string ByteArray.empty,Tu 0] 8 (World.layVars_os _ _ _)
   (World.shaped_of_ZipB (by kernel_rfl) (by kernel_rfl)) (by kernel_rfl) (by kernel_rfl) (by kernel_rfl)
   (laidMetH_of_parts (sW _ (by kernel_rfl) (by kernel_rfl)) (by kernel_rfl))) ?_
 intro W base args ds gs M G hW hc _ Z _;have u:∀(j:Nat) t v,Tryz.f3.params[j]?=some t->args[j]?=some v->Value.okWide Tryz.prog W .any base t v:=G;have Q:=hW;obtain⟨p,q,J,hV,rfl,_,_⟩:=hW;have Y:DataW.TrodAll enc Tryz.prog W 0 (λ_=>true) true Tryz.f3.params.toList args.toList ds p:=J;rw[params3]at Y u;obtain⟨v0,v1,d0,d1,p0,p1,rfl,rfl,rfl,h0,h1⟩:=trodAll_two Y;obtain⟨rfl,rfl⟩:=trodVars_none hV;obtain⟨a0,rfl,rfl,rfl,w0⟩:=open_string underlying9 (u 0 9 v0 rfl rfl) h0;obtain⟨a1,rfl,rfl,rfl,w1⟩:=open_int underlying3 (u 1 3 v1 rfl rfl) h1;clear J G
 have hP:laidMetH Tryz.prog QD W:=by
  have S:=Z.filter (λx=>x.2.handleName?.isNone);have e9:Mp.filter (λx=>x.2.handleName?.isNone)=QD:=by kernel_rfl
  rw[e9]at S;exact S
 refine(uD a0 a1 w0 W (Lx.wm (by kernel_rfl) (by exact .tail _ (.tail _ (.head _))) (by exact .tail _ (.tail _ (.tail _ (.head _)))) (by exact .tail _ (.tail _ (.tail _ (.tail _ (.head _))))) hP) (Lw.uJ (by kernel_rfl) (by exact .head _) hP) (wN Z)).mono λe W' ⟨he,O⟩=>?_
 subst he;exact⟨_,rfl,_,_,_,[],_,[],Q,trodAll_mk1 (shut_bool underlying4 _),(trodAll_mk2 (shut_string underlying9 w0) (shut_int underlying3 w1)),rfl,O.frame _,λh=>by cases h⟩
theorem mT:Rows.TopStreamSaid:=
 OpenClaim.holds_of_wide 3 Tryz.f3 rfl rfl rfl rfl rfl rfl rfl ⟨rfl,rfl,rfl,rfl,rfl⟩ rfl rfl rfl rfl rfl (by kernel_rfl) func3 GK
  (SE (by kernel_rfl)) (by unfold Func.isWrapper;first|(rw[Or (by decide +kernel)];kernel_rfl)|(rw[Eq (by decide +kernel)];exact⟨rfl,rfl⟩))
  (λG u H enc _=>lw G u H enc)
theorem topStream_card:Rows.TopStreamCardSaid:=
 Claim7.holds_tied_plain_at .later [] [.data,.data,.handle,.data,.data,.data,.pinned] true (true, "c357433bfb4127b749a2bbec03fcadf8dec849ab4313e827aecb217b614a5586") true
  mT (λ_ h=>by cases h) PG (λ_ h=>by cases h) topStream_row_tie rfl ⟨rfl,rfl⟩ PF rfl
  (λf I J H=>by
   obtain rfl:f=3:=SJ ((show Tryz.prog.funcNamed "colophon/colophontop.TopStream"=some 3 by kernel_rfl).symm.trans J) |>.symm
   obtain rfl:I=Tryz.f3:=(SJ (func3.symm.trans H)).symm
   exact⟨PE,λj t ht=>by
    rw[params3]at ht;have M:t∈[9,3]:=by simpa using Array.mem_of_getElem? ht
    have G:([9,3].all λu=>!Tryz.prog.wantsStandIn u)=true:=by kernel_rfl
    exact(show Tryz.prog.wantsStandIn t=false by simpa using List.all_eq_true.1 G t M)⟩)
  PB
#print axioms topStream_card
end Go.Proofs.YthfjlkfeeglfmaaGreatDoor
