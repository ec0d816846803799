import Derived.Test.YtpdlohfdjiaegaaGreatDoorTie
import Derived.Test.YtpdlohfdjiaegaaGreatDoorCards
import Derived.ShutString
import Derived.ChangeOld
import Derived.SevenTiedAt
import Derived.Lib.SmallJoins
import Derived.Test.YtpdlohfdjiaegaaGreatDoorM48
set_option linter.unusedVariables false
set_option linter.unusedSimpArgs false
namespace Go.Proofs.YtpdlohfdjiaegaaGreatDoor
open Go.ChangeShapes Go.WideShapes Go.ChangeAt Go.RowKit
open Go.ChangeMaps (open_string shut_string)
theorem jm:ownKnob Tryz.prog.godebug=none:=by kernel_rfl
set_option maxRecDepth 100000 in
theorem gk (os:Os) (started:os.Started) (H:Type) (enc:TypeId × Value->H) :
  ReturnsInHanded {} Tryz.checked os 6 .any (fun w args=>(Rows.styleTwiceSpec.pre enc Tryz.prog Tryz.f6 Rows.styleTwiceRow.domain false w args/\laidMetH Tryz.prog [("colophon/width.spans",Rows.laid_colophon_width_spans),("unicode/utf8.acceptRanges",Rows.laid_unicode_utf8_acceptRanges),("colophon/class.spans",Rows.laid_colophon_class_spans),("colophon/class.words",Rows.laid_colophon_class_words),("colophon/class.signs",Rows.laid_colophon_class_signs),("unicode/utf8.first",Rows.laid_unicode_utf8_first)] w)/\sizedMet enc Tryz.prog Tryz.f6 (OpenSpec.ofChange Rows.styleTwiceSpec) false w args)
   (Rows.styleTwiceSpec.post enc Tryz.prog Tryz.f6 false true false false):=by
 refine returnsInHanded_of_change_and (C:=Tryz.checked) (X:=fun w _=>laidMetH Tryz.prog [("colophon/width.spans",Rows.laid_colophon_width_spans),("unicode/utf8.acceptRanges",Rows.laid_unicode_utf8_acceptRanges),("colophon/class.spans",Rows.laid_colophon_class_spans),("colophon/class.words",Rows.laid_colophon_class_words),("colophon/class.signs",Rows.laid_colophon_class_signs),("unicode/utf8.first",Rows.laid_unicode_utf8_first)] w) (fun _ _ _ hh h=>h.of_heap hh) jm started (by kernel_rfl) Tryz.func6
  (ChangeSpec.witness_shaped (enc:=enc) (C:=Tryz.checked) (os:=os) (X:=fun w _=>laidMetH Tryz.prog [("colophon/width.spans",Rows.laid_colophon_width_spans),("unicode/utf8.acceptRanges",Rows.laid_unicode_utf8_acceptRanges),("colophon/class.spans",Rows.laid_colophon_class_spans),("colophon/class.words",Rows.laid_colophon_class_words),("colophon/class.signs",Rows.laid_colophon_class_signs),("unicode/utf8.first",Rows.laid_unicode_utf8_first)] w) false (World.laidAll Tryz.prog os [("colophon/width.spans",Rows.laid_colophon_width_spans),("unicode/utf8.acceptRanges",Rows.laid_unicode_utf8_acceptRanges),("colophon/class.spans",Rows.laid_colophon_class_spans),("colophon/class.words",Rows.laid_colophon_class_words),("colophon/class.signs",Rows.laid_colophon_class_signs),("unicode/utf8.first",Rows.laid_unicode_utf8_first)]) #[.int .i64 0,.string ByteArray.empty] 8 (World.laidAll_os _ _ _)
   (World.shaped_of_ZipB (by kernel_rfl) (by kernel_rfl)) (by kernel_rfl) (by kernel_rfl) (by kernel_rfl)
   (by rw [MakeChecks.laidMetH_plain _ _ _ (by kernel_rfl)];exact laidMet_laidAll _ (by kernel_rfl) (by kernel_rfl))) ?_
 intro W base args ds gs before hval0 hW hc _ hL _;have hval:∀(j:Nat) t v,Tryz.f6.params[j]?=some t->args[j]?=some v->Value.okWide Tryz.prog W .any base t v:=hval0;have hW':=hW;obtain ⟨p,q,hA0,hV,rfl,_,_⟩:=hW;have hA:DataW.TrodAll enc Tryz.prog W 0 (fun _=>true) true Tryz.f6.params.toList args.toList ds p:=hA0;rw [Tryz.params6] at hA hval;obtain ⟨v0,v1,d0,d1,p0,p1,rfl,rfl,rfl,h0,h1⟩:=trodAll_two hA;obtain ⟨rfl,rfl⟩:=trodVars_none hV;obtain ⟨a0,rfl,rfl,rfl,w0⟩:=open_int Tryz.underlying3 (hval 0 3 v0 rfl rfl) h0;obtain ⟨a1,rfl,rfl,rfl,w1⟩:=open_string Tryz.underlying9 (hval 1 9 v1 rfl rfl) h1;have b0:=bounds_i64 w0;clear hA0 hval0;refine (oL a0 b0.1 b0.2 a1 W (Lx.nG (by kernel_rfl) (by exact .tail _ (.tail _ (.head _))) (by exact .tail _ (.tail _ (.tail _ (.head _)))) (by exact .tail _ (.tail _ (.tail _ (.tail _ (.head _))))) hL) (Lw.mM (by kernel_rfl) (by exact .head _) hL) w1).mono fun e W' ⟨he,bel⟩=>?_
 subst he;exact ⟨_,rfl,_,_,_,[],_,[],hW',trodAll_mk1 (shut_bool Tryz.underlying4 _),(trodAll_mk2 (shut_int Tryz.underlying3 w0) (shut_string Tryz.underlying9 w1)),rfl,bel.frame _,fun h=>by cases h⟩
theorem g6:Rows.StyleTwiceSaid:=
 OpenClaim.holds_of_wide 6 Tryz.f6 rfl rfl rfl rfl rfl rfl rfl ⟨rfl,rfl,rfl,rfl,rfl⟩ rfl rfl rfl rfl rfl (by kernel_rfl) Tryz.func6 (by kernel_rfl)
  (of_decide_eq_true (by kernel_rfl)) (by unfold Func.isWrapper;first|(rw [if_pos (by decide +kernel)];kernel_rfl)|(rw [if_neg (by decide +kernel)];exact ⟨rfl,rfl⟩))
  (fun os started H enc _=>gk os started H enc)
theorem styleTwice_card:Rows.StyleTwiceCardSaid:=
 Claim7.holds_tied_plain_at .later [] [.data,.data,.data,.data,.data,.pinned] true (true, "578e1a3834ba7666d9f0fd33b5d498d9dd5720c433983a585d4f19fad1170be7") false
  g6 (fun _ h=>by cases h) (by kernel_rfl) (fun _ h=>by cases h) styleTwice_row_tie rfl ⟨rfl,rfl⟩ (by kernel_rfl) rfl
  (fun f fn hf hfn=>by
   obtain rfl:f=6:=Option.some.inj ((show Tryz.prog.funcNamed "colophon/colophonlaw15.StyleTwice"=some 6 by kernel_rfl).symm.trans hf) |>.symm
   obtain rfl:fn=Tryz.f6:=(Option.some.inj (Tryz.func6.symm.trans hfn)).symm
   exact ⟨by kernel_rfl,fun j t ht=>by
    rw [Tryz.params6] at ht;have hm:t∈[3,9]:=by simpa using Array.mem_of_getElem? ht
    have hall:([3,9].all fun u=>!Tryz.prog.wantsStandIn u)=true:=by kernel_rfl
    exact (show Tryz.prog.wantsStandIn t=false by simpa using List.all_eq_true.1 hall t hm)⟩)
  (by kernel_rfl)
#print axioms styleTwice_card
end Go.Proofs.YtpdlohfdjiaegaaGreatDoor
