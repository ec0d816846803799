import Derived.Test.YtpdlohfdjiaegaaGreatDoorTie
import Derived.Test.YtpdlohfdjiaegaaGreatDoorCards
import Derived.ShutString
import Derived.ChangeOld
import Derived.SevenTiedAt
import Derived.Lib.SmallJoins
import Derived.Test.YtpdlohfdjiaegaaGreatDoorM50
set_option linter.unusedVariables false
set_option linter.unusedSimpArgs false
namespace Go.Proofs.YtpdlohfdjiaegaaGreatDoor
open Go.RowKit
open Lw (Dc bE rt frm dep rtT rtN)
theorem alr_d:∀(l:List Tv) (K:List It) (n:Int) (E:List Ev) (a:Nat),Alr (.live K n) l E 0 a→Good (.live K n)→∀e∈E,e.d=tv0∨e.d∈l
 |[],K,n,E,a,hA,hg=>by
  obtain ⟨hc,_⟩:=hA.end
  cases hc with
  |all hK=>intro e he;simp at he;subst he;exact .inl rfl
 |t :: l,K,n,E,a,hA,hg=>by
  rcases hA.inv with ⟨_,_,_,hc,_⟩|⟨ev,st',E2,k2,hp,hA2,rfl,rfl⟩
  ·exact absurd rfl hc
  ·obtain ⟨b1,b2,b3,b4,b5,hbot,hbn,hbe⟩:=good_beg hg
   have hgk:=(put_keep hg hp).1
   have hB:∀e∈begE n,e.d=tv0:=by
    intro e he
    unfold begE at he
    split at he
    ·simp at he;subst he;rfl
    ·simp at he
   have key:∀e∈ev,e.d=tv0∨e.d=t:=by
    cases hp with
    |note hc=>
     intro e he
     rcases List.mem_append.1 he with he|he
     ·exact .inl (hB e he)
     ·simp at he;subst he;exact .inr rfl
    |yes hc hR hkk hm=>
     obtain ⟨_,_,_,o,d4,_,d6,_⟩:=ru_keep hR rfl b1 b2 b3
     intro e he
     rw [d4] at he
     rcases List.mem_append.1 he with he|he
     ·rcases List.mem_append.1 he with he|he
      ·exact .inl (hB e he)
      ·exact .inl (d6 e he).1
     ·simp at he;subst he;exact .inr rfl
   obtain ⟨K',n',rfl⟩:∃K' n',st'=.live K' n':=by
    cases hp with
    |note _=>exact ⟨_,_,rfl⟩
    |yes _ _ _ _=>exact ⟨_,_,rfl⟩
   intro e he
   rcases List.mem_append.1 he with he|he
   ·exact (key e he).imp id (fun h=>by rw [h];exact List.mem_cons_self ..)
   ·exact (alr_d l K' n' E2 k2 hA2 hgk e he).imp id (List.mem_cons_of_mem _)
theorem stk_sz (s:ByteArray):∀t∈stk s,t.t.size≤s.size:=by
 intro t ht
 obtain ⟨x,hx,rfl⟩:=List.mem_map.1 ht
 obtain ⟨_,h1,h2⟩:=Lx.fnd_toks s _ 0 0 (Nat.le_refl _) x hx
 show (s.extract x.a x.e).size≤_
 rw [Lx.size_ext s x.a x.e h2]
 omega
theorem stk_len (s:ByteArray):(stk s).length≤s.size:=by
 have key:∀(d a f:Nat),s.size-a≤d→(Lx.fnd s a f).1.length≤s.size-a:=by
  intro d
  induction d with
  |zero=>intro a f h;rw [Lx.fnd_end s a f (by omega)];exact Nat.zero_le _
  |succ d ih=>
   intro a f h
   by_cases ha:s.size≤a
   ·rw [Lx.fnd_end s a f ha];exact Nat.zero_le _
   ·rw [Lx.fnd_step s a f (by omega)]
    split
    ·have:=ih (a+1) (f+1) (by omega);omega
    ·split
     ·have:=ih (a+1) f (by omega);omega
     ·split
      ·exact Nat.zero_le _
      ·rename_i h3
       split
       ·exact Nat.zero_le _
       ·rename_i h4
        have he:Lx.tkEnd s a (Lx.tkBgn s a)=((Lx.tkEnd s a (Lx.tkBgn s a)).1,0):=Prod.ext rfl (by simpa using h4)
        obtain ⟨hap,hp⟩:=Lx.tkEnd_ok s a _ _ (by omega) rfl h3 he
        have:=ih (Lx.tkEnd s a (Lx.tkBgn s a)).1 0 (by omega)
        simp only [List.length_cons]
        omega
 show ((Lx.scn s).1.map (Lx.tv s)).length≤_
 rw [List.length_map]
 exact key _ 0 0 (Nat.le_refl _)
set_option maxRecDepth 100000 in
theorem snotes_any (s:ByteArray) (cut:Int) (h1:-9223372036854775808≤cut) (h2:cut≤9223372036854775807) (W:World) (hT:Lx.Kab W) (hW:Lw.Tab W) (hs:s.size≤maxLen) :
  Calls Tryz.prog 7 #[.string s,.int .i64 cut] W fun r w'=>r=.returned (.bool true)∧Below W.heap.size W w':=by
 by_cases hb:20000<s.size
 ·have q:(20000:Int)<(s.size:Int):=by omega
  unfold maxLen at hs
  clear hT hW
  go_enter Tryz.func7,Tryz.ntmps7
  go_wp2_with fail
  go_ret
  exact ⟨rfl,Below.refl _ _⟩
 ·have hA:∀V,Below W.heap.size W V→Calls Tryz.prog 9 #[] V fun r w'=>r=.returned (.bool true)∧Below V.heap.size V w':=fun V hb=>awake_any V (hT.below hb) (hW.below hb)
  have no:(Calls Tryz.prog 16 #[.string s] W fun r w'=>∃p n c p2 n2 c2,r=.returned (.tuple #[.slice p n c,.slice p2 n2 c2,.bool false])∧Below W.heap.size W w')→Calls Tryz.prog 7 #[.string s,.int .i64 cut] W fun r w'=>r=.returned (.bool true)∧Below W.heap.size W w':=by
   intro hEv
   have q:¬((20000:Int)<(s.size:Int)):=by omega
   have HEv:Hid (Calls Tryz.prog 16 #[.string s] W fun r w'=>∃p n c p2 n2 c2,r=.returned (.tuple #[.slice p n c,.slice p2 n2 c2,.bool false])∧Below W.heap.size W w'):=hEv
   have HAw:Hid (∀V,Below W.heap.size W V→Calls Tryz.prog 9 #[] V fun r w'=>r=.returned (.bool true)∧Below V.heap.size V w'):=hA
   clear hEv hA hT hW
   go_enter Tryz.func7,Tryz.ntmps7
   go_wp2_with fail
   refine HEv.out.mono ?_
   rintro r w1 ⟨p,n,c,p2,n2,c2,rfl,hb1⟩
   have H1:Hid (Below W.heap.size W w1):=hb1
   clear hb1 HEv
   go_wp2_with fail
   refine (HAw.out _ H1.out).mono ?_
   rintro r w2 ⟨rfl,hb2⟩
   have H2:Hid (Below W.heap.size W w2):=H1.out.trans (hb2.mono H1.out.size)
   clear hb2
   go_wp2_with fail
   go_ret
   exact ⟨rfl,H2.out⟩
  by_cases h0:(Lx.scn s).2.1=0
  ·have hl:=stk_len s
   obtain ⟨E,code,a,hAl⟩:=alr_ex (stk s) (.live [] 0) good_new
   by_cases hc:code=0
   ·subst hc
    have hcn:=alr_cnt (stk s) [] 0 E a hAl good_new
    have hcn':E.length≤0+23*(stk s).length+1:=hcn
    refine snotes_go s cut h1 h2 W (by omega) (by omega) (fun e he=>?_) (nck_top hAl (stk_tks s h0)) ?_ hA
    ·rcases alr_d (stk s) [] 0 E a hAl good_new e he with h|h
     ·rw [h];exact Nat.zero_le _
     ·have:=stk_sz s _ h;omega
    ·refine (events_good s W hT (by omega) h0 (by omega) hAl).mono ?_
     rintro r w' ⟨p,m,c,p2,n2,c2,rfl,hb,hx⟩
     obtain ⟨x1,x2,x3⟩:=hx rfl
     obtain ⟨p',c',e,_⟩:=x1.shape
     cases e
     exact ⟨p,c,p2,n2,c2,rfl,hb,re_lev x1⟩
   ·refine no ((events_good s W hT (by omega) h0 (by omega) hAl).mono ?_)
    rintro r w' ⟨p,m,c,p2,n2,c2,rfl,hb,hx⟩
    exact ⟨p,m,c,p2,n2,c2,by rw [decide_eq_false hc],hb⟩
  ·refine no ((events_bad s W hT (by omega) h0).mono ?_)
   rintro r w' ⟨rfl,hb⟩
   exact ⟨none,0,0,none,0,0,rfl,hb⟩
end Go.Proofs.YtpdlohfdjiaegaaGreatDoor
namespace Go.Proofs.YtpdlohfdjiaegaaGreatDoor
open Go.ChangeShapes Go.WideShapes Go.ChangeAt Go.RowKit
open Go.ChangeMaps (open_string shut_string)
theorem styleNotes_own:ownKnob Tryz.prog.godebug=none:=by kernel_rfl
set_option maxRecDepth 100000 in
theorem styleNotes_lifted (os:Os) (started:os.Started) (H:Type) (enc:TypeId × Value→H) :
  ReturnsInHanded {} Tryz.checked os 7 .any (fun w args=>(Rows.styleNotesSpec.pre enc Tryz.prog Tryz.f7 Rows.styleNotesRow.domain false w args∧laidMetH Tryz.prog [("colophon/width.spans",Rows.laid_colophon_width_spans),("unicode/utf8.acceptRanges",Rows.laid_unicode_utf8_acceptRanges),("colophon/class.spans",Rows.laid_colophon_class_spans),("colophon/class.words",Rows.laid_colophon_class_words),("colophon/class.signs",Rows.laid_colophon_class_signs),("unicode/utf8.first",Rows.laid_unicode_utf8_first)] w)∧sizedMet enc Tryz.prog Tryz.f7 (OpenSpec.ofChange Rows.styleNotesSpec) false w args)
   (Rows.styleNotesSpec.post enc Tryz.prog Tryz.f7 false true false false):=by
 refine returnsInHanded_of_change_and (C:=Tryz.checked) (X:=fun w _=>laidMetH Tryz.prog [("colophon/width.spans",Rows.laid_colophon_width_spans),("unicode/utf8.acceptRanges",Rows.laid_unicode_utf8_acceptRanges),("colophon/class.spans",Rows.laid_colophon_class_spans),("colophon/class.words",Rows.laid_colophon_class_words),("colophon/class.signs",Rows.laid_colophon_class_signs),("unicode/utf8.first",Rows.laid_unicode_utf8_first)] w) (fun _ _ _ hh h=>h.of_heap hh) styleNotes_own started (by kernel_rfl) Tryz.func7
  (ChangeSpec.witness_shaped (enc:=enc) (C:=Tryz.checked) (os:=os) (X:=fun w _=>laidMetH Tryz.prog [("colophon/width.spans",Rows.laid_colophon_width_spans),("unicode/utf8.acceptRanges",Rows.laid_unicode_utf8_acceptRanges),("colophon/class.spans",Rows.laid_colophon_class_spans),("colophon/class.words",Rows.laid_colophon_class_words),("colophon/class.signs",Rows.laid_colophon_class_signs),("unicode/utf8.first",Rows.laid_unicode_utf8_first)] w) false (World.laidAll Tryz.prog os [("colophon/width.spans",Rows.laid_colophon_width_spans),("unicode/utf8.acceptRanges",Rows.laid_unicode_utf8_acceptRanges),("colophon/class.spans",Rows.laid_colophon_class_spans),("colophon/class.words",Rows.laid_colophon_class_words),("colophon/class.signs",Rows.laid_colophon_class_signs),("unicode/utf8.first",Rows.laid_unicode_utf8_first)]) #[.string ByteArray.empty,.int .i64 0] 8 (World.laidAll_os _ _ _)
   (World.shaped_of_ZipB (by kernel_rfl) (by kernel_rfl)) (by kernel_rfl) (by kernel_rfl) (by kernel_rfl)
   (by rw [MakeChecks.laidMetH_plain _ _ _ (by kernel_rfl)];exact laidMet_laidAll _ (by kernel_rfl) (by kernel_rfl))) ?_
 intro W base args ds gs before hval0 hW hc _ hL _
 have hval:∀(j:Nat) t v,Tryz.f7.params[j]?=some t→args[j]?=some v→Value.okWide Tryz.prog W .any base t v:=hval0
 have hW':=hW
 obtain ⟨p,q,hA0,hV,rfl,_,_⟩:=hW
 have hA:DataW.TrodAll enc Tryz.prog W 0 (fun _=>true) true Tryz.f7.params.toList args.toList ds p:=hA0
 rw [Tryz.params7] at hA hval
 obtain ⟨v0,v1,d0,d1,p0,p1,rfl,rfl,rfl,h0,h1⟩:=trodAll_two hA
 obtain ⟨rfl,rfl⟩:=trodVars_none hV
 obtain ⟨a0,rfl,rfl,rfl,w0⟩:=open_string Tryz.underlying9 (hval 0 9 v0 rfl rfl) h0
 obtain ⟨a1,rfl,rfl,rfl,w1⟩:=open_int Tryz.underlying3 (hval 1 3 v1 rfl rfl) h1
 have b1:=bounds_i64 w1
 clear hA0 hval0
 refine (snotes_any a0 a1 b1.1 b1.2 W (Lx.kab_of_laid (by kernel_rfl) (by exact .tail _ (.tail _ (.head _))) (by exact .tail _ (.tail _ (.tail _ (.head _)))) (by exact .tail _ (.tail _ (.tail _ (.tail _ (.head _))))) hL) (Lw.tab_of_laid (by kernel_rfl) (by exact .head _) hL) w0).mono fun e W' ⟨he,bel⟩=>?_
 subst he
 exact ⟨_,rfl,_,_,_,[],_,[],hW',trodAll_mk1 (shut_bool Tryz.underlying4 _),(trodAll_mk2 (shut_string Tryz.underlying9 w0) (shut_int Tryz.underlying3 w1)),rfl,bel.frame _,fun h=>by cases h⟩
theorem styleNotes_holds:Rows.StyleNotesSaid:=
 OpenClaim.holds_of_wide 7 Tryz.f7 rfl rfl rfl rfl rfl rfl rfl ⟨rfl,rfl,rfl,rfl,rfl⟩ rfl rfl rfl rfl rfl (by kernel_rfl) Tryz.func7 (by kernel_rfl)
  (of_decide_eq_true (by kernel_rfl)) (by unfold Func.isWrapper;first|(rw [if_pos (by decide +kernel)];kernel_rfl)|(rw [if_neg (by decide +kernel)];exact ⟨rfl,rfl⟩))
  (fun os started H enc _=>styleNotes_lifted os started H enc)
theorem styleNotes_card:Rows.StyleNotesCardSaid:=
 Claim7.holds_tied_plain_at .later [] [.data,.data,.data,.data,.data,.pinned] true (true, "578e1a3834ba7666d9f0fd33b5d498d9dd5720c433983a585d4f19fad1170be7") false
  styleNotes_holds (fun _ h=>by cases h) (by kernel_rfl) (fun _ h=>by cases h) styleNotes_row_tie rfl ⟨rfl,rfl⟩ (by kernel_rfl) rfl
  (fun f fn hf hfn=>by
   obtain rfl:f=7:=Option.some.inj ((show Tryz.prog.funcNamed "colophon/colophonlaw15.StyleNotes"=some 7 by kernel_rfl).symm.trans hf) |>.symm
   obtain rfl:fn=Tryz.f7:=(Option.some.inj (Tryz.func7.symm.trans hfn)).symm
   exact ⟨by kernel_rfl,fun j t ht=>by
    rw [Tryz.params7] at ht
    have hm:t∈[9,3]:=by simpa using Array.mem_of_getElem? ht
    have hall:([9,3].all fun u=>!Tryz.prog.wantsStandIn u)=true:=by kernel_rfl
    exact (show Tryz.prog.wantsStandIn t=false by simpa using List.all_eq_true.1 hall t hm)⟩)
  (by kernel_rfl)
#print axioms styleNotes_card
end Go.Proofs.YtpdlohfdjiaegaaGreatDoor
