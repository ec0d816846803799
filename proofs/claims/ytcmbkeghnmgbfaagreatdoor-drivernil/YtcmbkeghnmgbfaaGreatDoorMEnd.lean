import Derived.Test.YtcmbkeghnmgbfaaGreatDoorTie
import Derived.Test.YtcmbkeghnmgbfaaGreatDoorCards
import Derived.ShutString
import Derived.LaidHandle
import Derived.LaidSub
import Derived.LaidLaws
import Derived.Test.YtcmbkeghnmgbfaaGreatDoorM42
import Derived.Test.YtcmbkeghnmgbfaaGreatDoorM43
import Derived.Test.YtcmbkeghnmgbfaaGreatDoorM44
set_option linter.all false
namespace Go.Proofs.YtcmbkeghnmgbfaaGreatDoor
open Go.Proofs.Tryz
open Go.ChangeShapes Go.WideShapes Go.ChangeAt Go.RowKit
open Go.ChangeMaps (open_string shut_string)
abbrev FX:List (String × DataW Unit):=[("colophon/width.spans",Rows.laid_colophon_width_spans),("unicode/utf8.acceptRanges",Rows.laid_unicode_utf8_acceptRanges),("errors.errorType",Rows.laid_errors_errorType),("colophon/class.spans",Rows.laid_colophon_class_spans),("colophon/class.words",Rows.laid_colophon_class_words),("colophon/class.signs",Rows.laid_colophon_class_signs),("unicode/utf8.first",Rows.laid_unicode_utf8_first)]
abbrev JS:List (String × DataW Unit):=[("colophon/width.spans",Rows.laid_colophon_width_spans),("unicode/utf8.acceptRanges",Rows.laid_unicode_utf8_acceptRanges),("colophon/class.spans",Rows.laid_colophon_class_spans),("colophon/class.words",Rows.laid_colophon_class_words),("colophon/class.signs",Rows.laid_colophon_class_signs),("unicode/utf8.first",Rows.laid_unicode_utf8_first)]
theorem oI {P:Program}{w0:World}{u:List (String × DataW Unit)}(args:Array Value) (I:w0.layFits P u []=true) (J:w0.layIfaces P u (w0.layVars P u)=true) :
  laidMet P u ((w0.layVars P u).forCall (fun _ _=>0) ⟨#[],args,[]⟩).memory:=by
 have F:(u.filter fun x=>(u.map (·.1)).contains x.1)=u:=List.filter_eq_self.2 fun x G=>List.contains_iff_mem.2 (Mi.2 ⟨x,G,rfl⟩)
 have H:(u.filter fun x=>!(u.map (·.1)).contains x.1)=[]:=List.filter_eq_nil_iff.2 fun x G=>by rw[List.contains_iff_mem.2 (Mi.2 ⟨x,G,rfl⟩)];simp
 have h:laidMet P u (w0.layVars P u):=laidMet_layVars (w0:=w0) (u.map (·.1)) [] (by rw[F]) (by rw[F];exact I) (by rw[F];exact J) (by rw[H];exact LaidIn.none);exact h.of_heap (by simp[World.memory,World.forCall,Input.heap])
theorem Ja:Tryz.prog.globalNamed "errors.errorType"=some 0:=by kernel_rfl
theorem I9:(Tryz.prog.cutTypes.find? (·.1 == "internal/reflectlite.rtype")).map (·.2)=some 157:=by kernel_rfl
theorem Ex:Tryz.prog.types.size=369:=by kernel_rfl
theorem Hb:((List.range 369).filter fun t=>Tryz.prog.rowNamed t [101,114,114,111,114])=[25]:=by kernel_rfl
theorem rD {W:World}(h:laidMetH Tryz.prog FX W):FA W:=by
 have G:("errors.errorType",Rows.laid_errors_errorType)∈FX.filter fun x=>x.2.handleName?.isSome:=by
  refine List.mem_filter.2 ⟨.tail _ (.tail _ (.head _)),by kernel_rfl⟩
 have h':handlesMet Tryz.prog (FX.filter fun x=>x.2.handleName?.isSome) W:=by
  unfold laidMetH at h
  revert h G
  generalize(FX.filter fun x=>x.2.handleName?.isSome)=fl
  intro h G;cases fl with
  |nil=>cases G
  |cons a r=>exact h.2
 obtain⟨F,u,ty,J,M,O,e4,H⟩:=h' _ G;have en:F=[101,114,114,111,114]:=(KH J).symm;subst en;obtain rfl:=KH (I9.symm.trans M);have I:ty∈(List.range 369).filter fun t=>Tryz.prog.rowNamed t [101,114,114,111,114]:=List.mem_filter.2 ⟨List.mem_range.2 (by rw[<-Ex];exact O),e4⟩
 rw[Hb]at I;obtain rfl:=Mk.1 I;have hh:typeHandle Tryz.prog 25=cz 25:=by kernel_rfl
 rw[hh]at H
 simpa[FA]using Nr Ja H 0
theorem mn:ownKnob Tryz.prog.godebug=none:=by kernel_rfl
open Lx in
set_option maxHeartbeats 4000000 in
theorem Lw.ctq9 : fh Rc := by
  refine⟨?_, ?_, ?_, ?_, ?_⟩
  · intro S S' W g N s h hs
    rcases h with⟨h1, own, gs, qh, qw, v, csh, csw, c, rl, l, h2, h3, h4⟩ | ⟨h1, h2, h3, h4⟩
    · exact .inl ⟨h1, own, gs, qh, qw, v, csh, csw, c, rl, l, h2, fun k hk hne => hs k hk (h3 k hk hne), h4⟩
    · exact .inr ⟨h1, h2, h3, hs g (ai h3) h4⟩
  · intro S T W W' g N s h hk hd
    rcases h with⟨h1, own, gs, qh, qw, v, csh, csw, c, rl, l, h2, h3, h4⟩ | ⟨h1, h2, h3, h4⟩
    · have hf : bV (fun i => i = 0) own own W W' := ⟨hk.os, hk.tape, hk.output, hk.size, fun k hl hne => hk.block k hl (fun e => hd k hl (h3 k hl hne) e), fun _ _ _ => rfl⟩
      refine .inl ⟨h1, own, gs, qh, qw, v, csh, csw, c, rl, l, h2.kept hf, fun k hl hne => ?_, h4⟩
      rcases Nat.lt_or_ge k W.heap.size with hl2 | hl2
      · exact h3 k hl2 hne
      · exact absurd (h2.nf k hl2) hne
    · exact .inr ⟨h1, h2, (hk.block g (ai h3) (fun e => hd g (ai h3) h4 e)).trans h3, h4⟩
  · intro S n W h1 h2 hS hT
    refine(IJ n h1 h2 W).mono ?_
    rintro e w'⟨g, qa, qb, gs, rfl, ⟨l1, l2, l3, l4⟩, b1, b2, b3, b4, hb⟩
    refine⟨g, rfl, .inl ⟨rfl, fun k => if k = g then 2 else if k = gs then 1 else if k = qa then 3 else if k = qb then 4 else 0, gs, qa, qb, .slice none 0 0, [], [], cs0, [], [], ⟨fun k hk => ?_, ?_, if_pos rfl, b1, ⟨World.ownsRow_nil _ _ _ _, fun k h => by cases h⟩, ?_, ?_, rfl, ?_, rfl, fun b x hx => by cases hx⟩, fun k hk hne => ?_, rfl, wi0 0, rfl, rfl, sin0 n, fe0 _⟩, hb⟩
    · have := ai b1
      show(if k = g then 2 else if k = gs then 1 else if k = qa then 3 else if k = qb then 4 else 0) = 0
      rw[if_neg (by omega), if_neg (by omega), if_neg (by omega), if_neg (by omega)]
    · have := hT.pos
      show(if 5 = g then 2 else if 5 = gs then 1 else if 5 = qa then 3 else if 5 = qb then 4 else 0) = 0
      rw[if_neg (by omega), if_neg (by omega), if_neg (by omega), if_neg (by omega)]
    · refine⟨?_, .slice none 0 0, .slice none 0 0, [], [], b4, ⟨World.ownsRow_nil _ _ _ _, fun k h => by cases h⟩, ⟨World.ownsRow_nil _ _ _ _, fun k h => by cases h⟩, Nat.zero_le _, rfl, Nat.le_refl _, fun x h => by cases h⟩
      show(if gs = g then 2 else if gs = gs then 1 else _) = 1
      rw[if_neg (by omega), if_pos rfl]
    · refine⟨by omega, ⟨.slice none 0 0, [], 0, ⟨b2, ?_, by omega, by omega, by simp, .inl ⟨rfl, rfl, rfl⟩, ⟨by simp, fun i hi => absurd hi (by simp)⟩⟩⟩, fun x hx => (nomatch hx), fun x hx => (by simp at hx), List.nodup_nil⟩
      show(if qa = g then 2 else if qa = gs then 1 else if qa = qa then 3 else _) = 3
      rw[if_neg (by omega), if_neg (by omega), if_pos rfl]
    · refine⟨by omega, ⟨.slice none 0 0, [], 0, ⟨b3, ?_, by omega, by omega, by simp, .inl ⟨rfl, rfl, rfl⟩, ⟨by simp, fun i hi => absurd hi (by simp)⟩⟩⟩, fun x hx => (nomatch hx), fun x hx => (by simp at hx), List.nodup_nil⟩
      show(if qb = g then 2 else if qb = gs then 1 else if qb = qa then 3 else if qb = qb then 4 else 0) = 4
      rw[if_neg (by omega), if_neg (by omega), if_neg (by omega), if_pos rfl]
    · have hne' : (if k = g then 2 else if k = gs then 1 else if k = qa then 3 else if k = qb then 4 else 0) ≠ 0 := hne
      refine hS k ?_
      by_cases e1 : k = g
      · omega
      · by_cases e2 : k = gs
        · omega
        · by_cases e3 : k = qa
          · omega
          · by_cases e4 : k = qb
            · omega
            · rw[if_neg e1, if_neg e2, if_neg e3, if_neg e4]at hne'
              exact absurd rfl hne'
  · intro S W g N s d T C hR hS hT hN hb hds hTT hCC
    have hR0 := hR
    rcases hR with⟨h1, own, gs, qh, qw, v, csh, csw, c, rl, l, h2, h3, h4, h5, h6, h7, h8, h9⟩ | ⟨h1, h2, h3, h4⟩
    · have hst := h2.st hT
      by_cases hg : rt d = true ∧ ¬ (d.k = 7 ∧ s.dp = 0)
      · have hg' : rt d = true ∧ ¬ (d.k = 7 ∧ c.op = 0) := by rw[h6]; exact hg
        have e2 : (s.put N d).2 = 0 := by unfold S9.put; rw[if_neg (by rw[h1]; simp), if_pos hg]
        have ecl : (s.put N d).1.cl = false := by unfold S9.put; rw[if_neg (by rw[h1]; simp), if_pos hg]
        rw[e2]
        refine(Il hst d hds hg' h4 h5 h6 h7 hb hTT hCC hN h8 h9).mono ?_
        rintro e w'⟨rfl, c', t1, t2, t3, t4, t5, t6⟩
        exact⟨rfl, t1.rc h3 hS ecl t2 t3 t4 t5 t6⟩
      · have hg' : ¬ (rt d = true ∧ ¬ (d.k = 7 ∧ c.op = 0)) := by rw[h6]; exact hg
        have e2 : s.put N d = (s, 70) := by unfold S9.put; rw[if_neg (by rw[h1]; simp), if_neg hg]
        rw[e2]
        refine(II hst d hds hg').mono ?_
        rintro e w'⟨rfl, hbl⟩
        exact⟨by rw[Ij], IN hR0 hbl, Kp.of_below hbl⟩
    · have e2 : s.put N d = (s, 4) := by unfold S9.put; rw[if_pos h1]
      rw[e2]
      refine(Im d g W (aa h3 rfl)).mono ?_
      rintro e w'⟨rfl, hbl⟩
      exact⟨by rw[Ij], IN hR0 hbl, Kp.of_below hbl⟩
  · intro S W g N s T C hR hS hT hN hb hTT hCC
    have hR0 := hR
    rcases hR with⟨h1, own, gs, qh, qw, v, csh, csw, c, rl, l, h2, h3, h4, h5, h6, h7, h8, h9⟩ | ⟨h1, h2, h3, h4⟩
    · have hst := h2.st hT
      by_cases h0 : s.dp = 0
      · have e2 : s.close N = (⟨vW N s.pr s.wt, [], s.dp, true⟩, 0) := by unfold S9.close; rw[if_neg (by rw[h1]; simp), if_neg (by omega)]
        have e3 : (s.close N).2 = 0 := by rw[e2]
        rw[e3]
        refine(FL hst h4 h5 h6 h0 h7 hb hTT hCC hN h8 h9).mono ?_
        rintro e w'⟨rfl, hbk, own', hz⟩
        refine⟨rfl, .inr ⟨by rw[e2], by rw[e2], hbk, h3 g (ai h2.blk) (by rw[h2.lab]; omega)⟩, hz.kp h3⟩
      · have e2 : s.close N = (s, 70) := by unfold S9.close; rw[if_neg (by rw[h1]; simp), if_pos (by omega)]
        rw[e2]
        refine(FK hst (by omega)).mono ?_
        rintro e w'⟨rfl, rfl⟩
        exact⟨by rw[Ij], hR0, Kp.refl _ _⟩
    · have e2 : s.close N = (s, 4) := by unfold S9.close; rw[if_pos h1]
      rw[e2]
      refine(FM g W (aa h3 rfl)).mono ?_
      rintro e w'⟨rfl, rfl⟩
      exact⟨by rw[Ij], hR0, Kp.refl _ _⟩
set_option maxRecDepth 100000 in
theorem jB (os:Os) (G:os.Started) (H:Type) (enc:TypeId × Value->H) :
  ReturnsInHanded {} Tryz.checked os 3 .any (fun w u=>(Rows.driverNilSpec.pre enc Tryz.prog Tryz.f3 Rows.driverNilRow.domain false w u/\laidMetH Tryz.prog FX w)/\sizedMet enc Tryz.prog Tryz.f3 (OpenSpec.ofChange Rows.driverNilSpec) false w u)
   (Rows.driverNilSpec.post enc Tryz.prog Tryz.f3 false true false false):=by
 refine returnsInHanded_of_change_and (C:=Tryz.checked) (X:=fun w _=>laidMetH Tryz.prog FX w) (fun _ _ _ hh h=>h.of_heap hh) mn G (by kernel_rfl) func3
  (ChangeSpec.witness_shaped (enc:=enc) (C:=Tryz.checked) (os:=os) (X:=fun w _=>laidMetH Tryz.prog FX w) false (((World.holding Tryz.prog os ⟨#[],#[],[]⟩).setCell ⟨0,0,none⟩ (.iface 157 (.agg #[cz 25]))).layVars Tryz.prog JS) #[.string ByteArray.empty] 8 (World.layVars_os _ _ _)
   (World.shaped_of_ZipB (by kernel_rfl) (by kernel_rfl)) (by kernel_rfl) (by kernel_rfl) (by kernel_rfl)
   (laidMetH_of_parts (oI _ (by kernel_rfl) (by kernel_rfl)) (by kernel_rfl))) ?_
 intro W base u ds gs M F hW hc _ hL _;have I:∀(j:Nat) t v,Tryz.f3.params[j]?=some t->u[j]?=some v->Value.okWide Tryz.prog W .any base t v:=F;have aa:=hW;obtain ⟨p,q,J,hV,rfl,_,_⟩:=hW;have hA:DataW.TrodAll enc Tryz.prog W 0 (fun _=>true) true Tryz.f3.params.toList u.toList ds p:=J;rw [params3] at hA I;obtain ⟨v0,d0,rfl,rfl,h0⟩:=trodAll_one hA;obtain ⟨rfl,rfl⟩:=trodVars_none hV;obtain ⟨a0,rfl,rfl,rfl,w0⟩:=open_string underlying9 (I 0 9 v0 rfl rfl) h0;clear J F
 have hP:laidMetH Tryz.prog JS W:=by
  have h9:=hL.filter (fun x=>x.2.handleName?.isNone);have e9:FX.filter (fun x=>x.2.handleName?.isNone)=JS:=by kernel_rfl
  rw [e9] at h9;exact h9
 refine (BT Lw.ctq9 a0 W (Lx.rf (by kernel_rfl) (by exact .tail _ (.tail _ (.head _))) (by exact .tail _ (.tail _ (.tail _ (.head _)))) (by exact .tail _ (.tail _ (.tail _ (.tail _ (.head _))))) hP) (Lw.pW (by kernel_rfl) (by exact .head _) hP) (rD hL)).mono fun e W' ⟨he,O⟩=>?_
 subst he;exact ⟨_,rfl,_,_,_,[],_,[],aa,trodAll_mk1 (shut_bool underlying4 _),(trodAll_mk1 (shut_string underlying9 w0)),rfl,O.frame _,fun h=>by cases h⟩
theorem jX:Rows.DriverNilSaid:=
 OpenClaim.holds_of_wide 3 Tryz.f3 rfl rfl rfl rfl rfl rfl rfl ⟨rfl,rfl,rfl,rfl,rfl⟩ rfl rfl rfl rfl rfl (by kernel_rfl) func3 Bs
  (KQ (by kernel_rfl)) (by unfold Func.isWrapper;first|(rw[Kd (by decide +kernel)];kernel_rfl)|(rw[IO (by decide +kernel)];exact⟨rfl,rfl⟩))
  (fun F u H enc _=>jB F u H enc)
theorem driverNil_card:Rows.DriverNilCardSaid:=
 Claim7.holds_tied_plain_at .later [] [.data,.data,.handle,.data,.data,.data,.pinned] true (true, "6641e904bdd422f8970b0febb591b6a3ae69b37dcf6b89c50404b9bf0538779a") true
  jX (fun _ h=>by cases h) I8 (fun _ h=>by cases h) driverNil_row_tie rfl ⟨rfl,rfl⟩ I7 rfl
  (fun f H I G=>by
   obtain rfl:f=3:=KH ((show Tryz.prog.funcNamed "colophon/colophonlaw17.DriverNil"=some 3 by kernel_rfl).symm.trans I) |>.symm
   obtain rfl:H=Tryz.f3:=(KH (func3.symm.trans G)).symm
   exact⟨I6,fun j t ht=>by
    rw[params3]at ht;have J:t∈[9]:=by simpa using Array.mem_of_getElem? ht
    have F:([9].all fun u=>!Tryz.prog.wantsStandIn u)=true:=by kernel_rfl
    exact(show Tryz.prog.wantsStandIn t=false by simpa using List.all_eq_true.1 F t J)⟩)
  I5
#print axioms driverNil_card
end Go.Proofs.YtcmbkeghnmgbfaaGreatDoor
