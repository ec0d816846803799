import Derived.Test.YtkigadnkclkopaaGreatDoorM31
import Derived.Test.YtkigadnkclkopaaGreatDoorM32
set_option linter.unusedVariables false
set_option linter.unusedSimpArgs false
namespace Go.Proofs.YtkigadnkclkopaaGreatDoor
open Go.RowKit
theorem RwC.at {f:Nat}{row:List It}{b n:Nat}(h:RwC f row b n) (hb:90≤b) (X:Sx) (d:D):RwA X f row n d:=fun r W hs hr hm=>h X r d W hs (Nat.le_trans hr hb) hm
theorem qn_opD {L:List Tv}{n:Int}{d:D}{f:Tv→Bool}:qn L (opD n d) f=qn L d f:=by unfold qn nxt opD;by_cases h:d.e=0 <;> simp [h]
theorem fac_cs {t:Tv}(h:facN t=32):Fl.takes t .cs=true:=by
 unfold facN at h
 simp only [Fl.takes]
 repeat' (split at h)
 all_goals first|assumption|(cases h;done)
theorem factor_pc (n:Nat) (hminus:RwC 212 gr_minus 90 n) (hnot:RwC 211 gr_not 90 n) (hgroup:RwC 213 gr_group 90 n) (hobject:RwC 186 gr_object 95 n):PC .factor 202 n:=by
 intro X r d W h
 refine (factor_any h).mono ?_
 rintro e w' ⟨rfl,hb⟩
 refine ⟨_,_,rfl,?_,hb⟩
 have hcs:qn (tks X.l) d (fun t=>Fl.takes t .cs)=Fl.takes (nx X (ps X.l d.i)) .cs:=h.hqn (by simp [Fl.takes,tv0])
 have hd:drow (nxt (tks X.l) d) .factor=M.row (nx X (ps X.l d.i)) .factor:=by rw [h.hnx];exact drow_factor _
 generalize nx X (ps X.l d.i)=t at *
 have hf:facN t=25∨facN t=26∨facN t=27∨facN t=32∨facN t=28∨facN t=0:=by unfold facN;(repeat' split) <;> simp
 rcases hf with e|e|e|e|e|e
 ·exact .inl ⟨25,_,gr_minus,by rw [e],by simp only [facW,e];rfl,en_minus,rfl,hminus.at (by omega) X _,fun d' hh=>ib_op (m:=.factor) (by rw [hd];simp only [M.row,e];rfl) hh⟩
 ·exact .inl ⟨26,_,gr_not,by rw [e],by simp only [facW,e];rfl,en_not,rfl,hnot.at (by omega) X _,fun d' hh=>ib_op (m:=.factor) (by rw [hd];simp only [M.row,e];rfl) hh⟩
 ·exact .inl ⟨27,_,gr_group,by rw [e],by simp only [facW,e];rfl,en_group,rfl,hgroup.at (by omega) X _,fun d' hh=>ib_op (m:=.factor) (by rw [hd];simp only [M.row,e];rfl) hh⟩
 ·refine .inl ⟨32,_,[.fl .cs],by rw [e],by simp only [facW,e];rfl,en_take,rfl,fun r1 W1 h1 hr1 _=>rw_take (n:=n) h1 hr1 ?_,fun d' hh=>ib_op (m:=.factor) (by rw [hd];simp only [M.row,e];rfl) hh⟩
  rw [qn_opD,hcs]
  exact fac_cs e
 ·exact .inl ⟨28,_,gr_object,by rw [e],by simp only [facW,e];rfl,en_object,rfl,hobject.at (by omega) X _,fun d' hh=>ib_ex (m:=.factor) (r:=[.fl (.mt .object)]) (by rw [hd];simp only [M.row,e];rfl) (rb_one (ib_op (m:=.object) rfl hh))⟩
 ·exact .inr ⟨by rw [e],by simp only [facW,e];rfl,_,ib_ref (m:=.factor) (by rw [hd];simp only [M.row,e];rfl),rfl,by unfold tkD;simp only [Bool.false_eq_true,if_false];(repeat' split) <;> rfl⟩
theorem is_lit {t:Tv}{l:List UInt8}{s:ByteArray}(h:t.is l=true) (hs:s.toList=l):t.t=s:=btl_inj (by unfold Tv.is at h;simpa [hs] using h)
theorem kind_pc (n:Nat) (harray:RwC 184 gr_array 90 n) (hrecord:RwC 185 gr_record 90 n):PC .kind 163 n:=by
 intro X r d W h
 refine (kind_any h).mono ?_
 rintro e w' ⟨rfl,hb⟩
 refine ⟨_,_,rfl,?_,hb⟩
 have hn:=h.hnx
 have hz:=h.e0
 generalize nx X (ps X.l d.i)=t at *
 have ha:∀s,(nxt (tks X.l) d).elim false (wk 2 s)=wk 2 s t:=fun s=>by rw [hn];cases nxt (tks X.l) d <;> rfl
 have wa:wk 2 ⟨#[97,114,114,97,121]⟩ t=(t.k == 2 && t.is [97,114,114,97,121]):=by rw [wk_is,show (ByteArray.mk #[97,114,114,97,121]).toList=[97,114,114,97,121] by decide +kernel];rfl
 have wr:wk 2 ⟨#[114,101,99,111,114,100]⟩ t=(t.k == 2 && t.is [114,101,99,111,114,100]):=by rw [wk_is,show (ByteArray.mk #[114,101,99,111,114,100]).toList=[114,101,99,111,114,100] by decide +kernel];rfl
 have hd:drow (nxt (tks X.l) d) .kind=if (t.k == 2 && t.is [97,114,114,97,121])=true then .op 9 gr_array else if (t.k == 2 && t.is [114,101,99,111,114,100])=true then .op 10 gr_record else .op 8 [.fl .nm]:=by
  simp only [drow,ha,wa,wr]
 cases h1:(t.k == 1) with
 |true=>
  have h2:(t.k == 2)=false:=by
   have:t.k=1:=by simpa using h1
   simp [this]
  refine .inl ⟨8,_,[.fl .nm],by simp only [kinVU,h1];rfl,by simp only [kinVW,h1];rfl,en_name,rfl,(rw_name n).at (by omega) X _,fun d' hh=>ib_op (m:=.kind) (by rw [hd,h2];rfl) hh⟩
 |false=>
  cases h2:(t.k == 2 && t.is [97,114,114,97,121]) with
  |true=>exact .inl ⟨9,_,gr_array,by simp only [kinVU,h1,h2];rfl,by simp only [kinVW,h1,h2];rfl,en_array,rfl,harray.at (by omega) X _,fun d' hh=>ib_op (m:=.kind) (by rw [hd,h2];rfl) hh⟩
  |false=>
   cases h3:(t.k == 2 && t.is [114,101,99,111,114,100]) with
   |true=>exact .inl ⟨10,_,gr_record,by simp only [kinVU,h1,h2,h3];rfl,by simp only [kinVW,h1,h2,h3];rfl,en_record,rfl,hrecord.at (by omega) X _,fun d' hh=>ib_op (m:=.kind) (by rw [hd,h2,h3];rfl) hh⟩
   |false=>
    have hq:qn (tks X.l) d (fun t=>Fl.takes t .nm)=false:=by
     rw [h.hqn (by simp [Fl.takes,tv0]),h.hnx,←hn]
     exact h1
    have hq2:qn (tks X.l) (opD 8 d) (fun t=>Fl.takes t .nm)=false:=by rw [qn_opD];exact hq
    have ho:(opD 8 d).e=d.e∧(opD 8 d).i=d.i:=by unfold opD;rw [if_pos hz];exact ⟨rfl,rfl⟩
    have hee:(tkD (tks X.l) false (opD 8 d)).e=(tkD (tks X.l) false d).e∧(tkD (tks X.l) false (opD 8 d)).e≠0∧(tkD (tks X.l) false (opD 8 d)).i=d.i:=by
     unfold tkD
     simp only [Bool.false_eq_true,if_false,ho.1,ho.2,if_pos hz]
     split
     ·exact ⟨rfl,by show (120:Int)≠0;decide,by first|rfl|exact ho.2⟩
     ·exact ⟨rfl,by show (121:Int)≠0;decide,by first|rfl|exact ho.2⟩
    have hi:=ib_tk (L:=tks X.l) (d:=opD 8 d) ne_nm
    rw [hq2] at hi
    exact .inr ⟨by simp only [kinVU,h1,h2,h3];rfl,by simp only [kinVW,h1,h2,h3];rfl,_,ib_op (m:=.kind) (by rw [hd,h2,h3];rfl) (rb_cons hi (rb_one (dead_lv hee.2.1))),hee.1,hee.2.2⟩
theorem statement_pc (n:Nat) (hact:RwC 164 gr_act 90 n) (hskip:RwC 165 gr_skip 90 n) (hbranches:RwC 166 gr_branches 90 n) (hwhile:RwC 167 gr_while 90 n) (hcount:RwC 168 gr_count 90 n) (hrepeat:RwC 169 gr_repeat 90 n) (hanswer:RwC 170 gr_answer 90 n) (hcompound:RwC 171 gr_compound 90 n):PC .statement 138 n:=by
 intro X r d W h
 refine (statement_any h).mono ?_
 rintro e w' ⟨rfl,hb⟩
 refine ⟨_,_,rfl,?_,hb⟩
 have hn:=h.hnx
 have hz:=h.e0
 generalize nx X (ps X.l d.i)=t at *
 have hd:drow (nxt (tks X.l) d) .statement=if t.k == 1 then .op 14 gr_act else if t.k == 2 then wordedR t.t else .ref:=by
  rw [hn]
  cases nxt (tks X.l) d <;> rfl
 have hee:(tkD (tks X.l) false d).i=d.i:=by unfold tkD;simp only [Bool.false_eq_true,if_false];(repeat' split) <;> rfl
 cases h1:(t.k == 1) with
 |true=>exact .inl ⟨14,_,gr_act,by simp only [stmVU,h1];rfl,by simp only [stmVW,h1];rfl,en_act,rfl,hact.at (by omega) X _,fun d' hh=>ib_op (m:=.statement) (by rw [hd,h1];rfl) hh⟩
 |false=>
  cases h2:(t.k == 2) with
  |false=>exact .inr ⟨by simp only [stmVU,h1,h2];rfl,by simp only [stmVW,h1,h2];rfl,_,ib_ref (m:=.statement) (by rw [hd,h1,h2];rfl),rfl,hee⟩
  |true=>
   cases g13:t.is [115,107,105,112] with
   |true=>
    have hs:t.t=⟨#[115,107,105,112]⟩:=is_lit g13 (by decide +kernel)
    exact .inl ⟨13,_,gr_skip,by simp only [stmVU,h1,h2,g13];rfl,by simp only [stmVW,h1,h2,g13];rfl,en_skip,rfl,hskip.at (by omega) X _,fun d' hh=>ib_op (m:=.statement) (by rw [hd,h1,h2,hs];kernel_rfl) hh⟩
   |false=>
    cases g15:t.is [105,102] with
    |true=>
     have hs:t.t=⟨#[105,102]⟩:=is_lit g15 (by decide +kernel)
     exact .inl ⟨15,_,gr_branches,by simp only [stmVU,h1,h2,g13,g15];rfl,by simp only [stmVW,h1,h2,g13,g15];rfl,en_branches,rfl,hbranches.at (by omega) X _,fun d' hh=>ib_op (m:=.statement) (by rw [hd,h1,h2,hs];kernel_rfl) hh⟩
    |false=>
     cases g16:t.is [119,104,105,108,101] with
     |true=>
      have hs:t.t=⟨#[119,104,105,108,101]⟩:=is_lit g16 (by decide +kernel)
      exact .inl ⟨16,_,gr_while,by simp only [stmVU,h1,h2,g13,g15,g16];rfl,by simp only [stmVW,h1,h2,g13,g15,g16];rfl,en_while,rfl,hwhile.at (by omega) X _,fun d' hh=>ib_op (m:=.statement) (by rw [hd,h1,h2,hs];kernel_rfl) hh⟩
     |false=>
      cases g17:t.is [102,111,114] with
      |true=>
       have hs:t.t=⟨#[102,111,114]⟩:=is_lit g17 (by decide +kernel)
       exact .inl ⟨17,_,gr_count,by simp only [stmVU,h1,h2,g13,g15,g16,g17];rfl,by simp only [stmVW,h1,h2,g13,g15,g16,g17];rfl,en_count,rfl,hcount.at (by omega) X _,fun d' hh=>ib_op (m:=.statement) (by rw [hd,h1,h2,hs];kernel_rfl) hh⟩
      |false=>
       cases g18:t.is [114,101,112,101,97,116] with
       |true=>
        have hs:t.t=⟨#[114,101,112,101,97,116]⟩:=is_lit g18 (by decide +kernel)
        exact .inl ⟨18,_,gr_repeat,by simp only [stmVU,h1,h2,g13,g15,g16,g17,g18];rfl,by simp only [stmVW,h1,h2,g13,g15,g16,g17,g18];rfl,en_repeat,rfl,hrepeat.at (by omega) X _,fun d' hh=>ib_op (m:=.statement) (by rw [hd,h1,h2,hs];kernel_rfl) hh⟩
       |false=>
        cases g19:t.is [114,101,116,117,114,110] with
        |true=>
         have hs:t.t=⟨#[114,101,116,117,114,110]⟩:=is_lit g19 (by decide +kernel)
         exact .inl ⟨19,_,gr_answer,by simp only [stmVU,h1,h2,g13,g15,g16,g17,g18,g19];rfl,by simp only [stmVW,h1,h2,g13,g15,g16,g17,g18,g19];rfl,en_answer,rfl,hanswer.at (by omega) X _,fun d' hh=>ib_op (m:=.statement) (by rw [hd,h1,h2,hs];kernel_rfl) hh⟩
        |false=>
         cases g20:t.is [98,101,103,105,110] with
         |true=>
          have hs:t.t=⟨#[98,101,103,105,110]⟩:=is_lit g20 (by decide +kernel)
          exact .inl ⟨20,_,gr_compound,by simp only [stmVU,h1,h2,g13,g15,g16,g17,g18,g19,g20];rfl,by simp only [stmVW,h1,h2,g13,g15,g16,g17,g18,g19,g20];rfl,en_compound,rfl,hcompound.at (by omega) X _,fun d' hh=>ib_op (m:=.statement) (by rw [hd,h1,h2,hs];kernel_rfl) hh⟩
         |false=>
          have hw:wordedR t.t=.ref:=by unfold Tv.is at g13 g15 g16 g17 g18 g19 g20;simp only [wordedR,g13,g15,g16,g17,g18,g19,g20];rfl
          exact .inr ⟨by simp only [stmVU,h1,h2,g13,g15,g16,g17,g18,g19,g20];rfl,by simp only [stmVW,h1,h2,g13,g15,g16,g17,g18,g19,g20];rfl,_,ib_ref (m:=.statement) (by rw [hd,h1,h2,hw];rfl),rfl,hee⟩
theorem declaration_pd (n:Nat) (hvariables:RwC 134 gr_variables 90 n) (hconstant:RwC 135 gr_constant 90 n) (hprocedure:RwC 136 gr_procedure 90 n):PD .declaration 114 n:=by
 intro X r d W h
 refine (declaration_any h).mono ?_
 rintro e w' ⟨rfl,hb⟩
 refine ⟨_,_,rfl,?_,hb⟩
 have hp:dpick (nxt (tks X.l) d) (.fn .declaration)=if (nx X (ps X.l d.i)).k == 2 then ((Dk.declaration).pick (nx X (ps X.l d.i))).map (fun m=>.fl (.mt m)) else none:=by rw [h.hnx];exact dpick_fn _ _
 generalize nx X (ps X.l d.i)=t at *
 cases h2:(t.k == 2) with
 |false=>exact .inr ⟨by simp only [decVU,h2];rfl,by simp only [decVW,h2];rfl,by rw [hp,h2];rfl⟩
 |true=>
  cases g3:t.is [118,97,114] with
  |true=>exact .inl ⟨3,_,gr_variables,.fl (.mt .variables),by simp only [decVU,h2,g3];rfl,by simp only [decVW,h2,g3];rfl,en_variables,rfl,hvariables,by rw [hp,h2];simp only [Dk.pick,g3];rfl,fun d' hh=>ib_op (m:=.variables) rfl hh⟩
  |false=>
   cases g4:t.is [99,111,110,115,116] with
   |true=>exact .inl ⟨4,_,gr_constant,.fl (.mt .constants),by simp only [decVU,h2,g3,g4];rfl,by simp only [decVW,h2,g3,g4];rfl,en_constant,rfl,hconstant,by rw [hp,h2];simp only [Dk.pick,g3,g4];rfl,fun d' hh=>ib_op (m:=.constants) rfl hh⟩
   |false=>
    cases g5:t.is [112,114,111,99] with
    |true=>exact .inl ⟨5,_,gr_procedure,.fl (.mt .procedure),by simp only [decVU,h2,g3,g4,g5];rfl,by simp only [decVW,h2,g3,g4,g5];rfl,en_procedure,rfl,hprocedure,by rw [hp,h2];simp only [Dk.pick,g3,g4,g5];rfl,fun d' hh=>ib_op (m:=.procedure) rfl hh⟩
    |false=>
     exact .inr ⟨by simp only [decVU,h2,g3,g4,g5];rfl,by simp only [decVW,h2,g3,g4,g5];rfl,by rw [hp,h2];simp only [Dk.pick,g3,g4,g5];rfl⟩
theorem detail_pd (n:Nat) (hindex:RwC 208 gr_index 90 n) (hselection:RwC 209 gr_selection 90 n) (hargs:RwC 210 gr_args 90 n):PD .detail 201 n:=by
 intro X r d W h
 refine (detail_any h).mono ?_
 rintro e w' ⟨rfl,hb⟩
 refine ⟨_,_,rfl,?_,hb⟩
 have hp:dpick (nxt (tks X.l) d) (.fn .detail)=if (nx X (ps X.l d.i)).k == 6 then ((Dk.detail).pick (nx X (ps X.l d.i))).map (fun m=>.fl (.mt m)) else none:=by rw [h.hnx];exact dpick_fn _ _
 generalize nx X (ps X.l d.i)=t at *
 cases h2:(t.k == 6) with
 |false=>exact .inr ⟨by simp only [detVU,h2];rfl,by simp only [detVW,h2];rfl,by rw [hp,h2];rfl⟩
 |true=>
  cases g29:t.is [91] with
  |true=>exact .inl ⟨29,_,gr_index,.fl (.mt .index),by simp only [detVU,h2,g29];rfl,by simp only [detVW,h2,g29];rfl,en_index,rfl,hindex,by rw [hp,h2];simp only [Dk.pick,g29];rfl,fun d' hh=>ib_op (m:=.index) rfl hh⟩
  |false=>
   cases g30:t.is [46] with
   |true=>exact .inl ⟨30,_,gr_selection,.fl (.mt .selection),by simp only [detVU,h2,g29,g30];rfl,by simp only [detVW,h2,g29,g30];rfl,en_selection,rfl,hselection,by rw [hp,h2];simp only [Dk.pick,g29,g30];rfl,fun d' hh=>ib_op (m:=.selection) rfl hh⟩
   |false=>
    cases g31:t.is [40] with
    |true=>exact .inl ⟨31,_,gr_args,.fl (.mt .args),by simp only [detVU,h2,g29,g30,g31];rfl,by simp only [detVW,h2,g29,g30,g31];rfl,en_args,rfl,hargs,by rw [hp,h2];simp only [Dk.pick,g29,g30,g31];rfl,fun d' hh=>ib_op (m:=.args) rfl hh⟩
    |false=>
     exact .inr ⟨by simp only [detVU,h2,g29,g30,g31];rfl,by simp only [detVW,h2,g29,g30,g31];rfl,by rw [hp,h2];simp only [Dk.pick,g29,g30,g31];rfl⟩
structure AllR (n:Nat):Prop where
 r_block:RwC 80 gr_block 40 n
 r_variables:RwC 134 gr_variables 90 n
 r_constant:RwC 135 gr_constant 90 n
 r_procedure:RwC 136 gr_procedure 90 n
 r_params:RwC 162 gr_params 90 n
 r_typed:RwC 160 gr_typed 90 n
 r_array:RwC 184 gr_array 90 n
 r_record:RwC 185 gr_record 90 n
 r_body:RwC 115 gr_body 45 n
 r_skip:RwC 165 gr_skip 90 n
 r_act:RwC 164 gr_act 90 n
 r_branch:RwC 187 gr_branch 45 n
 r_done:RwC 188 gr_done 90 n
 r_branches:RwC 166 gr_branches 90 n
 r_while:RwC 167 gr_while 90 n
 r_count:RwC 168 gr_count 90 n
 r_repeat:RwC 169 gr_repeat 90 n
 r_answer:RwC 170 gr_answer 90 n
 r_compound:RwC 171 gr_compound 90 n
 r_expr:RwC 161 gr_expr 50 n
 r_rel:RwC 183 gr_rel 55 n
 r_sum:RwC 200 gr_sum 60 n
 r_term:RwC 207 gr_term 65 n
 r_minus:RwC 212 gr_minus 90 n
 r_not:RwC 211 gr_not 90 n
 r_group:RwC 213 gr_group 90 n
 r_object:RwC 186 gr_object 95 n
 r_list:RwC 216 gr_list 45 n
 r_index:RwC 208 gr_index 90 n
 r_selection:RwC 209 gr_selection 90 n
 r_args:RwC 210 gr_args 90 n
theorem all_rc (n:Nat):AllR n:=by
 induction n using Nat.strongRecOn with
 |ind n ih=>
  have FA:∀k,k<n→PC .factor 202 k:=fun k hk=>factor_pc k (ih k hk).r_minus (ih k hk).r_not (ih k hk).r_group (ih k hk).r_object
  have KA:∀k,k<n→PC .kind 163 k:=fun k hk=>kind_pc k (ih k hk).r_array (ih k hk).r_record
  have SA:∀k,k<n→PC .statement 138 k:=fun k hk=>statement_pc k (ih k hk).r_act (ih k hk).r_skip (ih k hk).r_branches (ih k hk).r_while (ih k hk).r_count (ih k hk).r_repeat (ih k hk).r_answer (ih k hk).r_compound
  have DA:∀k,k<n→PD .detail 201 k:=fun k hk=>detail_pd k (ih k hk).r_index (ih k hk).r_selection (ih k hk).r_args
  have object:=object_rc n (hdetailA:=DA)
  have minus:=minus_rc n (hfactorA:=FA)
  have not:=not_rc n (hfactorA:=FA)
  have group:=group_rc n (hexprA:=(fun k hk=>(ih k hk).r_expr))
  have factorN:=factor_pc n minus not group object
  have term:=term_rc n (hfactor:=factorN) (hfactorA:=FA)
  have sum:=sum_rc n (hterm:=term) (htermA:=(fun k hk=>(ih k hk).r_term))
  have rel:=rel_rc n (hsum:=sum) (hsumA:=(fun k hk=>(ih k hk).r_sum))
  have expr:=expr_rc n (hrel:=rel) (hrelA:=(fun k hk=>(ih k hk).r_rel))
  have list:=list_rc n (hexpr:=expr) (hexprA:=(fun k hk=>(ih k hk).r_expr))
  have index:=index_rc n (hlistA:=(fun k hk=>(ih k hk).r_list))
  have selection:=selection_rc n
  have args:=args_rc n (hlistA:=(fun k hk=>(ih k hk).r_list))
  have typed:=typed_rc n (hkindA:=KA)
  have array:=array_rc n (hexprA:=(fun k hk=>(ih k hk).r_expr)) (hkindA:=KA)
  have record:=record_rc n (htypedA:=(fun k hk=>(ih k hk).r_typed))
  have params:=params_rc n (htypedA:=(fun k hk=>(ih k hk).r_typed))
  have variables:=variables_rc n (htypedA:=(fun k hk=>(ih k hk).r_typed))
  have constant:=constant_rc n (hexprA:=(fun k hk=>(ih k hk).r_expr))
  have act:=act_rc n (hobject:=object) (hexprA:=(fun k hk=>(ih k hk).r_expr))
  have branch:=branch_rc n (hexpr:=expr) (hbodyA:=(fun k hk=>(ih k hk).r_body))
  have done:=done_rc n (hbodyA:=(fun k hk=>(ih k hk).r_body))
  have branches:=branches_rc n (hbranchA:=(fun k hk=>(ih k hk).r_branch)) (hbodyA:=(fun k hk=>(ih k hk).r_body))
  have «while»:=while_rc n (hexprA:=(fun k hk=>(ih k hk).r_expr)) (hdoneA:=(fun k hk=>(ih k hk).r_done))
  have count:=count_rc n (hexprA:=(fun k hk=>(ih k hk).r_expr)) (hdoneA:=(fun k hk=>(ih k hk).r_done))
  have «repeat»:=repeat_rc n (hbodyA:=(fun k hk=>(ih k hk).r_body)) (hexprA:=(fun k hk=>(ih k hk).r_expr))
  have answer:=answer_rc n (hexprA:=(fun k hk=>(ih k hk).r_expr))
  have compound:=compound_rc n (hbodyA:=(fun k hk=>(ih k hk).r_body))
  have skip:=skip_rc n
  have statementN:=statement_pc n act skip branches «while» count «repeat» answer compound
  have body:=body_rc n (hstatement:=statementN) (hstatementA:=SA)
  have procedure:=procedure_rc n (hparamsA:=(fun k hk=>(ih k hk).r_params)) (hkindA:=KA) (hblockA:=(fun k hk=>(ih k hk).r_block))
  have declarationN:=declaration_pd n variables constant procedure
  have block:=block_rc n (hdeclaration:=declarationN) (hbodyA:=(fun k hk=>(ih k hk).r_body))
  exact ⟨block,variables,constant,procedure,params,typed,array,record,body,skip,act,branch,done,branches,«while»,count,«repeat»,answer,compound,expr,rel,sum,term,minus,not,group,object,list,index,selection,args⟩
def Pr (X:Sx) (d:D) (e:Ending) (w:World):Prop:=(d.e=0∧d.i=(tks X.l).length∧e=.returned (.tuple #[])∧SD X 0 d w)∨((d.e=0→d.i<(tks X.l).length)∧e=.panicked (stop (if d.e=0 then 120 else d.e) (ps X.l d.i))∧Below X.w0.heap.size X.w0 w)
theorem pr_err {X:Sx}{d:D}{w:World}(hz:d.e≠0) (hb:Below X.w0.heap.size X.w0 w):Pr X d (.panicked (stop d.e (ps X.l d.i))) w:=.inr ⟨fun h=>absurd h hz,by rw [if_neg hz],hb⟩
def Nof (X:Sx):Nat→List Ev:=fun j=>(nts X.l j).map ntE
theorem sd_start {X:Sx}{W:World}(h:SV X (0+(lead (X.l.drop 0)).length) 1 ([⟨1,1,tv0⟩]++(lead (X.l.drop 0)).map ntE) W):SD X 1 (opD 1 (d00 (Nof X))) W:=by
 rw [d1_is]
 rw [List.drop_zero,Nat.zero_add] at h
 refine ⟨?_,rfl,Nat.zero_le _,rfl,by simp,by simp,?_⟩
 ·show SV X (ps X.l 0) 1 (evX X _) W
  rw [ps_zero]
  have:evX X ⟨0,[(1,1)],1,[],0,[⟨1,1,tv0⟩],Nof X⟩=[⟨1,1,tv0⟩]++(lead X.l).map ntE:=by simp [evX]
  rw [this]
  exact h
 ·simp [evX,ps_zero]
  omega
set_option maxHeartbeats 2000000 in
theorem program_rc {X:Sx}{W:World}(h:SV X 0 1 [⟨1,1,tv0⟩] W) :
  Calls Tryz.prog 33 #[pg X.g] W fun e w'=>∃d,Rb (tks X.l) progR (opD 1 (d00 (Nof X))) d∧Pr X d e w':=by
 have hmf:∀(fn:Fn) (first cap:Array Value) (w:World),(Instr.makeFunc fn first cap).run Tryz.prog w=.ok (.func fn first cap) w:=fun _ _ _ _=>rfl
 have HC:Hid (Calls Tryz.prog 76 #[pg X.g] W fun e w'=>e=.returned (.tuple #[])∧SV X (0+(lead (X.l.drop 0)).length) 1 ([⟨1,1,tv0⟩]++(lead (X.l.drop 0)).map ntE) w'):=comments_any h (Nat.zero_le _) (by have:=h.hl;simp;omega)
 have HS:Hid (∀w,SV X (0+(lead (X.l.drop 0)).length) 1 ([⟨1,1,tv0⟩]++(lead (X.l.drop 0)).map ntE) w→SD X 1 (opD 1 (d00 (Nof X))) w):=fun w hw=>sd_start hw
 obtain ⟨d,hd⟩:∃d,opD 1 (d00 (Nof X))=d:=⟨_,rfl⟩
 rw [hd] at HS ⊢
 clear h hd
 go_enter Tryz.func33,Tryz.ntmps33
 go_wp2_with fail
 refine HC.out.mono ?_
 rintro e w0 ⟨rfl,h0⟩
 have H0:=show Hid _ from HS.out _ h0
 clear h0 HC HS
 go_wp2_with fail
 refine (key_ib H0.out (by omega) (by kernel_rfl)).mono ?_
 rintro e w1 ⟨d1,i1,o1⟩
 have I1:=hid i1
 rcases o1 with ⟨z1,rfl,h1⟩|⟨z1,rfl,h1⟩
 rotate_left
 ·have HP:=hid h1
  have HZ:=hid z1
  clear h1 i1 z1
  go_wp2_with fail
  exact ⟨rfl,_,(rb_cons I1.out (dead_rb HZ.out _)),pr_err HZ.out HP.out⟩
 have H1:=hid h1
 clear h1 i1 z1
 go_wp2_with fail
 refine (name_ib H1.out (by omega)).mono ?_
 rintro e w2 ⟨d2,i2,o2⟩
 have I2:=hid i2
 rcases o2 with ⟨z2,rfl,h2⟩|⟨z2,rfl,h2⟩
 rotate_left
 ·have HP:=hid h2
  have HZ:=hid z2
  clear h2 i2 z2
  go_wp2_with fail
  exact ⟨rfl,_,(rb_cons I1.out (rb_cons I2.out (dead_rb HZ.out _))),pr_err HZ.out HP.out⟩
 have H2:=hid h2
 clear h2 i2 z2
 go_wp2_with fail
 refine (sign_ib H2.out (by omega) (by kernel_rfl)).mono ?_
 rintro e w3 ⟨d3,i3,o3⟩
 have I3:=hid i3
 rcases o3 with ⟨z3,rfl,h3⟩|⟨z3,rfl,h3⟩
 rotate_left
 ·have HP:=hid h3
  have HZ:=hid z3
  clear h3 i3 z3
  go_wp2_with fail
  exact ⟨rfl,_,(rb_cons I1.out (rb_cons I2.out (rb_cons I3.out (dead_rb HZ.out _)))),pr_err HZ.out HP.out⟩
 have H3:=hid h3
 clear h3 i3 z3
 go_wp2_with fail
 refine (node_ib H3.out (by omega) (by omega) (Nat.le_refl _) (all_rc (ms (tks X.l) d3)).r_block en_block rfl (fun d' hh=>ib_op (m:=.block) rfl hh)).mono ?_
 rintro e w4 ⟨d4,i4,o4⟩
 have I4:=hid i4
 rcases o4 with ⟨z4,rfl,h4⟩|⟨z4,rfl,h4⟩
 rotate_left
 ·have HP:=hid h4
  have HZ:=hid z4
  clear h4 i4 z4
  go_wp2_with fail
  exact ⟨rfl,_,(rb_cons I1.out (rb_cons I2.out (rb_cons I3.out (rb_cons I4.out (dead_rb HZ.out _))))),pr_err HZ.out HP.out⟩
 have H4:=hid h4
 clear h4 i4 z4
 go_wp2_with fail
 refine (sign_ib H4.out (by omega) (by kernel_rfl)).mono ?_
 rintro e w5 ⟨d5,i5,o5⟩
 have I5:=hid i5
 rcases o5 with ⟨z5,rfl,h5⟩|⟨z5,rfl,h5⟩
 rotate_left
 ·have HP:=hid h5
  have HZ:=hid z5
  clear h5 i5 z5
  go_wp2_with fail
  exact ⟨rfl,_,(rb_cons I1.out (rb_cons I2.out (rb_cons I3.out (rb_cons I4.out (rb_cons I5.out (dead_rb HZ.out _)))))),pr_err HZ.out HP.out⟩
 have H5:=hid h5
 clear h5 i5 z5
 obtain ⟨ve,hs,_,_⟩:=H5.out.sv.ex
 obtain ⟨c0,c1,c2,c3⟩:=hs.cells
 have hgl:=hs.lt
 have IB:=show Hid _ from ((rb_cons I1.out (rb_cons I2.out (rb_cons I3.out (rb_cons I4.out (rb_cons I5.out rb_nil))))):Rb (tks X.l) progR d d5)
 clear hs
 by_cases hi:d5.i<(tks X.l).length
 ·have q1:((ps X.l d5.i:Int)<X.l.length):=by have:=ps_lt.2 hi;omega
  have HR:Hid (∀V,Below w5.heap.size w5 V→Calls Tryz.prog 81 #[pg X.g] V fun e w'=>e=.panicked (stop 120 (ps X.l d5.i))∧Below X.w0.heap.size X.w0 w'):=fun V hb=>(refuse_any (H5.out.below hb).sv).mono (fun e w' ⟨h1,h2⟩=>⟨by rw [h1,if_neg (by have:=ps_lt.2 hi;omega)],(H5.out.below hb).sv.bel.trans (h2.mono (H5.out.below hb).sv.bel.size)⟩)
  have HB:Hid (∀m,Below w5.heap.size w5 (w5.drewN m)):=fun m=>below_dr (Below.refl _ _) m
  have HI:=hid hi
  clear hi
  go_wp2_with fail
  go_quiet (fail)
  go_wp2_with fail
  refine (HR.out _ (HB.out _)).mono ?_
  rintro e w9 ⟨rfl,hb9⟩
  have HB9:=hid hb9
  clear hb9
  go_wp2_with fail
  exact ⟨rfl,_,IB.out,.inr ⟨fun _=>HI.out,by rw [if_pos H5.out.e0],HB9.out⟩⟩
 ·have q1:¬((ps X.l d5.i:Int)<X.l.length):=(fun hn:¬ps X.l d5.i<X.l.length=>by omega) (fun h=>hi (ps_lt.1 h))
  have HB:Hid (∀m,SD X 0 d5 (w5.drewN m)):=fun m=>H5.out.below (below_dr (Below.refl _ _) m)
  have HI:Hid (d5.i=(tks X.l).length):=by have:=H5.out.il;show _=_;omega
  clear hi
  go_wp2_with fail
  go_quiet (fail)
  go_wp2_with fail
  go_end0
  exact ⟨_,IB.out,.inl ⟨H5.out.e0,HI.out,rfl,HB.out _⟩⟩
end Go.Proofs.YtkigadnkclkopaaGreatDoor
