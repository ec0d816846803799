import Derived.Test.YtkigadnkclkopaaGreatDoorM10
set_option linter.unusedVariables false
set_option linter.unusedSimpArgs false
namespace Go.Proofs.YtkigadnkclkopaaGreatDoor.Lx
open Go.RowKit
theorem sg_iff {s:ByteArray}{p:Nat}(hp:p<s.size):(sg s p).size≠0↔∃x∈signL,by8 x 0=by8 s p:=by
 refine ⟨sg_byte,?_⟩
 rintro ⟨x,hx,hy⟩
 obtain ⟨y,y1,y2,y3⟩:=sign_one x hx
 have hpre:pre s p y=true:=by
  unfold pre
  refine decide_eq_true ⟨by omega,?_⟩
  have hz:=size_ext s p (p+y.size) (by omega)
  refine by8_ext _ _ (by omega) (fun j hj=>?_)
  rw [hz] at hj
  obtain rfl:j=0:=by omega
  rw [by8_ext' s p _ 0 (by omega),Nat.add_zero,y3,hy]
 have h9:(signL.find? (pre s p)).isSome=true:=List.find?_isSome.2 ⟨_,y1,hpre⟩
 obtain ⟨u,hu⟩:=Option.isSome_iff_exists.1 h9
 have hum:=List.mem_of_find?_eq_some hu
 unfold sg
 rw [hu]
 show u.size≠0
 rcases sign_ten u hum with h8|⟨h8,_⟩ <;> omega
theorem sg_enc {s:ByteArray}{p:Nat}(hp:p<s.size):((sg (Utf8.encode (dp s p:Int)) 0).size≠0↔(sg s p).size≠0)∧0<(Utf8.encode (dp s p:Int)).size:=by
 have h0:=enc_pos _ (dp_pt s p)
 refine ⟨?_,h0⟩
 rw [sg_iff h0,sg_iff hp,enc_b0 _ (dp_pt s p)]
 by_cases h:dp s p<128
 ·rw [if_pos h,dp_asc s p h]
 ·rw [if_neg h]
  have h8:¬by8 s p<128:=fun h8=>h (by rw [(chr_asc s p h8).2.1];exact h8)
  constructor
  ·rintro ⟨x,hx,hy⟩
   have:=(sign_byte x hx).2.2.2.2.2.2.1
   rw [hy] at this
   exfalso
   revert this
   repeat' split
   all_goals (intro _;omega)
  ·rintro ⟨x,hx,hy⟩
   have:=(sign_byte x hx).2.2.2.2.2.2.1
   omega
set_option maxHeartbeats 1000000 in
theorem lbegin_any (s:ByteArray) (p:Nat) (hp:p<s.size) (W:World) (hK:Kab W) :
  Calls Tryz.prog 67 #[.int .i32 (dp s p)] W fun e w'=>e=.returned (.int .i64 (bgK s p))∧Below W.heap.size W w':=by
 have hd:=dp_le s p
 have hwr:IntKind.i64.wrap (dp s p:Int)=dp s p:=by rw [IntKind.wrap_i64];omega
 obtain ⟨se,hse⟩:=sg_enc hp
 have HL:Hid (Calls Tryz.prog 46 #[.int .i64 (dp s p)] W fun e w'=>e=.returned (.bool (gd s p && lt' (dp s p)))∧w'=W):=by
  have:=letter_any (dp s p) W hK.1
  rw [x_letter] at this
  exact this
 have HD:Hid (Calls Tryz.prog 61 #[.int .i32 (dp s p)] W fun e w'=>e=.returned (.bool (tkDg (by8 s p)))∧w'=W):=by
  have:=lisDigit_any (dp s p) W
  rw [x_digit] at this
  exact this
 have HS:Hid (∀V,STab V→Calls Tryz.prog 93 #[.string (Utf8.encode (dp s p:Int)),.int .i64 0] V fun e w'=>e=.returned (.string (sg (Utf8.encode (dp s p:Int)) 0))∧Below V.heap.size V w'):=fun V hV=>sign_in _ 0 V hV hse
 have i34:=x_is s p 34 (by decide)
 have i39:=x_is s p 39 (by decide)
 have i123:=x_is s p 123 (by decide)
 have HB:Hid (bgK s p=if (gd s p && lt' (dp s p))=true then 1 else if tkDg (by8 s p)=true then 2 else if by8 s p=34 then 6 else if by8 s p=39 then 7 else if by8 s p=123 then 5 else if (sg s p).size≠0 then 3 else 0):=rfl
 have HT:Hid (STab W):=hK.2.2
 have HW:Hid (Below W.heap.size W W):=Below.refl _ _
 generalize (gd s p && lt' (dp s p))=r1 at *
 generalize tkDg (by8 s p)=r2 at *
 generalize bgK s p=B at *
 generalize by8 s p=c at *
 generalize (sg s p).size=z at *
 obtain ⟨E,hE⟩:∃E,Utf8.encode (dp s p:Int)=E:=⟨_,rfl⟩
 rw [hE] at HS se hse
 obtain ⟨G,hG⟩:∃G,sg E 0=G:=⟨_,rfl⟩
 rw [hG] at HS se
 clear hK hG
 generalize (dp s p:Int)=d at *
 cases r1
 ·cases r2
  ·by_cases c34:c=34
   ·have q34:d=34:=i34.2 c34
    have HR:Hid (B=6):=by show _=_;rw [HB.out];simp [c34]
    subst q34
    clear HB i34 i39 i123 c34 hE
    go_enter Tryz.func67,Tryz.ntmps67
    go_wp2_with (first|(go_at_call 46;refine HL.out.mono ?_;rintro e w1 ⟨rfl,hw⟩;replace hw:=hw.symm;subst hw)|(go_at_call 61;refine HD.out.mono ?_;rintro e w1 ⟨rfl,hw⟩;replace hw:=hw.symm;subst hw))
    go_ret
    exact ⟨by rw [HR.out];rfl,HW.out⟩
   ·have q34:(d == 34)=false:=by rw [beq_eq_false_iff_ne];exact fun h=>c34 (i34.1 h)
    by_cases c39:c=39
    ·have q39:d=39:=i39.2 c39
     have HR:Hid (B=7):=by show _=_;rw [HB.out];simp [c39]
     subst q39
     clear HB i34 i39 i123 c34 c39 hE q34
     go_enter Tryz.func67,Tryz.ntmps67
     go_wp2_with (first|(go_at_call 46;refine HL.out.mono ?_;rintro e w1 ⟨rfl,hw⟩;replace hw:=hw.symm;subst hw)|(go_at_call 61;refine HD.out.mono ?_;rintro e w1 ⟨rfl,hw⟩;replace hw:=hw.symm;subst hw))
     go_ret
     exact ⟨by rw [HR.out];rfl,HW.out⟩
    ·have q39:(d == 39)=false:=by rw [beq_eq_false_iff_ne];exact fun h=>c39 (i39.1 h)
     by_cases c123:c=123
     ·have q123:d=123:=i123.2 c123
      have HR:Hid (B=5):=by show _=_;rw [HB.out];simp [c123]
      subst q123
      clear HB i34 i39 i123 c34 c39 c123 hE q34 q39
      go_enter Tryz.func67,Tryz.ntmps67
      go_wp2_with (first|(go_at_call 46;refine HL.out.mono ?_;rintro e w1 ⟨rfl,hw⟩;replace hw:=hw.symm;subst hw)|(go_at_call 61;refine HD.out.mono ?_;rintro e w1 ⟨rfl,hw⟩;replace hw:=hw.symm;subst hw))
      go_ret
      exact ⟨by rw [HR.out];rfl,HW.out⟩
     ·have q123:(d == 123)=false:=by rw [beq_eq_false_iff_ne];exact fun h=>c123 (i123.1 h)
      have hcv:∀V,(convert 21 9 (.int .i32 d)).run Tryz.prog V=.ok (.string E) V:=fun V=>by rw [←hE];simp [convert,run_underlying Tryz.underlying21,run_underlying Tryz.underlying9,Conv.intToString]
      by_cases hz:z=0
      ·have HR:Hid (B=0):=by show _=_;rw [HB.out];simp [c34,c39,c123,hz]
       have hg0:G.size=0:=Classical.byContradiction fun h=>(se.1 h) hz
       have hG0:G=ByteArray.empty:=by8_ext _ _ (by rw [hg0];rfl) (fun j hj=>by omega)
       subst hG0
       clear HB i34 i39 i123 c34 c39 c123 hE se hz hg0
       go_enter Tryz.func67,Tryz.ntmps67
       go_wp2_with (first|(go_at_call 46;refine HL.out.mono ?_;rintro e w1 ⟨rfl,hw⟩;replace hw:=hw.symm;subst hw)|(go_at_call 61;refine HD.out.mono ?_;rintro e w1 ⟨rfl,hw⟩;replace hw:=hw.symm;subst hw)|(go_at_call 93;refine (HS.out _ HT.out).mono ?_;rintro e w3 ⟨rfl,hb3⟩))
       go_ret
       exact ⟨by rw [HR.out];rfl,hb3⟩
      ·have HR:Hid (B=3):=by show _=_;rw [HB.out];simp [c34,c39,c123,hz]
       have hg0:G.size≠0:=se.2 hz
       have hG0:G.toList.isEmpty=false:=by
        rw [tl_data]
        cases e:G.data.toList with
        |nil=>exact absurd (show G.data.size=0 by rw [←Array.length_toList,e];rfl) hg0
        |cons x y=>rfl
       have hG1:(G.toList == [])=false:=by
        cases e:G.toList with
        |nil=>rw [e] at hG0;cases hG0
        |cons x y=>rfl
       clear HB i34 i39 i123 c34 c39 c123 hE se hz hg0
       go_enter Tryz.func67,Tryz.ntmps67
       go_wp2_with (first|(go_at_call 46;refine HL.out.mono ?_;rintro e w1 ⟨rfl,hw⟩;replace hw:=hw.symm;subst hw)|(go_at_call 61;refine HD.out.mono ?_;rintro e w1 ⟨rfl,hw⟩;replace hw:=hw.symm;subst hw)|(go_at_call 93;refine (HS.out _ HT.out).mono ?_;rintro e w3 ⟨rfl,hb3⟩))
       go_ret
       exact ⟨by rw [HR.out];rfl,hb3⟩
  ·have HR:Hid (B=2):=by show _=_;rw [HB.out];simp
   clear HB i34 i39 i123 hE
   go_enter Tryz.func67,Tryz.ntmps67
   go_wp2_with (first|(go_at_call 46;refine HL.out.mono ?_;rintro e w1 ⟨rfl,hw⟩;replace hw:=hw.symm;subst hw)|(go_at_call 61;refine HD.out.mono ?_;rintro e w1 ⟨rfl,hw⟩;replace hw:=hw.symm;subst hw))
   go_ret
   exact ⟨by rw [HR.out];rfl,HW.out⟩
 ·have HR:Hid (B=1):=by show _=_;rw [HB.out];simp
  clear HB i34 i39 i123 hE
  go_enter Tryz.func67,Tryz.ntmps67
  go_wp2_with (first|(go_at_call 46;refine HL.out.mono ?_;rintro e w1 ⟨rfl,hw⟩;replace hw:=hw.symm;subst hw))
  go_ret
  exact ⟨by rw [HR.out];rfl,HW.out⟩
def xq (s:ByteArray) (p:Nat):Nat:=if p<s.size then p+dw s p else p
def xp (s:ByteArray) (p:Nat):Int:=if p<s.size then (dp s p:Int) else -1
theorem xq_in {s:ByteArray}{p:Nat}(h:p<s.size):xq s p=p+dw s p:=if_pos h
theorem xq_out {s:ByteArray}{p:Nat}(h:s.size≤p):xq s p=p:=if_neg (by omega)
theorem xp_in {s:ByteArray}{p:Nat}(h:p<s.size):xp s p=dp s p:=if_pos h
theorem xp_out {s:ByteArray}{p:Nat}(h:s.size≤p):xp s p=-1:=if_neg (by omega)
theorem xq_bd {s:ByteArray}{p:Nat}(h:bd s p):bd s (xq s p)∧p≤xq s p∧xq s p≤p+4∧xq s p≤s.size:=by
 by_cases hp:p<s.size
 ·rw [xq_in hp]
  have:=dw_facts s p hp
  exact ⟨bd_next h hp,by omega,by omega,by omega⟩
 ·rw [xq_out (by omega)]
  have:=bd_le h
  exact ⟨h,by omega,by omega,by omega⟩
structure SPr (S:Nat→Prop) (w0 W:World) (g:Nat) (s o:ByteArray) (T0:List Tk) (p k b f:Nat) (new:List Tk):Prop where
 lq:Lq S w0 W g k b (pL s b) (pC s b) f (s.extract b p) o (new.map (tv s))
 told:Told s (T0++new) b f
 ms:MS s b p k
 pd:bd s p
def SPo (S:Nat→Prop) (w0:World) (g:Nat) (s o:ByteArray) (T0:List Tk) (p:Nat) (e:Ending) (w':World):Prop:=
 ∃(E k b f p':Nat) (new:List Tk),e=.returned (.int .i64 E)∧Lq S w0 w' g k b (pL s b) (pC s b) f (s.extract b p') o (new.map (tv s))∧bd s b∧bd s p'∧b≤p' ∧
 ((E=0∧p<s.size∧p'=p+dw s p∧Told s (T0++new) b f∧MS s b p' k) ∨
  (E=0∧s.size≤p∧scn s=(T0++new,0,0)) ∨
  (E≠0∧∃A,scn s=(T0++new,E,A)∧(p<s.size→¬Early s E A)∧A=if E=102 then p' else b))
theorem SPr.facts {S:Nat→Prop}{w0 W:World}{g:Nat}{s o:ByteArray}{T0:List Tk}{p k b f:Nat}{new:List Tk}(h:SPr S w0 W g s o T0 p k b f new):b≤p∧p≤b+65535∧bd s b∧p≤s.size∧f≤s.size∧new.length≤s.size:=by
 have h1:=h.ms.len
 have h2:=h.told.bds
 have h3:=bd_le h.pd
 have h4:=h2.2.2.1
 rw [List.length_append] at h4
 exact ⟨h1.1,h1.2,h2.1,h3,by omega,by omega⟩
theorem SPr.below {S:Nat→Prop}{w0 W W':World}{g:Nat}{s o:ByteArray}{T0:List Tk}{p k b f:Nat}{new:List Tk}(h:SPr S w0 W g s o T0 p k b f new) (hb:Below W.heap.size W W'):SPr S w0 W' g s o T0 p k b f new:=⟨h.lq.below hb,h.told,h.ms,h.pd⟩
theorem SPo.bad {S:Nat→Prop}{w0 W w':World}{g:Nat}{s o:ByteArray}{T0:List Tk}{p k b f:Nat}{new:List Tk}(h:SPr S w0 W g s o T0 p k b f new) {k':Nat}(hq:Lq S w0 w' g k' b (pL s b) (pC s b) f (s.extract b p) o (new.map (tv s))) {kk E A:Nat}(h1:tkBgn s b=kk) (h0:kk≠0) (h2:tkEnd s b kk=(A,E)) (hE:E≠0) (hb:b<s.size) (hA:A=if E=102 then p else b) (hy:p<s.size→¬Early s E A) :
  SPo S w0 g s o T0 p (.returned (.int .i64 E)) w':=
 ⟨E,k',b,f,p,new,rfl,hq,h.facts.2.2.1,h.pd,h.facts.1,.inr (.inr ⟨hE,A,told_bad h.told hb h1 h0 h2 hE,hy,hA⟩)⟩
theorem ext_cat (s:ByteArray) (b p q:Nat) (hbp:b≤p) (hpq:p≤q) (hql:q≤s.size):s.extract b p++s.extract p q=s.extract b q:=by
 have hz:=size_ext s b p (by omega)
 have hz2:=size_ext s p q hql
 have h1:=size_ext s b q hql
 refine by8_ext _ _ (by rw [size_app];omega) (fun j hj=>?_)
 rw [size_app] at hj
 rw [by8_app,by8_ext' s b q j (by omega)]
 split
 ·rw [by8_ext' s b p j (by omega)]
 ·rw [by8_ext' s p q _ (by omega)];congr 1;omega
theorem ladd_po {S:Nat→Prop}{w0 W V:World}{g:Nat}{s o:ByteArray}{T0:List Tk}{p k b f:Nat}{new:List Tk}(h:SPr S w0 W g s o T0 p k b f new) {k' kk:Nat}(hV:Lq S w0 V g k' b (pL s b) (pC s b) f (s.extract b p) o (new.map (tv s))) (hp:p<s.size) (hb:b<s.size) (hs:s.size≤2147483647) (h0:kk≠0)
  (hf:65535<p+dw s p-b→tkBgn s b=kk∧tkEnd s b kk=(b,103)) (hm:¬65535<p+dw s p-b→MS s b (p+dw s p) k') :
  Calls Tryz.prog 58 #[.pointer (some ⟨g,0,none⟩),.string (s.extract p (xq s p))] V fun e w'=>SPo S w0 g s o T0 p e w':=by
 obtain ⟨f1,f2,f3,f4,f5,f6⟩:=h.facts
 obtain ⟨q1,q2,q3,q4⟩:=xq_bd h.pd
 have hz:=size_ext s b p f4
 have hz2:=size_ext s p (xq s p) q4
 have ej:=ext_cat s b p (xq s p) f1 q2 q4
 have hx:=xq_in hp
 refine (ladd_any hV (s.extract p (xq s p)) (by omega) (by omega) _ rfl).mono ?_
 rintro e w' ⟨rfl,hq⟩
 by_cases hfull:65535<p+dw s p-b
 ·have hr:decide (65535<(s.extract b p).size+(s.extract p (xq s p)).size)=true:=decide_eq_true (by omega)
  rw [hr] at hq ⊢
  simp only [if_true] at hq ⊢
  obtain ⟨g1,g2⟩:=hf hfull
  exact SPo.bad (E:=103) h hq g1 h0 g2 (by decide) hb rfl (fun _=>not_early (by decide))
 ·have hr:decide (65535<(s.extract b p).size+(s.extract p (xq s p)).size)=false:=decide_eq_false (by omega)
  rw [hr] at hq ⊢
  simp only [Bool.false_eq_true,if_false] at hq ⊢
  rw [ej] at hq
  refine ⟨0,k',b,f,xq s p,new,rfl,hq,f3,q1,by omega,.inl ⟨rfl,hp,hx,h.told,?_⟩⟩
  rw [hx];exact hm hfull
theorem llast_po {S:Nat→Prop}{w0 W V:World}{g:Nat}{s o:ByteArray}{T0:List Tk}{p k b f:Nat}{new:List Tk}(h:SPr S w0 W g s o T0 p k b f new) {k' kk:Nat}(hV:Lq S w0 V g k' b (pL s b) (pC s b) f (s.extract b p) o (new.map (tv s))) (hp:p<s.size) (hb:b<s.size) (hs:s.size≤1000000000) (hk:kk=4∨kk=5∨kk=8)
  (hf:65535<p+dw s p-b→tkBgn s b=kk∧tkEnd s b kk=(b,103)) (hm:¬65535<p+dw s p-b→tkBgn s b=kk∧tkEnd s b kk=(p+dw s p,0)) :
  Calls Tryz.prog 99 #[.pointer (some ⟨g,0,none⟩),.string (s.extract p (xq s p)),.int .u8 kk] V fun e w'=>SPo S w0 g s o T0 p e w':=by
 obtain ⟨f1,f2,f3,f4,f5,f6⟩:=h.facts
 obtain ⟨q1,q2,q3,q4⟩:=xq_bd h.pd
 have hx:=xq_in hp
 refine (laddLast_any hV kk (by omega) f1 q2 q3 f2 f3 q1 (by rw [List.length_map];omega) (by omega) _ rfl).mono ?_
 rintro e w' ⟨rfl,hq⟩
 by_cases hfull:65535<p+dw s p-b
 ·have hr:decide (65535<xq s p-b)=true:=decide_eq_true (by omega)
  rw [hr] at hq ⊢
  simp only [if_true] at hq ⊢
  obtain ⟨g1,g2⟩:=hf hfull
  exact SPo.bad (E:=103) h hq g1 (by omega) g2 (by decide) hb rfl (fun _=>not_early (by decide))
 ·have hr:decide (65535<xq s p-b)=false:=decide_eq_false (by omega)
  rw [hr] at hq ⊢
  simp only [Bool.false_eq_true,if_false] at hq ⊢
  obtain ⟨g1,g2⟩:=hm hfull
  have ht:=(told_tok h.told hb g1 (by omega) g2).1 (.inr hk)
  have e1:tkTok s kk b (p+dw s p) f=⟨kk,b,p+dw s p,f⟩:=by unfold tkTok;rw [if_neg (by omega),if_neg (by omega)]
  rw [e1,List.append_assoc] at ht
  rw [hx] at hq q1
  refine ⟨0,0,p+dw s p,0,p+dw s p,new++[⟨kk,b,p+dw s p,f⟩],rfl,?_,q1,q1,Nat.le_refl _,.inl ⟨rfl,hp,rfl,ht,.none rfl⟩⟩
  have e2:s.extract (p+dw s p) (p+dw s p)=ByteArray.empty:=by
   have:=size_ext s (p+dw s p) (p+dw s p) (by omega)
   exact by8_ext _ _ (by rw [this];show _-_=0;omega) (fun j hj=>by omega)
  rw [e2,List.map_append]
  exact hq
theorem lends_at {s:ByteArray}{p:Nat}(V:World) (r:Bool) (hr:r=true↔(s.size≤p∨by8 s p=10)) :
  Calls Tryz.prog 64 #[.int .i32 (xp s p)] V fun e w'=>e=.returned (.bool r)∧w'=V:=by
 have h:=lendsLine_any (xp s p) V
 have e:(decide (xp s p=10) || decide (xp s p=-1))=r:=by
  rw [Bool.eq_iff_iff,hr,Bool.or_eq_true,decide_eq_true_eq,decide_eq_true_eq]
  by_cases hp:p<s.size
  ·rw [xp_in hp]
   have:=x_is s p 10 (by decide)
   constructor
   ·rintro (h|h)
    ·exact .inr (this.1 h)
    ·omega
   ·rintro (h|h)
    ·omega
    ·exact .inl (this.2 h)
  ·rw [xp_out (by omega)]
   constructor
   ·intro _;exact .inl (by omega)
   ·intro _;exact .inr rfl
 rw [e] at h
 exact h
theorem lfull_at {S:Nat→Prop}{w0 V:World}{g:Nat}{s o:ByteArray}{l:List Tv}{p k b f:Nat}(hV:Lq S w0 V g k b (pL s b) (pC s b) f (s.extract b p) o l) (hbp:b≤p) (hp:p<s.size) (hs:s.size≤2147483647) (r:Bool) (hr:r=true↔65535<p+dw s p-b) :
  Calls Tryz.prog 97 #[.pointer (some ⟨g,0,none⟩),.string (s.extract p (xq s p))] V fun e w'=>e=.returned (.bool r)∧w'=V:=by
 obtain ⟨vt,vo,vs,h1,h2⟩:=hV
 obtain ⟨pp,cap,e1,_⟩:=h2.rt.shape
 have hd:=(dw_facts s p hp).2.2
 have hz:=size_ext s b p (by omega)
 have hz2:=size_ext s p (xq s p) (by rw [xq_in hp];exact hd)
 have hd2:=(dw_facts s p hp).2.1
 have hxq:=xq_in hp
 have:=lfull_any h1 pp _ cap e1 (s.extract p (xq s p)) (by omega) (by omega)
 have e:decide (65535<(s.extract b p).size+(s.extract p (xq s p)).size)=r:=by
  rw [Bool.eq_iff_iff,decide_eq_true_eq,hr]
  rw [xq_in hp] at hz2
  rw [xq_in hp]
  omega
 rw [e] at this
 exact this
theorem lctl_at {s:ByteArray}{p:Nat}(hp:p<s.size) (V:World) (r:Bool) (hr:r=tkCtl s p) :
  Calls Tryz.prog 98 #[.int .i32 (xp s p)] V fun e w'=>e=.returned (.bool r)∧w'=V:=by
 have:=lisControl_any (xp s p) V
 rw [xp_in hp,x_ctl,←hr] at this
 rw [xp_in hp]
 exact this
set_option maxRecDepth 100000 in
set_option maxHeartbeats 2000000 in
theorem linside_text {S:Nat→Prop}{w0 W:World}{g:Nat}{s o:ByteArray}{T0:List Tk}{p b f:Nat}{new:List Tk}(h:SPr S w0 W g s o T0 p 6 b f new) (hs:s.size≤1000000000) :
  Calls Tryz.prog 56 #[.pointer (some ⟨g,0,none⟩),.int .i32 (xp s p),.string (s.extract p (xq s p))] W fun e w'=>SPo S w0 g s o T0 p e w':=by
 obtain ⟨f1,f2,f3,f4,f5,f6⟩:=h.facts
 have hlt:b<s.size:=by
  cases h.ms with
  |text h1 _ _=>omega
 have c5:W.cell? ⟨g,5,none⟩=some (.int .i64 6):=by
  obtain ⟨vt,vo,vs,h1,h2⟩:=h.lq
  exact blk_cell h1 rfl
 by_cases hE:s.size≤p∨by8 s p=10
 ·have HEn:Hid (Calls Tryz.prog 64 #[.int .i32 (xp s p)] W fun e w'=>e=.returned (.bool true)∧w'=W):=lends_at W true ⟨fun _=>hE,fun _=>rfl⟩
  have HF:Hid (SPo S w0 g s o T0 p (.returned (.int .i64 101)) W):=by
   obtain ⟨a1,a2,a3,_⟩:=text_open h.ms f4 (fun hx=>hE.resolve_left (by omega))
   exact SPo.bad (E:=101) h h.lq a1 (by decide) a2 (by decide) hlt rfl a3
  clear h hE
  go_enter Tryz.func56,Tryz.ntmps56
  go_wp2_with fail
  go_step3
  go_wp2_with (first|(go_at_call 64;refine HEn.out.mono ?_;rintro e w1 ⟨rfl,hw⟩;replace hw:=hw.symm;subst hw))
  go_ret
  exact HF.out
 ·have hp:p<s.size:=by omega
  have h10:by8 s p≠10:=fun e=>hE (.inr e)
  have HEn:Hid (Calls Tryz.prog 64 #[.int .i32 (xp s p)] W fun e w'=>e=.returned (.bool false)∧w'=W):=lends_at W false ⟨fun h=>(by cases h),fun h=>absurd h hE⟩
  by_cases hfu:65535<p+dw s p-b
  ·have HFl:Hid (Calls Tryz.prog 97 #[.pointer (some ⟨g,0,none⟩),.string (s.extract p (xq s p))] W fun e w'=>e=.returned (.bool true)∧w'=W):=lfull_at h.lq f1 hp (by omega) true ⟨fun _=>hfu,fun _=>rfl⟩
   have HF:Hid (SPo S w0 g s o T0 p (.returned (.int .i64 103)) W):=by
    obtain ⟨a1,a2⟩:=text_long h.ms hp h10 hfu
    exact SPo.bad (E:=103) h h.lq a1 (by decide) a2 (by decide) hlt rfl (fun _=>not_early (by decide))
   clear h hE h10 hfu
   go_enter Tryz.func56,Tryz.ntmps56
   go_wp2_with fail
   go_step3
   go_wp2_with (first|(go_at_call 64;refine HEn.out.mono ?_;rintro e w1 ⟨rfl,hw⟩;replace hw:=hw.symm;subst hw)|(go_at_call 97;refine HFl.out.mono ?_;rintro e w1 ⟨rfl,hw⟩;replace hw:=hw.symm;subst hw))
   go_ret
   exact HF.out
  ·have HFl:Hid (Calls Tryz.prog 97 #[.pointer (some ⟨g,0,none⟩),.string (s.extract p (xq s p))] W fun e w'=>e=.returned (.bool false)∧w'=W):=lfull_at h.lq f1 hp (by omega) false ⟨fun h=>(by cases h),fun h=>absurd h hfu⟩
   by_cases hct:tkCtl s p=true
   ·have HCt:Hid (Calls Tryz.prog 98 #[.int .i32 (xp s p)] W fun e w'=>e=.returned (.bool true)∧w'=W):=lctl_at hp W true hct.symm
    have HF:Hid (SPo S w0 g s o T0 p (.returned (.int .i64 102)) W):=by
     obtain ⟨a1,a2⟩:=text_ctl h.ms hp h10 hfu hct
     exact SPo.bad (E:=102) h h.lq a1 (by decide) a2 (by decide) hlt rfl (fun _=>not_early (by decide))
    clear h hE h10 hfu hct
    go_enter Tryz.func56,Tryz.ntmps56
    go_wp2_with fail
    go_step3
    go_wp2_with (first|(go_at_call 64;refine HEn.out.mono ?_;rintro e w1 ⟨rfl,hw⟩;replace hw:=hw.symm;subst hw)|(go_at_call 97;refine HFl.out.mono ?_;rintro e w1 ⟨rfl,hw⟩;replace hw:=hw.symm;subst hw)|(go_at_call 98;refine HCt.out.mono ?_;rintro e w1 ⟨rfl,hw⟩;replace hw:=hw.symm;subst hw))
    go_ret
    exact HF.out
   ·have hct0:tkCtl s p=false:=by simpa using hct
    have HCt:Hid (Calls Tryz.prog 98 #[.int .i32 (xp s p)] W fun e w'=>e=.returned (.bool false)∧w'=W):=lctl_at hp W false hct0.symm
    by_cases hq:by8 s p=34
    ·have q34:(xp s p == 34)=true:=by rw [beq_iff_eq,xp_in hp];exact (x_is s p 34 (by decide)).2 hq
     have HLa:Hid (Calls Tryz.prog 99 #[.pointer (some ⟨g,0,none⟩),.string (s.extract p (xq s p)),.int .u8 4] W fun e w'=>SPo S w0 g s o T0 p e w'):=
      llast_po (kk:=4) h h.lq hp hlt hs (.inl rfl) (fun hx=>absurd hx hfu) (fun _=>text_last h.ms hp hq hfu)
     clear h hE h10 hfu hct hct0 hq
     go_enter Tryz.func56,Tryz.ntmps56
     go_wp2_with fail
     go_step3
     go_wp2_with (first|(go_at_call 64;refine HEn.out.mono ?_;rintro e w1 ⟨rfl,hw⟩;replace hw:=hw.symm;subst hw)|(go_at_call 97;refine HFl.out.mono ?_;rintro e w1 ⟨rfl,hw⟩;replace hw:=hw.symm;subst hw)|(go_at_call 98;refine HCt.out.mono ?_;rintro e w1 ⟨rfl,hw⟩;replace hw:=hw.symm;subst hw)|(go_at_call 99;refine HLa.out.mono ?_;intro e w1 hz;obtain ⟨E,k',b',f',p',new',rfl,hz'⟩:=hz;have HF:Hid (SPo S w0 g s o T0 p (.returned (.int .i64 E)) w1):=⟨E,k',b',f',p',new',rfl,hz'⟩;clear hz'))
     go_ret
     exact HF.out
    ·have q34:(xp s p == 34)=false:=by rw [beq_eq_false_iff_ne,xp_in hp];exact fun e=>hq ((x_is s p 34 (by decide)).1 e)
     have HAd:Hid (Calls Tryz.prog 58 #[.pointer (some ⟨g,0,none⟩),.string (s.extract p (xq s p))] W fun e w'=>SPo S w0 g s o T0 p e w'):=
      ladd_po (kk:=4) h h.lq hp hlt (by omega) (by decide) (fun hx=>absurd hx hfu) (fun _=>text_on h.ms hp h10 hfu hct0 hq)
     clear h hE h10 hfu hct hct0 hq
     go_enter Tryz.func56,Tryz.ntmps56
     go_wp2_with fail
     go_step3
     go_wp2_with (first|(go_at_call 64;refine HEn.out.mono ?_;rintro e w1 ⟨rfl,hw⟩;replace hw:=hw.symm;subst hw)|(go_at_call 97;refine HFl.out.mono ?_;rintro e w1 ⟨rfl,hw⟩;replace hw:=hw.symm;subst hw)|(go_at_call 98;refine HCt.out.mono ?_;rintro e w1 ⟨rfl,hw⟩;replace hw:=hw.symm;subst hw)|(go_at_call 58;refine HAd.out.mono ?_;intro e w1 hz;obtain ⟨E,k',b',f',p',new',rfl,hz'⟩:=hz;have HF:Hid (SPo S w0 g s o T0 p (.returned (.int .i64 E)) w1):=⟨E,k',b',f',p',new',rfl,hz'⟩;clear hz'))
     go_ret
     exact HF.out
section
variable {P:Program} {a:Act} {w:World} {Q:Exit→Act→World→Prop}
theorem wp_scope_two {c r0 r1:Code}(l0 l1:Nat) (h0:findLabel c l0=some r0) (h1:findLabel c l1=some r1)
  (first:c.wp P (Exit.jump l1 (fun a w=>r1.wp P (Exit.jump l0 (fun a w=>r0.wp P (Exit.jump l0 (fun _ _=>False) Q) a w) Q) a w) Q) a w):(Code.scope c).wp P Q a w:=by
 intro b k cs
 have g0:gotoIn l0 (.inScope c :: k)=some (.code r0 :: .inScope c :: k):=by simp [gotoIn,h0]
 have g1:gotoIn l1 (.inScope c :: k)=some (.code r1 :: .inScope c :: k):=by simp [gotoIn,h1]
 have key0:∀a w,r0.wp P (Exit.jump l0 (fun _ _=>False) Q) a w→∃e a' w',Q e a' w'∧Arrives P (lone (b.at a (.code r0 :: .inScope c :: k)) cs w) b k cs e a' w':=by
  intro a w hJ
  obtain ⟨e,a₁,w₁,hq,harr⟩:=hJ b (.inScope c :: k) cs
  cases e with
  |normal=>exact ⟨.normal,a₁,w₁,hq,Steps.trans harr (.one step_inScope)⟩
  |exit id=>exact ⟨.exit id,a₁,w₁,hq,fun k' hk=>harr k' (by simp [exitTo,hk])⟩
  |goto l'=>exact hq.2.elim
  |ret=>exact ⟨_,a₁,w₁,hq,harr⟩
  |panic ch=>exact ⟨_,a₁,w₁,hq,harr⟩
  |outgrown=>exact ⟨_,a₁,w₁,hq,harr⟩
 have key1:∀a w,r1.wp P (Exit.jump l0 (fun a w=>r0.wp P (Exit.jump l0 (fun _ _=>False) Q) a w) Q) a w→∃e a' w',Q e a' w'∧Arrives P (lone (b.at a (.code r1 :: .inScope c :: k)) cs w) b k cs e a' w':=by
  intro a w hJ
  obtain ⟨e,a₁,w₁,hq,harr⟩:=hJ b (.inScope c :: k) cs
  cases e with
  |normal=>exact ⟨.normal,a₁,w₁,hq,Steps.trans harr (.one step_inScope)⟩
  |exit id=>exact ⟨.exit id,a₁,w₁,hq,fun k' hk=>harr k' (by simp [exitTo,hk])⟩
  |goto l'=>
   obtain ⟨rfl,hJ'⟩:=hq
   obtain ⟨e₂,a₂,w₂,hq₂,harr₂⟩:=key0 a₁ w₁ hJ'
   exact ⟨e₂,a₂,w₂,hq₂,.of_steps (harr _ g0) harr₂⟩
  |ret=>exact ⟨_,a₁,w₁,hq,harr⟩
  |panic ch=>exact ⟨_,a₁,w₁,hq,harr⟩
  |outgrown=>exact ⟨_,a₁,w₁,hq,harr⟩
 obtain ⟨e,a₁,w₁,hq,harr⟩:=first b (.inScope c :: k) cs
 cases e with
 |normal=>exact ⟨.normal,a₁,w₁,hq,.head step_scope (Steps.trans harr (.one step_inScope))⟩
 |exit id=>exact ⟨.exit id,a₁,w₁,hq,fun k' hk=>.head step_scope (harr k' (by simp [exitTo,hk]))⟩
 |goto l'=>
  obtain ⟨rfl,hJ'⟩:=hq
  obtain ⟨e₂,a₂,w₂,hq₂,harr₂⟩:=key1 a₁ w₁ hJ'
  exact ⟨e₂,a₂,w₂,hq₂,.of_steps (.head step_scope (harr _ g1)) harr₂⟩
 |ret=>exact ⟨_,a₁,w₁,hq,.of_steps (.one step_scope) harr⟩
 |panic ch=>exact ⟨_,a₁,w₁,hq,.of_steps (.one step_scope) harr⟩
 |outgrown=>exact ⟨_,a₁,w₁,hq,.of_steps (.one step_scope) harr⟩
theorem wp_scope_go {c r:Code}(l:Nat) (hf:findLabel c l=some r) (first:c.wp P (Exit.jump l (fun a w=>r.wp P (Exit.jump l (fun _ _=>False) Q) a w) Q) a w):(Code.scope c).wp P Q a w:=by
 refine wp_scope_jumps l _ (fun _ _=>0) hf first (fun a w h=>?_)
 intro b k cs
 obtain ⟨e,a₁,w₁,hq,harr⟩:=h b k cs
 refine ⟨e,a₁,w₁,?_,harr⟩
 cases e with
 |goto l'=>exact hq.2.elim
 |_=>exact hq
end
set_option maxRecDepth 100000 in
set_option maxHeartbeats 2000000 in
theorem linside_block {S:Nat→Prop}{w0 W:World}{g:Nat}{s o:ByteArray}{T0:List Tk}{p b f:Nat}{new:List Tk}(h:SPr S w0 W g s o T0 p 5 b f new) (hs:s.size≤1000000000) :
  Calls Tryz.prog 56 #[.pointer (some ⟨g,0,none⟩),.int .i32 (xp s p),.string (s.extract p (xq s p))] W fun e w'=>SPo S w0 g s o T0 p e w':=by
 obtain ⟨f1,f2,f3,f4,f5,f6⟩:=h.facts
 have hlt:b<s.size:=by
  cases h.ms with
  |block h1 _ _=>omega
 have c5:W.cell? ⟨g,5,none⟩=some (.int .i64 5):=by
  obtain ⟨vt,vo,vs,h1,h2⟩:=h.lq
  exact blk_cell h1 rfl
 by_cases hp:p<s.size
 ·have q1:(xp s p == -1)=false:=by rw [beq_eq_false_iff_ne,xp_in hp];omega
  by_cases hq:by8 s p=125
  ·have q125:xp s p=125:=by rw [xp_in hp];exact (x_is s p 125 (by decide)).2 hq
   have HLa:Hid (Calls Tryz.prog 99 #[.pointer (some ⟨g,0,none⟩),.string (s.extract p (xq s p)),.int .u8 8] W fun e w'=>SPo S w0 g s o T0 p e w'):=by
    obtain ⟨a1,a2,a3⟩:=block_last h.ms hp hq
    exact llast_po (kk:=8) h h.lq hp hlt hs (.inr (.inr rfl)) (fun hx=>⟨a1,a2 hx⟩) (fun hx=>⟨a1,a3 hx⟩)
   rw [q125]
   clear h hq q1 q125
   go_enter Tryz.func56,Tryz.ntmps56
   go_wp2_with fail
   refine wp_scope_go 0 rfl ?_
   go_wp2_with fail
   go_step3
   refine ⟨rfl,?_⟩
   go_wp2_with (first|(go_at_call 99;refine HLa.out.mono ?_;intro e w1 hz;obtain ⟨E,k',b',f',p',new',rfl,hz'⟩:=hz;have HF:Hid (SPo S w0 g s o T0 p (.returned (.int .i64 E)) w1):=⟨E,k',b',f',p',new',rfl,hz'⟩;clear hz'))
   simp only [Exit.jump]
   go_ret
   exact HF.out
  ·have q125:(xp s p == 125)=false:=by rw [beq_eq_false_iff_ne,xp_in hp];exact fun e=>hq ((x_is s p 125 (by decide)).1 e)
   have HAd:Hid (Calls Tryz.prog 58 #[.pointer (some ⟨g,0,none⟩),.string (s.extract p (xq s p))] W fun e w'=>SPo S w0 g s o T0 p e w'):=by
    obtain ⟨a1,a2,a3⟩:=block_on h.ms hp hq
    exact ladd_po (kk:=8) h h.lq hp hlt (by omega) (by decide) (fun hx=>⟨a1,a2 hx⟩) a3
   clear h hq
   go_enter Tryz.func56,Tryz.ntmps56
   go_wp2_with fail
   refine wp_scope_go 0 rfl ?_
   go_wp2_with fail
   go_step3
   refine ⟨rfl,?_⟩
   go_wp2_with (first|(go_at_call 58;refine HAd.out.mono ?_;intro e w1 hz;obtain ⟨E,k',b',f',p',new',rfl,hz'⟩:=hz;have HF:Hid (SPo S w0 g s o T0 p (.returned (.int .i64 E)) w1):=⟨E,k',b',f',p',new',rfl,hz'⟩;clear hz'))
   simp only [Exit.jump]
   go_ret
   exact HF.out
 ·have q1:xp s p=-1:=xp_out (by omega)
  have HF:Hid (SPo S w0 g s o T0 p (.returned (.int .i64 101)) W):=by
   have hps:p=s.size:=by omega
   obtain ⟨a1,a2⟩:=block_open (s:=s) (b:=b) (by rw [←hps];exact h.ms)
   exact SPo.bad (E:=101) h h.lq a1 (by decide) a2 (by decide) hlt rfl (fun hx=>absurd hx hp)
  rw [q1]
  clear h hp q1
  go_enter Tryz.func56,Tryz.ntmps56
  go_wp2_with fail
  refine wp_scope_go 0 rfl ?_
  go_wp2_with fail
  go_step3
  refine ⟨rfl,?_⟩
  go_wp2_with fail
  simp only [Exit.jump]
  go_ret
  exact HF.out
set_option maxRecDepth 100000 in
set_option maxHeartbeats 2000000 in
theorem linside_char {S:Nat→Prop}{w0 W:World}{g:Nat}{s o:ByteArray}{T0:List Tk}{p b f:Nat}{new:List Tk}(h:SPr S w0 W g s o T0 p 7 b f new) (hs:s.size≤1000000000) :
  Calls Tryz.prog 56 #[.pointer (some ⟨g,0,none⟩),.int .i32 (xp s p),.string (s.extract p (xq s p))] W fun e w'=>SPo S w0 g s o T0 p e w':=by
 obtain ⟨f1,f2,f3,f4,f5,f6⟩:=h.facts
 have hlt:b<s.size:=by
  cases h.ms with
  |char h1 h2=>
   have:=h.pd
   have hle:=bd_le this
   omega
 have c5:W.cell? ⟨g,5,none⟩=some (.int .i64 7):=by
  obtain ⟨vt,vo,vs,h1,h2⟩:=h.lq
  exact blk_cell h1 rfl
 by_cases hE:s.size≤p∨by8 s p=10
 ·have HEn:Hid (Calls Tryz.prog 64 #[.int .i32 (xp s p)] W fun e w'=>e=.returned (.bool true)∧w'=W):=lends_at W true ⟨fun _=>hE,fun _=>rfl⟩
  have HF:Hid (SPo S w0 g s o T0 p (.returned (.int .i64 101)) W):=by
   obtain ⟨a1,a2,a3,_⟩:=char_open h.ms (.inl rfl) f4 (fun hx=>hE.resolve_left (by omega))
   exact SPo.bad (E:=101) h h.lq a1 (by decide) a2 (by decide) hlt rfl a3
  clear h hE
  go_enter Tryz.func56,Tryz.ntmps56
  go_wp2_with fail
  refine wp_scope_go 1 rfl ?_
  go_wp2_with fail
  go_step3
  refine ⟨rfl,?_⟩
  go_wp2_with (first|(go_at_call 64;refine HEn.out.mono ?_;rintro e w1 ⟨rfl,hw⟩;replace hw:=hw.symm;subst hw))
  simp only [Exit.jump]
  go_ret
  exact HF.out
 ·have hp:p<s.size:=by omega
  have h10:by8 s p≠10:=fun e=>hE (.inr e)
  have HEn:Hid (Calls Tryz.prog 64 #[.int .i32 (xp s p)] W fun e w'=>e=.returned (.bool false)∧w'=W):=lends_at W false ⟨fun h=>(by cases h),fun h=>absurd h hE⟩
  have z5:W.frozen? ⟨g,5,none⟩=false:=by
   obtain ⟨vt,vo,vs,h1,h2⟩:=h.lq
   exact h1.frozen 5
  by_cases hct:tkCtl s p=true
  ·have HCt:Hid (Calls Tryz.prog 98 #[.int .i32 (xp s p)] W fun e w'=>e=.returned (.bool true)∧w'=W):=lctl_at hp W true hct.symm
   have HF:Hid (SPo S w0 g s o T0 p (.returned (.int .i64 102)) W):=by
    obtain ⟨a1,a2⟩:=char_bad h.ms hp h10 (.inl hct)
    exact SPo.bad (E:=102) h h.lq a1 (by decide) a2 (by decide) hlt rfl (fun _=>not_early (by decide))
   clear h hE h10 hct
   go_enter Tryz.func56,Tryz.ntmps56
   go_wp2_with fail
   refine wp_scope_go 1 rfl ?_
   go_wp2_with fail
   go_step3
   refine ⟨rfl,?_⟩
   go_wp2_with (first|(go_at_call 64;refine HEn.out.mono ?_;rintro e w1 ⟨rfl,hw⟩;replace hw:=hw.symm;subst hw)|(go_at_call 98;refine HCt.out.mono ?_;rintro e w1 ⟨rfl,hw⟩;replace hw:=hw.symm;subst hw))
   simp only [Exit.jump]
   go_ret
   exact HF.out
  ·have hct0:tkCtl s p=false:=by simpa using hct
   have HCt:Hid (Calls Tryz.prog 98 #[.int .i32 (xp s p)] W fun e w'=>e=.returned (.bool false)∧w'=W):=lctl_at hp W false hct0.symm
   by_cases hq:by8 s p=39
   ·have q39:(xp s p == 39)=true:=by rw [beq_iff_eq,xp_in hp];exact (x_is s p 39 (by decide)).2 hq
    have HF:Hid (SPo S w0 g s o T0 p (.returned (.int .i64 102)) W):=by
     obtain ⟨a1,a2⟩:=char_bad h.ms hp h10 (.inr hq)
     exact SPo.bad (E:=102) h h.lq a1 (by decide) a2 (by decide) hlt rfl (fun _=>not_early (by decide))
    clear h hE h10 hct hct0 hq
    go_enter Tryz.func56,Tryz.ntmps56
    go_wp2_with fail
    refine wp_scope_go 1 rfl ?_
    go_wp2_with fail
    go_step3
    refine ⟨rfl,?_⟩
    go_wp2_with (first|(go_at_call 64;refine HEn.out.mono ?_;rintro e w1 ⟨rfl,hw⟩;replace hw:=hw.symm;subst hw)|(go_at_call 98;refine HCt.out.mono ?_;rintro e w1 ⟨rfl,hw⟩;replace hw:=hw.symm;subst hw))
    simp only [Exit.jump]
    go_ret
    exact HF.out
   ·have q39:(xp s p == 39)=false:=by rw [beq_eq_false_iff_ne,xp_in hp];exact fun e=>hq ((x_is s p 39 (by decide)).1 e)
    have HAd:Hid (Calls Tryz.prog 58 #[.pointer (some ⟨g,0,none⟩),.string (s.extract p (xq s p))] (W.setCell ⟨g,5,none⟩ (.int .i64 8)) fun e w'=>SPo S w0 g s o T0 p e w'):=by
     obtain ⟨a1,a2⟩:=char_on h.ms hp h10 hct0 hq
     refine ladd_po (kk:=5) (k':=8) h ?_ hp hlt (by omega) (by decide) (fun hx=>absurd hx a2) (fun _=>a1)
     obtain ⟨vt,vo,vs,h1,h2⟩:=h.lq
     exact ⟨vt,vo,vs,blk_set h1 5 _,h2.set h1 5 _⟩
    clear h hE h10 hct hct0 hq
    go_enter Tryz.func56,Tryz.ntmps56
    go_wp2_with fail
    refine wp_scope_go 1 rfl ?_
    go_wp2_with fail
    go_step3
    refine ⟨rfl,?_⟩
    go_wp2_with (first|(go_at_call 64;refine HEn.out.mono ?_;rintro e w1 ⟨rfl,hw⟩;replace hw:=hw.symm;subst hw)|(go_at_call 98;refine HCt.out.mono ?_;rintro e w1 ⟨rfl,hw⟩;replace hw:=hw.symm;subst hw)|(go_at_call 58;refine HAd.out.mono ?_;intro e w1 hz;obtain ⟨E,k',b',f',p',new',rfl,hz'⟩:=hz;have HF:Hid (SPo S w0 g s o T0 p (.returned (.int .i64 E)) w1):=⟨E,k',b',f',p',new',rfl,hz'⟩;clear hz'))
    simp only [Exit.jump]
    go_ret
    exact HF.out
set_option maxRecDepth 100000 in
set_option maxHeartbeats 2000000 in
theorem linside_quote {S:Nat→Prop}{w0 W:World}{g:Nat}{s o:ByteArray}{T0:List Tk}{p b f:Nat}{new:List Tk}(h:SPr S w0 W g s o T0 p 8 b f new) (hs:s.size≤1000000000) :
  Calls Tryz.prog 56 #[.pointer (some ⟨g,0,none⟩),.int .i32 (xp s p),.string (s.extract p (xq s p))] W fun e w'=>SPo S w0 g s o T0 p e w':=by
 obtain ⟨f1,f2,f3,f4,f5,f6⟩:=h.facts
 have hlt:b<s.size:=by
  cases h.ms with
  |quote h1 _ _=>omega
 have c5:W.cell? ⟨g,5,none⟩=some (.int .i64 8):=by
  obtain ⟨vt,vo,vs,h1,h2⟩:=h.lq
  exact blk_cell h1 rfl
 by_cases hE:s.size≤p∨by8 s p=10
 ·have HEn:Hid (Calls Tryz.prog 64 #[.int .i32 (xp s p)] W fun e w'=>e=.returned (.bool true)∧w'=W):=lends_at W true ⟨fun _=>hE,fun _=>rfl⟩
  have HF:Hid (SPo S w0 g s o T0 p (.returned (.int .i64 101)) W):=by
   obtain ⟨a1,a2,a3,_⟩:=char_open h.ms (.inr rfl) f4 (fun hx=>hE.resolve_left (by omega))
   exact SPo.bad (E:=101) h h.lq a1 (by decide) a2 (by decide) hlt rfl a3
  clear h hE
  go_enter Tryz.func56,Tryz.ntmps56
  go_wp2_with fail
  refine wp_scope_go 2 rfl ?_
  go_wp2_with fail
  go_step3
  refine ⟨rfl,?_⟩
  go_wp2_with (first|(go_at_call 64;refine HEn.out.mono ?_;rintro e w1 ⟨rfl,hw⟩;replace hw:=hw.symm;subst hw))
  simp only [Exit.jump]
  go_ret
  exact HF.out
 ·have hp:p<s.size:=by omega
  have h10:by8 s p≠10:=fun e=>hE (.inr e)
  have HEn:Hid (Calls Tryz.prog 64 #[.int .i32 (xp s p)] W fun e w'=>e=.returned (.bool false)∧w'=W):=lends_at W false ⟨fun h=>(by cases h),fun h=>absurd h hE⟩
  by_cases hq:by8 s p=39
  ·have q39:(xp s p != 39)=false:=by rw [bne_eq_false_iff_eq,xp_in hp];exact (x_is s p 39 (by decide)).2 hq
   have HLa:Hid (Calls Tryz.prog 99 #[.pointer (some ⟨g,0,none⟩),.string (s.extract p (xq s p)),.int .u8 5] W fun e w'=>SPo S w0 g s o T0 p e w'):=by
    obtain ⟨a1,a2,a3⟩:=quote_last h.ms hp hq
    exact llast_po (kk:=5) h h.lq hp hlt hs (.inr (.inl rfl)) (fun hx=>absurd hx a3) (fun hx=>⟨a1,a2⟩)
   clear h hE h10 hq
   go_enter Tryz.func56,Tryz.ntmps56
   go_wp2_with fail
   refine wp_scope_go 2 rfl ?_
   go_wp2_with fail
   go_step3
   refine ⟨rfl,?_⟩
   go_wp2_with (first|(go_at_call 64;refine HEn.out.mono ?_;rintro e w1 ⟨rfl,hw⟩;replace hw:=hw.symm;subst hw)|(go_at_call 99;refine HLa.out.mono ?_;intro e w1 hz;obtain ⟨E,k',b',f',p',new',rfl,hz'⟩:=hz;have HF:Hid (SPo S w0 g s o T0 p (.returned (.int .i64 E)) w1):=⟨E,k',b',f',p',new',rfl,hz'⟩;clear hz'))
   simp only [Exit.jump]
   go_ret
   exact HF.out
  ·have q39:(xp s p != 39)=true:=by rw [bne_iff_ne,xp_in hp];exact fun e=>hq ((x_is s p 39 (by decide)).1 e)
   have HF:Hid (SPo S w0 g s o T0 p (.returned (.int .i64 102)) W):=by
    obtain ⟨a1,a2⟩:=quote_bad h.ms hp h10 hq
    exact SPo.bad (E:=102) h h.lq a1 (by decide) a2 (by decide) hlt rfl (fun _=>not_early (by decide))
   clear h hE h10 hq
   go_enter Tryz.func56,Tryz.ntmps56
   go_wp2_with fail
   refine wp_scope_go 2 rfl ?_
   go_wp2_with fail
   go_step3
   refine ⟨rfl,?_⟩
   go_wp2_with (first|(go_at_call 64;refine HEn.out.mono ?_;rintro e w1 ⟨rfl,hw⟩;replace hw:=hw.symm;subst hw))
   simp only [Exit.jump]
   go_ret
   exact HF.out
end Go.Proofs.YtkigadnkclkopaaGreatDoor.Lx
