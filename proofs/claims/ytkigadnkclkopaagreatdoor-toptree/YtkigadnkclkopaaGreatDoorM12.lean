import Derived.Test.YtkigadnkclkopaaGreatDoorM11
set_option linter.unusedVariables false
set_option linter.unusedSimpArgs false
namespace Go.Proofs.YtkigadnkclkopaaGreatDoor.Lx
open Go.RowKit
theorem ext_same (s:ByteArray) (p:Nat) (h:p≤s.size):s.extract p p=ByteArray.empty:=by
 have:=size_ext s p p h
 exact by8_ext _ _ (by rw [this];show p-p=0;omega) (fun j hj=>by omega)
theorem lpass_po {S:Nat→Prop}{w0 V:World}{g:Nat}{s o:ByteArray}{T0:List Tk}{p f:Nat}{new:List Tk}(h:SPr S w0 V g s o T0 p 0 p f new) (hp:p<s.size) (hs:s.size≤1000000000) (hc:by8 s p=10∨tkBl (by8 s p)=true) :
  Calls Tryz.prog 66 #[.pointer (some ⟨g,0,none⟩),.int .i32 (xp s p),.string (s.extract p (xq s p))] V fun e w'=>SPo S w0 g s o T0 p e w':=by
 obtain ⟨f1,f2,f3,f4,f5,f6⟩:=h.facts
 obtain ⟨q1,q2,q3,q4⟩:=xq_bd h.pd
 have hx:=xq_in hp
 have h8:by8 s p<128:=by
  rcases hc with hc|hc
  ·omega
  ·exact bl_asc hc
 have hd:=(chr_asc s p h8).1
 have hlq:=h.lq
 rw [ext_same s p (by omega)] at hlq
 refine (lpass_any hlq (by omega) q2 f3 q1 (by omega) (xp s p) _ rfl).mono ?_
 rintro e w' ⟨rfl,hq⟩
 rw [hx] at hq q1
 by_cases h10:by8 s p=10
 ·have e10:xp s p=10:=by rw [xp_in hp];exact (x_is s p 10 (by decide)).2 h10
  rw [if_pos e10] at hq
  refine ⟨0,0,p+dw s p,f+1,p+dw s p,new,rfl,?_,q1,q1,Nat.le_refl _,.inl ⟨rfl,hp,rfl,?_,.none rfl⟩⟩
  ·rw [ext_same s _ (by omega)];exact hq
  ·rw [hd];exact .feed h.told hp h10
 ·have e10:¬xp s p=10:=by rw [xp_in hp];exact fun e=>h10 ((x_is s p 10 (by decide)).1 e)
  rw [if_neg e10] at hq
  refine ⟨0,0,p+dw s p,f,p+dw s p,new,rfl,?_,q1,q1,Nat.le_refl _,.inl ⟨rfl,hp,rfl,?_,.none rfl⟩⟩
  ·rw [ext_same s _ (by omega)];exact hq
  ·rw [hd];exact .blank h.told hp h10 (hc.resolve_left h10)
theorem ltell_po {S:Nat→Prop}{w0 V:World}{g:Nat}{s o:ByteArray}{T0:List Tk}{p k b f:Nat}{new:List Tk}(h:SPr S w0 V g s o T0 p k b f new) (hs:s.size≤1000000000) {kb kk:Nat}(hb:b<s.size) (h1:tkBgn s b=kb) (h0:kb≠0) (h2:tkEnd s b kb=(p,0)) (hk:kk=(tkTok s kb b p f).k) :
  Calls Tryz.prog 59 #[.pointer (some ⟨g,0,none⟩),.int .u8 kk] V fun e w'=>e=.returned (.tuple #[])∧(p<s.size→SPr S w0 w' g s o T0 p 0 p 0 (new++[tkTok s kb b p f]))∧(s.size≤p→SPo S w0 g s o T0 p (.returned (.int .i64 0)) w'):=by
 obtain ⟨f1,f2,f3,f4,f5,f6⟩:=h.facts
 have hw:=bgn_what (s:=s) (b:=b) (by rw [h1];exact h0)
 have h5:=tkEnd_ok s b kb p hb h1 h0 h2
 have e7:kk=7↔kb=7:=by
  rw [hk]
  show (if kb=1∧ky (s.extract b p)=true then 2 else kb)=7↔kb=7
  split
  ·omega
  ·exact Iff.rfl
 have et:(⟨kk,b,if kk=7 then tkTrim s p else p,f⟩:Tk)=tkTok s kb b p f:=by
  have e1:(if kk=7 then tkTrim s p else p)=if kb=7 then tkTrim s p else p:=by
   by_cases h7:kb=7
   ·rw [if_pos h7,if_pos (e7.2 h7)]
   ·rw [if_neg h7,if_neg (fun e=>h7 (e7.1 e))]
  rw [e1,hk]
  rfl
 refine (ltell_any h.lq kk (by omega) f1 f3 h.pd (by rw [List.length_map];omega) (fun _=>⟨h5.1,hw.2⟩)).mono ?_
 rintro e w' ⟨rfl,hq⟩
 rw [et] at hq
 have hq2:Lq S w0 w' g 0 p (pL s p) (pC s p) 0 (s.extract p p) o ((new++[tkTok s kb b p f]).map (tv s)):=by
  rw [ext_same s p f4,List.map_append];exact hq
 obtain ⟨t1,t2⟩:=told_tok h.told hb h1 h0 h2
 refine ⟨rfl,fun hp=>⟨hq2,?_,.none rfl,h.pd⟩,fun hp=>?_⟩
 ·rw [←List.append_assoc];exact t1 (.inl hp)
 ·exact ⟨0,0,p,0,p,new++[tkTok s kb b p f],rfl,hq2,h.pd,h.pd,Nat.le_refl _,.inr (.inl ⟨rfl,hp,by rw [←List.append_assoc];exact t2 (by omega)⟩)⟩
theorem SPo.ends {S:Nat→Prop}{w0 V:World}{g:Nat}{s o:ByteArray}{T0:List Tk}{p f:Nat}{new:List Tk}(h:SPr S w0 V g s o T0 p 0 p f new) (hp:s.size≤p):SPo S w0 g s o T0 p (.returned (.int .i64 0)) V:=by
 refine ⟨0,0,p,f,p,new,rfl,h.lq,h.pd,h.pd,Nat.le_refl _,.inr (.inl ⟨rfl,hp,?_⟩)⟩
 rw [h.told.scn,fnd_end s p f hp,List.append_nil]
theorem SPr.setK {S:Nat→Prop}{w0 V:World}{g:Nat}{s o:ByteArray}{T0:List Tk}{p k b f:Nat}{new:List Tk}(h:SPr S w0 V g s o T0 p k b f new) (k':Nat):Lq S w0 (V.setCell ⟨g,5,none⟩ (.int .i64 k')) g k' b (pL s b) (pC s b) f (s.extract b p) o (new.map (tv s)):=by
 obtain ⟨vt,vo,vs,h1,h2⟩:=h.lq
 exact ⟨vt,vo,vs,blk_set h1 5 _,h2.set h1 5 _⟩
theorem SPr.cell {S:Nat→Prop}{w0 V:World}{g:Nat}{s o:ByteArray}{T0:List Tk}{p k b f:Nat}{new:List Tk}(h:SPr S w0 V g s o T0 p k b f new):V.cell? ⟨g,5,none⟩=some (.int .i64 k)∧V.frozen? ⟨g,5,none⟩=false∧g<V.heap.size:=by
 obtain ⟨vt,vo,vs,h1,h2⟩:=h.lq
 exact ⟨blk_cell h1 rfl,h1.frozen 5,blk_lt h1⟩
theorem SPo.noTok {S:Nat→Prop}{w0 V:World}{g:Nat}{s o:ByteArray}{T0:List Tk}{p f:Nat}{new:List Tk}(h:SPr S w0 V g s o T0 p 0 p f new) (hp:p<s.size) (h10:by8 s p≠10) (hbl:tkBl (by8 s p)=false) (hk:bgK s p=0):SPo S w0 g s o T0 p (.returned (.int .i64 100)) (V.setCell ⟨g,5,none⟩ (.int .i64 0)):=
 ⟨100,0,p,f,p,new,rfl,h.setK 0,h.pd,h.pd,Nat.le_refl _,.inr (.inr ⟨by decide,p,told_none h.told hp h10 hbl (bgK_none hp hk),fun _=>not_early (by decide),rfl⟩)⟩
theorem lbeg_po {S:Nat→Prop}{w0 V:World}{g:Nat}{s o:ByteArray}{T0:List Tk}{p f:Nat}{new:List Tk}(h:SPr S w0 V g s o T0 p 0 p f new) (hp:p<s.size) (hs:s.size≤1000000000) {k':Nat}(hk:bgK s p=k') (h0:k'≠0) :
  Calls Tryz.prog 58 #[.pointer (some ⟨g,0,none⟩),.string (s.extract p (xq s p))] (V.setCell ⟨g,5,none⟩ (.int .i64 k')) fun e w'=>SPo S w0 g s o T0 p e w':=by
 obtain ⟨m1,m2⟩:=bgK_ms hp hk h0
 exact ladd_po (kk:=1) h (h.setK k') hp hp (by omega) (by decide) (fun hx=>absurd hx m2) (fun _=>m1)
theorem lpart_at {s:ByteArray}{p:Nat}(V:World) (hK:Kab V) (r:Bool) (hr:r=true↔(p<s.size∧(gd s p && pr' (dp s p))=true)) :
  Calls Tryz.prog 57 #[.int .i64 (xp s p)] V fun e w'=>e=.returned (.bool r)∧w'=V:=by
 have h:=part_any (xp s p) V hK.1
 have e:pr' (xp s p)=r:=by
  by_cases hp:p<s.size
  ·rw [xp_in hp,x_part,Bool.eq_iff_iff,hr]
   exact ⟨fun h=>⟨hp,h⟩,fun h=>h.2⟩
  ·rw [xp_out (by omega)]
   cases r with
   |true=>exact absurd (hr.1 rfl).1 hp
   |false=>decide
 rw [e] at h
 exact h
theorem ldigit_at {s:ByteArray}{p:Nat}(V:World) (r:Bool) (hr:r=true↔(p<s.size∧tkDg (by8 s p)=true)) :
  Calls Tryz.prog 61 #[.int .i32 (xp s p)] V fun e w'=>e=.returned (.bool r)∧w'=V:=by
 have h:=lisDigit_any (xp s p) V
 have e:(decide (48≤xp s p) && decide (xp s p≤57))=r:=by
  by_cases hp:p<s.size
  ·rw [xp_in hp,x_digit,Bool.eq_iff_iff,hr]
   exact ⟨fun h=>⟨hp,h⟩,fun h=>h.2⟩
  ·rw [xp_out (by omega)]
   cases r with
   |true=>exact absurd (hr.1 rfl).1 hp
   |false=>decide
 rw [e] at h
 exact h
theorem lblank_at {s:ByteArray}{p:Nat}(V:World) (hp:p<s.size) (r:Bool) (hr:r=tkBl (by8 s p)) :
  Calls Tryz.prog 65 #[.int .i32 (xp s p)] V fun e w'=>e=.returned (.bool r)∧Below V.heap.size V w':=by
 have h:=lisBlank_any (xp s p) V (by rw [xp_in hp];omega)
 rw [xp_in hp,x_bl,←hr] at h
 rw [xp_in hp]
 exact h
end Go.Proofs.YtkigadnkclkopaaGreatDoor.Lx
