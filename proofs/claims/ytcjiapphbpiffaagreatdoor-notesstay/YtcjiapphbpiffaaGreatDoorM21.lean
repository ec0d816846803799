import Derived.Test.YtcjiapphbpiffaaGreatDoorM20
set_option linter.unusedVariables false
set_option linter.unusedSimpArgs false
set_option maxHeartbeats 2000000
namespace Go.Proofs.YtcjiapphbpiffaaGreatDoor
open Go.RowKit
variable {X:Sx}{r:Nat}{d:D}{W:World}
theorem pP (h:SD X r d W) :
  Ta 255 #[pg X.g] W fun e w'=>∃b:Bool,e=.returned (.bool b)/\(∀m,bw (cZ (aG X.l) d) (.ex m)=if b then some (.fl (.mt m)) else none)/\Below W.heap.size W w':=by
 have J:Hid (Ta 258 #[pg X.g] W fun e w'=>e=.returned (.tuple #[.int .u8 (cL (nx X (ps X.l d.i))),mn X.g (nx X (ps X.l d.i))])/\Tb W w'):=qi h;have M:Hid (∀m,bw (cZ (aG X.l) d) (.ex m)=if cL (nx X (ps X.l d.i)) == 0 then none else some (.fl (.mt m))):=fun m=>by rw [h.hnx];exact GU _ m
 clear h
 generalize nx X (ps X.l d.i)=t at *
 have S:(cL t == 0)=true/\mn X.g t=.nilFunc\/(cL t == 0)=false/\∃f,mn X.g t=fv f X.g:=by
  unfold mn;have Q:cL t=25\/cL t=26\/cL t=27\/cL t=32\/cL t=28\/cL t=0:=by unfold cL;(repeat' split) <;> simp
  rcases Q with e|e|e|e|e|e <;> rw [e]
  ·exact .inr ⟨rfl,_,rfl⟩
  ·exact .inr ⟨rfl,_,rfl⟩
  ·exact .inr ⟨rfl,_,rfl⟩
  ·exact .inr ⟨rfl,_,rfl⟩
  ·exact .inr ⟨rfl,_,rfl⟩
  ·exact .inl ⟨rfl,rfl⟩
 rcases S with ⟨H,I⟩|⟨H,f,I⟩
 ·rw [I] at J;have G:Hid (∀m,bw (cZ (aG X.l) d) (.ex m)=none):=fun m=>by rw [M.out m,IO H]
  clear M H I;have O:=qa
  go_enter Tryz.func255,Tryz.ntmps255
  go_wp2_with fail
  refine J.out.mono ?_;rintro e U ⟨rfl,C⟩;have F:=ai C;clear C
  go_wp2_with fail
  go_ret
  exact ⟨false,rfl,G.out,F.out⟩
 ·rw [I] at J;have G:Hid (∀m,bw (cZ (aG X.l) d) (.ex m)=some (.fl (.mt m))):=fun m=>by rw [M.out m,Eq (by rw [H];decide)]
  clear M H I;have O:=tZ f X.g
  go_enter Tryz.func255,Tryz.ntmps255
  go_wp2_with fail
  refine J.out.mono ?_;rintro e U ⟨rfl,C⟩;have F:=ai C;clear C
  go_wp2_with fail
  go_ret
  exact ⟨true,rfl,G.out,F.out⟩
theorem JI {n:Nat}{X:Sx}{r:Nat}{d:D}{W:World}(h:SD X r d W) (G:r<=90) (F:qn (aG X.l) d (fun t=>Fl.takes t .cs)=true):Ta 232 #[pg X.g] W fun e w'=>∃d',Rb (aG X.l) [.fl .cs] d d'/\lA X (.tuple #[]) d' e w':=
 (zJ h (by omega) F).mono (fun e w' C=>⟨_,bV Sa,C⟩)
def jf (t:Tv):Value:=if t.k == 2 && t.is [118,97,114] then .int .u8 3 else if t.k == 2 && t.is [99,111,110,115,116] then .int .u8 4 else if t.k == 2 && t.is [112,114,111,99] then .int .u8 5 else .int .u8 0
def je (g:Nat) (t:Tv):Value:=if t.k == 2 && t.is [118,97,114] then fv 221 g else if t.k == 2 && t.is [99,111,110,115,116] then fv 222 g else if t.k == 2 && t.is [112,114,111,99] then fv 223 g else .nilFunc
theorem np (h:SD X r d W) :
  Ta 194 #[pg X.g] W fun e w'=>e=.returned (.tuple #[jf (nx X (ps X.l d.i)),je X.g (nx X (ps X.l d.i))])/\Below W.heap.size W w':=by
 have S:Hid (∀V,Tb W V->Ta 219 #[pg X.g] V fun e w'=>e=.returned (.string (kt 2 (nx X (ps X.l d.i))))/\Tb W w'):=fun V hb=>(kE (h.sv.below hb) (fN _ _)).mono (fun e w' ⟨h1,h2⟩=>⟨h1,hb.trans (h2.mono hb.size)⟩)
 clear h
 generalize nx X (ps X.l d.i)=t at *
 have H:Hid (((kt 2 t).toList == [118,97,114])=(t.k == 2 && t.is [118,97,114])):=fy 2 t (by simp);have O:Hid (((kt 2 t).toList == [99,111,110,115,116])=(t.k == 2 && t.is [99,111,110,115,116])):=fy 2 t (by simp);have Y:Hid (((kt 2 t).toList == [112,114,111,99])=(t.k == 2 && t.is [112,114,111,99])):=fy 2 t (by simp)
 generalize kt 2 t=a at *
 have I:=mkfn;obtain ⟨uv,hu⟩:∃uv,(.tuple #[jf t,je X.g t]:Value)=uv:=⟨_,rfl⟩;have J:=ai hu;rw [hu];clear hu;have G:Hid (Tb W W):=hH _ _
 go_enter Tryz.func194,Tryz.ntmps194
 go_wp2_with fail
 refine (S.out _ G.out).mono ?_;rintro e w2 ⟨rfl,aa⟩;have C:=ai aa;clear aa
 by_cases g0:(a.toList == [118,97,114])=true
 ·go_wp2_with fail
  go_ret2
  refine ⟨?_,C.out⟩;rw [<-J.out];have F:=H.out;clear J S C G I;rw [g0] at F;simp only [jf,je,<-F];rfl
 ·have Q:(a.toList == [118,97,114])=false:=by simpa using g0
  clear g0
  by_cases g1:(a.toList == [99,111,110,115,116])=true
  ·go_wp2_with fail
   go_ret2
   refine ⟨?_,C.out⟩;rw [<-J.out];have F:=H.out;have M:=O.out;clear J S C G I;rw [Q] at F;rw [g1] at M;simp only [jf,je,<-F,<-M];rfl
  ·have Z:(a.toList == [99,111,110,115,116])=false:=by simpa using g1
   clear g1
   by_cases g2:(a.toList == [112,114,111,99])=true
   ·go_wp2_with fail
    go_ret2
    refine ⟨?_,C.out⟩;rw [<-J.out];have F:=H.out;have M:=O.out;have U:=Y.out;clear J S C G I;rw [Q] at F;rw [Z] at M;rw [g2] at U;simp only [jf,je,<-F,<-M,<-U];rfl
   ·have ab:(a.toList == [112,114,111,99])=false:=by simpa using g2
    clear g2
    go_wp2_with fail
    go_ret2
    refine ⟨?_,C.out⟩;rw [<-J.out];have F:=H.out;have M:=O.out;have U:=Y.out;clear J S C G I;rw [Q] at F;rw [Z] at M;rw [ab] at U;simp only [jf,je,<-F,<-M,<-U];rfl
def jd (t:Tv):Value:=if t.k == 6 && t.is [91] then .int .u8 29 else if t.k == 6 && t.is [46] then .int .u8 30 else if t.k == 6 && t.is [40] then .int .u8 31 else .int .u8 0
def jc (g:Nat) (t:Tv):Value:=if t.k == 6 && t.is [91] then fv 260 g else if t.k == 6 && t.is [46] then fv 261 g else if t.k == 6 && t.is [40] then fv 262 g else .nilFunc
theorem yX (h:SD X r d W) :
  Ta 257 #[pg X.g] W fun e w'=>e=.returned (.tuple #[jd (nx X (ps X.l d.i)),jc X.g (nx X (ps X.l d.i))])/\Below W.heap.size W w':=by
 have S:Hid (∀V,Tb W V->Ta 220 #[pg X.g] V fun e w'=>e=.returned (.string (kt 6 (nx X (ps X.l d.i))))/\Tb W w'):=fun V hb=>(lO (h.sv.below hb) (fN _ _)).mono (fun e w' ⟨h1,h2⟩=>⟨h1,hb.trans (h2.mono hb.size)⟩)
 clear h
 generalize nx X (ps X.l d.i)=t at *
 have H:Hid (((kt 6 t).toList == [91])=(t.k == 6 && t.is [91])):=fy 6 t (by simp);have O:Hid (((kt 6 t).toList == [46])=(t.k == 6 && t.is [46])):=fy 6 t (by simp);have Y:Hid (((kt 6 t).toList == [40])=(t.k == 6 && t.is [40])):=fy 6 t (by simp)
 generalize kt 6 t=a at *
 have I:=mkfn;obtain ⟨uv,hu⟩:∃uv,(.tuple #[jd t,jc X.g t]:Value)=uv:=⟨_,rfl⟩;have J:=ai hu;rw [hu];clear hu;have G:Hid (Tb W W):=hH _ _
 go_enter Tryz.func257,Tryz.ntmps257
 go_wp2_with fail
 refine (S.out _ G.out).mono ?_;rintro e w2 ⟨rfl,aa⟩;have C:=ai aa;clear aa
 by_cases g0:(a.toList == [91])=true
 ·go_wp2_with fail
  go_ret2
  refine ⟨?_,C.out⟩;rw [<-J.out];have F:=H.out;clear J S C G I;rw [g0] at F;simp only [jd,jc,<-F];rfl
 ·have Q:(a.toList == [91])=false:=by simpa using g0
  clear g0
  by_cases g1:(a.toList == [46])=true
  ·go_wp2_with fail
   go_ret2
   refine ⟨?_,C.out⟩;rw [<-J.out];have F:=H.out;have M:=O.out;clear J S C G I;rw [Q] at F;rw [g1] at M;simp only [jd,jc,<-F,<-M];rfl
  ·have Z:(a.toList == [46])=false:=by simpa using g1
   clear g1
   by_cases g2:(a.toList == [40])=true
   ·go_wp2_with fail
    go_ret2
    refine ⟨?_,C.out⟩;rw [<-J.out];have F:=H.out;have M:=O.out;have U:=Y.out;clear J S C G I;rw [Q] at F;rw [Z] at M;rw [g2] at U;simp only [jd,jc,<-F,<-M,<-U];rfl
   ·have ab:(a.toList == [40])=false:=by simpa using g2
    clear g2
    go_wp2_with fail
    go_ret2
    refine ⟨?_,C.out⟩;rw [<-J.out];have F:=H.out;have M:=O.out;have U:=Y.out;clear J S C G I;rw [Q] at F;rw [Z] at M;rw [ab] at U;simp only [jd,jc,<-F,<-M,<-U];rfl
def jX (t:Tv):Value:=if t.k == 1 then .int .u8 8 else if t.k == 2 && t.is [97,114,114,97,121] then .int .u8 9 else if t.k == 2 && t.is [114,101,99,111,114,100] then .int .u8 10 else .int .u8 0
def jW (g:Nat) (t:Tv):Value:=if t.k == 1 then fv 156 g else if t.k == 2 && t.is [97,114,114,97,121] then fv 250 g else if t.k == 2 && t.is [114,101,99,111,114,100] then fv 251 g else .nilFunc
theorem F4 (h:SD X r d W) :
  Ta 238 #[pg X.g] W fun e w'=>e=.returned (.tuple #[jX (nx X (ps X.l d.i)),jW X.g (nx X (ps X.l d.i))])/\Below W.heap.size W w':=by
 have HN:Hid (Ta 190 #[pg X.g] W fun e w'=>e=.returned (nx X (ps X.l d.i)).v/\Tb W w'):=eS h.sv (fN _ _);have S:Hid (∀V,Tb W V->Ta 219 #[pg X.g] V fun e w'=>e=.returned (.string (kt 2 (nx X (ps X.l d.i))))/\Tb W w'):=fun V hb=>(kE (h.sv.below hb) (fN _ _)).mono (fun e w' ⟨h1,Y⟩=>⟨h1,hb.trans (Y.mono hb.size)⟩)
 clear h
 generalize nx X (ps X.l d.i)=t at *
 have Q:Hid (((kt 2 t).toList == [97,114,114,97,121])=(t.k == 2 && t.is [97,114,114,97,121])):=fy 2 t (by simp);have Z:Hid (((kt 2 t).toList == [114,101,99,111,114,100])=(t.k == 2 && t.is [114,101,99,111,114,100])):=fy 2 t (by simp)
 generalize kt 2 t=a at *
 have J:=mkfn;obtain ⟨uv,hu⟩:∃uv,(.tuple #[jX t,jW X.g t]:Value)=uv:=⟨_,rfl⟩;have M:=ai hu;rw [hu];clear hu;have I:∀w:World,(Instr.field 49 (.agg #[.int .u8 t.k,.string t.t,.int .i64 t.a,.int .i64 t.l,.int .i64 t.c,.int .i64 t.f]) 0).run Tryz.prog w=.ok (.int .u8 t.k) w:=fun w=>Ou _ _ _ _ _ _ w
 dsimp only [Tv.v] at HN
 have G:Hid (Tb W W):=hH _ _
 go_enter Tryz.func238,Tryz.ntmps238
 go_wp2_with fail
 refine HN.out.mono ?_;rintro e w1 ⟨rfl,ab⟩;have C:=ai ab;clear ab;cases h1:(t.k == 1) with
 |true=>
  go_wp2_with fail
  go_ret2
  refine ⟨?_,C.out⟩;rw [<-M.out];clear M S HN C G J I
  simp_all [jX,jW]
 |false=>
  go_wp2_with fail
  refine (S.out _ C.out).mono ?_;rintro e w2 ⟨rfl,ac⟩;have F:=ai ac;clear ac
  by_cases Y:(a.toList == [97,114,114,97,121])=true
  ·go_wp2_with fail
   go_ret2
   refine ⟨?_,F.out⟩;rw [<-M.out];have O:=Q.out;clear M S HN C F G J I;rw [Y] at O
   simp_all [jX,jW]
  ·have aa:(a.toList == [97,114,114,97,121])=false:=by simpa using Y
   clear Y
   go_wp2_with fail
   refine (S.out _ F.out).mono ?_;rintro e w3 ⟨rfl,ad⟩;have H:=ai ad;clear ad
   by_cases h3:(a.toList == [114,101,99,111,114,100])=true
   ·go_wp2_with fail
    go_ret2
    refine ⟨?_,H.out⟩;rw [<-M.out];have O:=Q.out;have U:=Z.out;clear M S HN C F H G J I;rw [aa] at O;rw [h3] at U;simp only [jX,jW,h1,<-O,<-U];rfl
   ·have ae:(a.toList == [114,101,99,111,114,100])=false:=by simpa using h3
    clear h3
    go_wp2_with fail
    go_ret2
    refine ⟨?_,H.out⟩;rw [<-M.out];have O:=Q.out;have U:=Z.out;clear M S HN C F H G J I;rw [aa] at O;rw [ae] at U;simp only [jX,jW,h1,<-O,<-U];rfl
def dR (t:Tv):Value:=if t.k == 1 then .int .u8 14 else if t.k == 2 && t.is [115,107,105,112] then .int .u8 13 else if t.k == 2 && t.is [105,102] then .int .u8 15 else if t.k == 2 && t.is [119,104,105,108,101] then .int .u8 16 else if t.k == 2 && t.is [102,111,114] then .int .u8 17 else if t.k == 2 && t.is [114,101,112,101,97,116] then .int .u8 18 else if t.k == 2 && t.is [114,101,116,117,114,110] then .int .u8 19 else if t.k == 2 && t.is [98,101,103,105,110] then .int .u8 20 else .int .u8 0
def dQ (g:Nat) (t:Tv):Value:=if t.k == 1 then fv 239 g else if t.k == 2 && t.is [115,107,105,112] then fv 240 g else if t.k == 2 && t.is [105,102] then fv 241 g else if t.k == 2 && t.is [119,104,105,108,101] then fv 242 g else if t.k == 2 && t.is [102,111,114] then fv 243 g else if t.k == 2 && t.is [114,101,112,101,97,116] then fv 244 g else if t.k == 2 && t.is [114,101,116,117,114,110] then fv 245 g else if t.k == 2 && t.is [98,101,103,105,110] then fv 246 g else .nilFunc
theorem qG (h:SD X r d W) :
  Ta 225 #[pg X.g] W fun e w'=>e=.returned (.tuple #[dR (nx X (ps X.l d.i)),dQ X.g (nx X (ps X.l d.i))])/\Below W.heap.size W w':=by
 have HN:Hid (Ta 190 #[pg X.g] W fun e w'=>e=.returned (nx X (ps X.l d.i)).v/\Tb W w'):=eS h.sv (fN _ _);have HK:Hid (∀V,Tb W V->Ta 219 #[pg X.g] V fun e w'=>e=.returned (.string (kt 2 (nx X (ps X.l d.i))))/\Tb W w'):=fun V hb=>(kE (h.sv.below hb) (fN _ _)).mono (fun e w' ⟨h1,h2⟩=>⟨h1,hb.trans (h2.mono hb.size)⟩)
 clear h
 generalize nx X (ps X.l d.i)=t at *
 have S:Hid (((kt 2 t).toList == [115,107,105,112])=(t.k == 2 && t.is [115,107,105,112])):=fy 2 t (by simp);have U:Hid (((kt 2 t).toList == [105,102])=(t.k == 2 && t.is [105,102])):=fy 2 t (by simp);have aa:Hid (((kt 2 t).toList == [119,104,105,108,101])=(t.k == 2 && t.is [119,104,105,108,101])):=fy 2 t (by simp);have ac:Hid (((kt 2 t).toList == [102,111,114])=(t.k == 2 && t.is [102,111,114])):=fy 2 t (by simp);have ae:Hid (((kt 2 t).toList == [114,101,112,101,97,116])=(t.k == 2 && t.is [114,101,112,101,97,116])):=fy 2 t (by simp);have ag:Hid (((kt 2 t).toList == [114,101,116,117,114,110])=(t.k == 2 && t.is [114,101,116,117,114,110])):=fy 2 t (by simp);have aj:Hid (((kt 2 t).toList == [98,101,103,105,110])=(t.k == 2 && t.is [98,101,103,105,110])):=fy 2 t (by simp)
 generalize kt 2 t=a at *
 have M:=mkfn;obtain ⟨uv,hu⟩:∃uv,(.tuple #[dR t,dQ X.g t]:Value)=uv:=⟨_,rfl⟩;have O:=ai hu;rw [hu];clear hu;have J:∀w:World,(Instr.field 49 (.agg #[.int .u8 t.k,.string t.t,.int .i64 t.a,.int .i64 t.l,.int .i64 t.c,.int .i64 t.f]) 0).run Tryz.prog w=.ok (.int .u8 t.k) w:=fun w=>Ou _ _ _ _ _ _ w
 dsimp only [Tv.v] at HN
 have I:Hid (Tb W W):=hH _ _
 go_enter Tryz.func225,Tryz.ntmps225
 go_wp2_with fail
 refine HN.out.mono ?_;rintro e w1 ⟨rfl,al⟩;have G:=ai al;clear al;cases h1:(t.k == 1) with
 |true=>
  go_wp2_with fail
  go_ret2
  refine ⟨?_,G.out⟩;rw [<-O.out];clear O HK HN G I M J
  simp_all [dR,dQ]
 |false=>
  go_wp2_with fail
  refine (HK.out _ G.out).mono ?_;rintro e w2 ⟨rfl,am⟩;have C:=ai am;clear am
  by_cases g0:(a.toList == [115,107,105,112])=true
  ·go_wp2_with fail
   go_ret2
   refine ⟨?_,C.out⟩;rw [<-O.out];have F:=S.out;clear O HK HN G C I M J;rw [g0] at F;simp only [dR,dQ,h1,<-F];rfl
  ·have Y:(a.toList == [115,107,105,112])=false:=by simpa using g0
   clear g0
   by_cases g1:(a.toList == [105,102])=true
   ·go_wp2_with fail
    go_ret2
    refine ⟨?_,C.out⟩;rw [<-O.out];have F:=S.out;have H:=U.out;clear O HK HN G C I M J;rw [Y] at F;rw [g1] at H;simp only [dR,dQ,h1,<-F,<-H];rfl
   ·have ab:(a.toList == [105,102])=false:=by simpa using g1
    clear g1
    by_cases g2:(a.toList == [119,104,105,108,101])=true
    ·go_wp2_with fail
     go_ret2
     refine ⟨?_,C.out⟩;rw [<-O.out];have F:=S.out;have H:=U.out;have Q:=aa.out;clear O HK HN G C I M J;rw [Y] at F;rw [ab] at H;rw [g2] at Q;simp only [dR,dQ,h1,<-F,<-H,<-Q];rfl
    ·have ad:(a.toList == [119,104,105,108,101])=false:=by simpa using g2
     clear g2
     by_cases g3:(a.toList == [102,111,114])=true
     ·go_wp2_with fail
      go_ret2
      refine ⟨?_,C.out⟩;rw [<-O.out];have F:=S.out;have H:=U.out;have Q:=aa.out;have Z:=ac.out;clear O HK HN G C I M J;rw [Y] at F;rw [ab] at H;rw [ad] at Q;rw [g3] at Z;simp only [dR,dQ,h1,<-F,<-H,<-Q,<-Z];rfl
     ·have af:(a.toList == [102,111,114])=false:=by simpa using g3
      clear g3
      by_cases g4:(a.toList == [114,101,112,101,97,116])=true
      ·go_wp2_with fail
       go_ret2
       refine ⟨?_,C.out⟩;rw [<-O.out];have F:=S.out;have H:=U.out;have Q:=aa.out;have Z:=ac.out;have e4:=ae.out;clear O HK HN G C I M J;rw [Y] at F;rw [ab] at H;rw [ad] at Q;rw [af] at Z;rw [g4] at e4;simp only [dR,dQ,h1,<-F,<-H,<-Q,<-Z,<-e4];rfl
      ·have ah:(a.toList == [114,101,112,101,97,116])=false:=by simpa using g4
       clear g4
       by_cases g5:(a.toList == [114,101,116,117,114,110])=true
       ·go_wp2_with fail
        go_ret2
        refine ⟨?_,C.out⟩;rw [<-O.out];have F:=S.out;have H:=U.out;have Q:=aa.out;have Z:=ac.out;have e4:=ae.out;have e5:=ag.out;clear O HK HN G C I M J;rw [Y] at F;rw [ab] at H;rw [ad] at Q;rw [af] at Z;rw [ah] at e4;rw [g5] at e5;simp only [dR,dQ,h1,<-F,<-H,<-Q,<-Z,<-e4,<-e5];rfl
       ·have ak:(a.toList == [114,101,116,117,114,110])=false:=by simpa using g5
        clear g5
        by_cases g6:(a.toList == [98,101,103,105,110])=true
        ·go_wp2_with fail
         go_ret2
         refine ⟨?_,C.out⟩;rw [<-O.out];have F:=S.out;have H:=U.out;have Q:=aa.out;have Z:=ac.out;have e4:=ae.out;have e5:=ag.out;have e6:=aj.out;clear O HK HN G C I M J;rw [Y] at F;rw [ab] at H;rw [ad] at Q;rw [af] at Z;rw [ah] at e4;rw [ak] at e5;rw [g6] at e6;simp only [dR,dQ,h1,<-F,<-H,<-Q,<-Z,<-e4,<-e5,<-e6];rfl
        ·have an:(a.toList == [98,101,103,105,110])=false:=by simpa using g6
         clear g6
         go_wp2_with fail
         go_ret2
         refine ⟨?_,C.out⟩;rw [<-O.out];have F:=S.out;have H:=U.out;have Q:=aa.out;have Z:=ac.out;have e4:=ae.out;have e5:=ag.out;have e6:=aj.out;clear O HK HN G C I M J;rw [Y] at F;rw [ab] at H;rw [ad] at Q;rw [af] at Z;rw [ah] at e4;rw [ak] at e5;rw [an] at e6;simp only [dR,dQ,h1,<-F,<-H,<-Q,<-Z,<-e4,<-e5,<-e6];rfl
end Go.Proofs.YtcjiapphbpiffaaGreatDoor
