import Derived.Test.YtjiepkenkcgkhaaGreatDoorM20
set_option linter.unusedVariables false
set_option linter.unusedSimpArgs false
set_option maxHeartbeats 2000000
namespace Go.Proofs.YtjiepkenkcgkhaaGreatDoor
open Go.RowKit
variable {X:Sx}{r:Nat}{d:D}{W:World}
theorem pj (h:SD X r d W) :
  Ra 251 #[pg X.g] W fun e w'=>∃b:Bool,e=.returned (.bool b)/\(∀m,bu (cL (aF X.l) d) (.ex m)=if b then some (.fl (.mt m)) else none)/\Below W.heap.size W w':=by
 have HF:Hid (Ra 254 #[pg X.g] W fun e w'=>e=.returned (.tuple #[.int .u8 (cC (nx X (ps X.l d.i))),lP X.g (nx X (ps X.l d.i))])/\Rc W w'):=pJ h;have HX:Hid (∀m,bu (cL (aF X.l) d) (.ex m)=if cC (nx X (ps X.l d.i)) == 0 then none else some (.fl (.mt m))):=fun m=>by rw [h.hnx];exact Fy _ m
 clear h
 generalize nx X (ps X.l d.i)=t at *
 have hv:(cC t == 0)=true/\lP X.g t=.nilFunc\/(cC t == 0)=false/\∃f,lP X.g t=fv f X.g:=by
  unfold lP;have hf:cC t=25\/cC t=26\/cC t=27\/cC t=32\/cC t=28\/cC t=0:=by unfold cC;(repeat' split) <;> simp
  rcases hf with e|e|e|e|e|e <;> rw [e]
  ·exact .inr ⟨rfl,_,rfl⟩
  ·exact .inr ⟨rfl,_,rfl⟩
  ·exact .inr ⟨rfl,_,rfl⟩
  ·exact .inr ⟨rfl,_,rfl⟩
  ·exact .inr ⟨rfl,_,rfl⟩
  ·exact .inl ⟨rfl,rfl⟩
 rcases hv with ⟨h0,h1⟩|⟨h0,f,h1⟩
 ·rw [h1] at HF;have HX2:Hid (∀m,bu (cL (aF X.l) d) (.ex m)=none):=fun m=>by rw [HX.out m,IO h0]
  clear HX h0 h1;have hne:=pD
  go_enter Tryz.func251,Tryz.ntmps251
  go_wp2_with fail
  refine HF.out.mono ?_;rintro e w1 ⟨rfl,hb1⟩;have HB1:=ai hb1;clear hb1
  go_wp2_with fail
  go_ret
  exact ⟨false,rfl,HX2.out,HB1.out⟩
 ·rw [h1] at HF;have HX2:Hid (∀m,bu (cL (aF X.l) d) (.ex m)=some (.fl (.mt m))):=fun m=>by rw [HX.out m,Eq (by rw [h0];decide)]
  clear HX h0 h1;have hne:=sS f X.g
  go_enter Tryz.func251,Tryz.ntmps251
  go_wp2_with fail
  refine HF.out.mono ?_;rintro e w1 ⟨rfl,hb1⟩;have HB1:=ai hb1;clear hb1
  go_wp2_with fail
  go_ret
  exact ⟨true,rfl,HX2.out,HB1.out⟩
theorem Ic {n:Nat}{X:Sx}{r:Nat}{d:D}{W:World}(h:SD X r d W) (hr:r<=90) (hq:qn (aF X.l) d (fun t=>Fl.takes t .cs)=true):Ra 228 #[pg X.g] W fun e w'=>∃d',Rb (aF X.l) [.fl .cs] d d'/\kX X (.tuple #[]) d' e w':=
 (yw h (by omega) hq).mono (fun e w' ho=>⟨_,bR Qj,ho⟩)
def iR (t:Tv):Value:=if t.k == 2 && t.is [118,97,114] then .int .u8 3 else if t.k == 2 && t.is [99,111,110,115,116] then .int .u8 4 else if t.k == 2 && t.is [112,114,111,99] then .int .u8 5 else .int .u8 0
def iQ (g:Nat) (t:Tv):Value:=if t.k == 2 && t.is [118,97,114] then fv 217 g else if t.k == 2 && t.is [99,111,110,115,116] then fv 218 g else if t.k == 2 && t.is [112,114,111,99] then fv 219 g else .nilFunc
theorem mM (h:SD X r d W) :
  Ra 190 #[pg X.g] W fun e w'=>e=.returned (.tuple #[iR (nx X (ps X.l d.i)),iQ X.g (nx X (ps X.l d.i))])/\Below W.heap.size W w':=by
 have HK:Hid (∀V,Rc W V->Ra 215 #[pg X.g] V fun e w'=>e=.returned (.string (kt 2 (nx X (ps X.l d.i))))/\Rc W w'):=fun V hb=>(kj (h.sv.below hb) (fB _ _)).mono (fun e w' ⟨h1,h2⟩=>⟨h1,hb.trans (h2.mono hb.size)⟩)
 clear h
 generalize nx X (ps X.l d.i)=t at *
 have HE0:Hid (((kt 2 t).toList == [118,97,114])=(t.k == 2 && t.is [118,97,114])):=fh 2 t (by simp);have HE1:Hid (((kt 2 t).toList == [99,111,110,115,116])=(t.k == 2 && t.is [99,111,110,115,116])):=fh 2 t (by simp);have HE2:Hid (((kt 2 t).toList == [112,114,111,99])=(t.k == 2 && t.is [112,114,111,99])):=fh 2 t (by simp)
 generalize kt 2 t=a at *
 have hmf:=mkfn;obtain ⟨uv,hu⟩:∃uv,(.tuple #[iR t,iQ X.g t]:Value)=uv:=⟨_,rfl⟩;have HU:=ai hu;rw [hu];clear hu;have HB0:Hid (Rc W W):=hH _ _
 go_enter Tryz.func190,Tryz.ntmps190
 go_wp2_with fail
 refine (HK.out _ HB0.out).mono ?_;rintro e w2 ⟨rfl,hb2⟩;have HB2:=ai hb2;clear hb2
 by_cases g0:(a.toList == [118,97,114])=true
 ·go_wp2_with fail
  go_ret2
  refine ⟨?_,HB2.out⟩;rw [<-HU.out];have e0:=HE0.out;clear HU HK HB2 HB0 hmf;rw [g0] at e0;simp only [iR,iQ,<-e0];rfl
 ·have g0':(a.toList == [118,97,114])=false:=by simpa using g0
  clear g0
  by_cases g1:(a.toList == [99,111,110,115,116])=true
  ·go_wp2_with fail
   go_ret2
   refine ⟨?_,HB2.out⟩;rw [<-HU.out];have e0:=HE0.out;have e1:=HE1.out;clear HU HK HB2 HB0 hmf;rw [g0'] at e0;rw [g1] at e1;simp only [iR,iQ,<-e0,<-e1];rfl
  ·have g1':(a.toList == [99,111,110,115,116])=false:=by simpa using g1
   clear g1
   by_cases g2:(a.toList == [112,114,111,99])=true
   ·go_wp2_with fail
    go_ret2
    refine ⟨?_,HB2.out⟩;rw [<-HU.out];have e0:=HE0.out;have e1:=HE1.out;have e2:=HE2.out;clear HU HK HB2 HB0 hmf;rw [g0'] at e0;rw [g1'] at e1;rw [g2] at e2;simp only [iR,iQ,<-e0,<-e1,<-e2];rfl
   ·have g2':(a.toList == [112,114,111,99])=false:=by simpa using g2
    clear g2
    go_wp2_with fail
    go_ret2
    refine ⟨?_,HB2.out⟩;rw [<-HU.out];have e0:=HE0.out;have e1:=HE1.out;have e2:=HE2.out;clear HU HK HB2 HB0 hmf;rw [g0'] at e0;rw [g1'] at e1;rw [g2'] at e2;simp only [iR,iQ,<-e0,<-e1,<-e2];rfl
def iP (t:Tv):Value:=if t.k == 6 && t.is [91] then .int .u8 29 else if t.k == 6 && t.is [46] then .int .u8 30 else if t.k == 6 && t.is [40] then .int .u8 31 else .int .u8 0
def iO (g:Nat) (t:Tv):Value:=if t.k == 6 && t.is [91] then fv 256 g else if t.k == 6 && t.is [46] then fv 257 g else if t.k == 6 && t.is [40] then fv 258 g else .nilFunc
theorem xQ (h:SD X r d W) :
  Ra 253 #[pg X.g] W fun e w'=>e=.returned (.tuple #[iP (nx X (ps X.l d.i)),iO X.g (nx X (ps X.l d.i))])/\Below W.heap.size W w':=by
 have HK:Hid (∀V,Rc W V->Ra 216 #[pg X.g] V fun e w'=>e=.returned (.string (kt 6 (nx X (ps X.l d.i))))/\Rc W w'):=fun V hb=>(ls (h.sv.below hb) (fB _ _)).mono (fun e w' ⟨h1,h2⟩=>⟨h1,hb.trans (h2.mono hb.size)⟩)
 clear h
 generalize nx X (ps X.l d.i)=t at *
 have HE0:Hid (((kt 6 t).toList == [91])=(t.k == 6 && t.is [91])):=fh 6 t (by simp);have HE1:Hid (((kt 6 t).toList == [46])=(t.k == 6 && t.is [46])):=fh 6 t (by simp);have HE2:Hid (((kt 6 t).toList == [40])=(t.k == 6 && t.is [40])):=fh 6 t (by simp)
 generalize kt 6 t=a at *
 have hmf:=mkfn;obtain ⟨uv,hu⟩:∃uv,(.tuple #[iP t,iO X.g t]:Value)=uv:=⟨_,rfl⟩;have HU:=ai hu;rw [hu];clear hu;have HB0:Hid (Rc W W):=hH _ _
 go_enter Tryz.func253,Tryz.ntmps253
 go_wp2_with fail
 refine (HK.out _ HB0.out).mono ?_;rintro e w2 ⟨rfl,hb2⟩;have HB2:=ai hb2;clear hb2
 by_cases g0:(a.toList == [91])=true
 ·go_wp2_with fail
  go_ret2
  refine ⟨?_,HB2.out⟩;rw [<-HU.out];have e0:=HE0.out;clear HU HK HB2 HB0 hmf;rw [g0] at e0;simp only [iP,iO,<-e0];rfl
 ·have g0':(a.toList == [91])=false:=by simpa using g0
  clear g0
  by_cases g1:(a.toList == [46])=true
  ·go_wp2_with fail
   go_ret2
   refine ⟨?_,HB2.out⟩;rw [<-HU.out];have e0:=HE0.out;have e1:=HE1.out;clear HU HK HB2 HB0 hmf;rw [g0'] at e0;rw [g1] at e1;simp only [iP,iO,<-e0,<-e1];rfl
  ·have g1':(a.toList == [46])=false:=by simpa using g1
   clear g1
   by_cases g2:(a.toList == [40])=true
   ·go_wp2_with fail
    go_ret2
    refine ⟨?_,HB2.out⟩;rw [<-HU.out];have e0:=HE0.out;have e1:=HE1.out;have e2:=HE2.out;clear HU HK HB2 HB0 hmf;rw [g0'] at e0;rw [g1'] at e1;rw [g2] at e2;simp only [iP,iO,<-e0,<-e1,<-e2];rfl
   ·have g2':(a.toList == [40])=false:=by simpa using g2
    clear g2
    go_wp2_with fail
    go_ret2
    refine ⟨?_,HB2.out⟩;rw [<-HU.out];have e0:=HE0.out;have e1:=HE1.out;have e2:=HE2.out;clear HU HK HB2 HB0 hmf;rw [g0'] at e0;rw [g1'] at e1;rw [g2'] at e2;simp only [iP,iO,<-e0,<-e1,<-e2];rfl
def jO (t:Tv):Value:=if t.k == 1 then .int .u8 8 else if t.k == 2 && t.is [97,114,114,97,121] then .int .u8 9 else if t.k == 2 && t.is [114,101,99,111,114,100] then .int .u8 10 else .int .u8 0
def jN (g:Nat) (t:Tv):Value:=if t.k == 1 then fv 152 g else if t.k == 2 && t.is [97,114,114,97,121] then fv 246 g else if t.k == 2 && t.is [114,101,99,111,114,100] then fv 247 g else .nilFunc
theorem EE (h:SD X r d W) :
  Ra 234 #[pg X.g] W fun e w'=>e=.returned (.tuple #[jO (nx X (ps X.l d.i)),jN X.g (nx X (ps X.l d.i))])/\Below W.heap.size W w':=by
 have HN:Hid (Ra 186 #[pg X.g] W fun e w'=>e=.returned (nx X (ps X.l d.i)).v/\Rc W w'):=eG h.sv (fB _ _);have HK:Hid (∀V,Rc W V->Ra 215 #[pg X.g] V fun e w'=>e=.returned (.string (kt 2 (nx X (ps X.l d.i))))/\Rc W w'):=fun V hb=>(kj (h.sv.below hb) (fB _ _)).mono (fun e w' ⟨h1,h2⟩=>⟨h1,hb.trans (h2.mono hb.size)⟩)
 clear h
 generalize nx X (ps X.l d.i)=t at *
 have HE0:Hid (((kt 2 t).toList == [97,114,114,97,121])=(t.k == 2 && t.is [97,114,114,97,121])):=fh 2 t (by simp);have HE1:Hid (((kt 2 t).toList == [114,101,99,111,114,100])=(t.k == 2 && t.is [114,101,99,111,114,100])):=fh 2 t (by simp)
 generalize kt 2 t=a at *
 have hmf:=mkfn;obtain ⟨uv,hu⟩:∃uv,(.tuple #[jO t,jN X.g t]:Value)=uv:=⟨_,rfl⟩;have HU:=ai hu;rw [hu];clear hu;have hfd:∀w:World,(Instr.field 51 (.agg #[.int .u8 t.k,.string t.t,.int .i64 t.a,.int .i64 t.l,.int .i64 t.c,.int .i64 t.f]) 0).run Tryz.prog w=.ok (.int .u8 t.k) w:=fun w=>MK _ _ _ _ _ _ w
 dsimp only [Tv.v] at HN
 have HB0:Hid (Rc W W):=hH _ _
 go_enter Tryz.func234,Tryz.ntmps234
 go_wp2_with fail
 refine HN.out.mono ?_;rintro e w1 ⟨rfl,hb1⟩;have HB1:=ai hb1;clear hb1;cases h1:(t.k == 1) with
 |true=>
  go_wp2_with fail
  go_ret2
  refine ⟨?_,HB1.out⟩;rw [<-HU.out];clear HU HK HN HB1 HB0 hmf hfd
  simp_all [jO,jN]
 |false=>
  go_wp2_with fail
  refine (HK.out _ HB1.out).mono ?_;rintro e w2 ⟨rfl,hb2⟩;have HB2:=ai hb2;clear hb2
  by_cases h2:(a.toList == [97,114,114,97,121])=true
  ·go_wp2_with fail
   go_ret2
   refine ⟨?_,HB2.out⟩;rw [<-HU.out];have e0:=HE0.out;clear HU HK HN HB1 HB2 HB0 hmf hfd;rw [h2] at e0
   simp_all [jO,jN]
  ·have h2':(a.toList == [97,114,114,97,121])=false:=by simpa using h2
   clear h2
   go_wp2_with fail
   refine (HK.out _ HB2.out).mono ?_;rintro e w3 ⟨rfl,hb3⟩;have HB3:=ai hb3;clear hb3
   by_cases h3:(a.toList == [114,101,99,111,114,100])=true
   ·go_wp2_with fail
    go_ret2
    refine ⟨?_,HB3.out⟩;rw [<-HU.out];have e0:=HE0.out;have e1:=HE1.out;clear HU HK HN HB1 HB2 HB3 HB0 hmf hfd;rw [h2'] at e0;rw [h3] at e1;simp only [jO,jN,h1,<-e0,<-e1];rfl
   ·have h3':(a.toList == [114,101,99,111,114,100])=false:=by simpa using h3
    clear h3
    go_wp2_with fail
    go_ret2
    refine ⟨?_,HB3.out⟩;rw [<-HU.out];have e0:=HE0.out;have e1:=HE1.out;clear HU HK HN HB1 HB2 HB3 HB0 hmf hfd;rw [h2'] at e0;rw [h3'] at e1;simp only [jO,jN,h1,<-e0,<-e1];rfl
def dD (t:Tv):Value:=if t.k == 1 then .int .u8 14 else if t.k == 2 && t.is [115,107,105,112] then .int .u8 13 else if t.k == 2 && t.is [105,102] then .int .u8 15 else if t.k == 2 && t.is [119,104,105,108,101] then .int .u8 16 else if t.k == 2 && t.is [102,111,114] then .int .u8 17 else if t.k == 2 && t.is [114,101,112,101,97,116] then .int .u8 18 else if t.k == 2 && t.is [114,101,116,117,114,110] then .int .u8 19 else if t.k == 2 && t.is [98,101,103,105,110] then .int .u8 20 else .int .u8 0
def dC (g:Nat) (t:Tv):Value:=if t.k == 1 then fv 235 g else if t.k == 2 && t.is [115,107,105,112] then fv 236 g else if t.k == 2 && t.is [105,102] then fv 237 g else if t.k == 2 && t.is [119,104,105,108,101] then fv 238 g else if t.k == 2 && t.is [102,111,114] then fv 239 g else if t.k == 2 && t.is [114,101,112,101,97,116] then fv 240 g else if t.k == 2 && t.is [114,101,116,117,114,110] then fv 241 g else if t.k == 2 && t.is [98,101,103,105,110] then fv 242 g else .nilFunc
theorem qh (h:SD X r d W) :
  Ra 221 #[pg X.g] W fun e w'=>e=.returned (.tuple #[dD (nx X (ps X.l d.i)),dC X.g (nx X (ps X.l d.i))])/\Below W.heap.size W w':=by
 have HN:Hid (Ra 186 #[pg X.g] W fun e w'=>e=.returned (nx X (ps X.l d.i)).v/\Rc W w'):=eG h.sv (fB _ _);have HK:Hid (∀V,Rc W V->Ra 215 #[pg X.g] V fun e w'=>e=.returned (.string (kt 2 (nx X (ps X.l d.i))))/\Rc W w'):=fun V hb=>(kj (h.sv.below hb) (fB _ _)).mono (fun e w' ⟨h1,h2⟩=>⟨h1,hb.trans (h2.mono hb.size)⟩)
 clear h
 generalize nx X (ps X.l d.i)=t at *
 have HE0:Hid (((kt 2 t).toList == [115,107,105,112])=(t.k == 2 && t.is [115,107,105,112])):=fh 2 t (by simp);have HE1:Hid (((kt 2 t).toList == [105,102])=(t.k == 2 && t.is [105,102])):=fh 2 t (by simp);have HE2:Hid (((kt 2 t).toList == [119,104,105,108,101])=(t.k == 2 && t.is [119,104,105,108,101])):=fh 2 t (by simp);have HE3:Hid (((kt 2 t).toList == [102,111,114])=(t.k == 2 && t.is [102,111,114])):=fh 2 t (by simp);have HE4:Hid (((kt 2 t).toList == [114,101,112,101,97,116])=(t.k == 2 && t.is [114,101,112,101,97,116])):=fh 2 t (by simp);have HE5:Hid (((kt 2 t).toList == [114,101,116,117,114,110])=(t.k == 2 && t.is [114,101,116,117,114,110])):=fh 2 t (by simp);have HE6:Hid (((kt 2 t).toList == [98,101,103,105,110])=(t.k == 2 && t.is [98,101,103,105,110])):=fh 2 t (by simp)
 generalize kt 2 t=a at *
 have hmf:=mkfn;obtain ⟨uv,hu⟩:∃uv,(.tuple #[dD t,dC X.g t]:Value)=uv:=⟨_,rfl⟩;have HU:=ai hu;rw [hu];clear hu;have hfd:∀w:World,(Instr.field 51 (.agg #[.int .u8 t.k,.string t.t,.int .i64 t.a,.int .i64 t.l,.int .i64 t.c,.int .i64 t.f]) 0).run Tryz.prog w=.ok (.int .u8 t.k) w:=fun w=>MK _ _ _ _ _ _ w
 dsimp only [Tv.v] at HN
 have HB0:Hid (Rc W W):=hH _ _
 go_enter Tryz.func221,Tryz.ntmps221
 go_wp2_with fail
 refine HN.out.mono ?_;rintro e w1 ⟨rfl,hb1⟩;have HB1:=ai hb1;clear hb1;cases h1:(t.k == 1) with
 |true=>
  go_wp2_with fail
  go_ret2
  refine ⟨?_,HB1.out⟩;rw [<-HU.out];clear HU HK HN HB1 HB0 hmf hfd
  simp_all [dD,dC]
 |false=>
  go_wp2_with fail
  refine (HK.out _ HB1.out).mono ?_;rintro e w2 ⟨rfl,hb2⟩;have HB2:=ai hb2;clear hb2
  by_cases g0:(a.toList == [115,107,105,112])=true
  ·go_wp2_with fail
   go_ret2
   refine ⟨?_,HB2.out⟩;rw [<-HU.out];have e0:=HE0.out;clear HU HK HN HB1 HB2 HB0 hmf hfd;rw [g0] at e0;simp only [dD,dC,h1,<-e0];rfl
  ·have g0':(a.toList == [115,107,105,112])=false:=by simpa using g0
   clear g0
   by_cases g1:(a.toList == [105,102])=true
   ·go_wp2_with fail
    go_ret2
    refine ⟨?_,HB2.out⟩;rw [<-HU.out];have e0:=HE0.out;have e1:=HE1.out;clear HU HK HN HB1 HB2 HB0 hmf hfd;rw [g0'] at e0;rw [g1] at e1;simp only [dD,dC,h1,<-e0,<-e1];rfl
   ·have g1':(a.toList == [105,102])=false:=by simpa using g1
    clear g1
    by_cases g2:(a.toList == [119,104,105,108,101])=true
    ·go_wp2_with fail
     go_ret2
     refine ⟨?_,HB2.out⟩;rw [<-HU.out];have e0:=HE0.out;have e1:=HE1.out;have e2:=HE2.out;clear HU HK HN HB1 HB2 HB0 hmf hfd;rw [g0'] at e0;rw [g1'] at e1;rw [g2] at e2;simp only [dD,dC,h1,<-e0,<-e1,<-e2];rfl
    ·have g2':(a.toList == [119,104,105,108,101])=false:=by simpa using g2
     clear g2
     by_cases g3:(a.toList == [102,111,114])=true
     ·go_wp2_with fail
      go_ret2
      refine ⟨?_,HB2.out⟩;rw [<-HU.out];have e0:=HE0.out;have e1:=HE1.out;have e2:=HE2.out;have e3:=HE3.out;clear HU HK HN HB1 HB2 HB0 hmf hfd;rw [g0'] at e0;rw [g1'] at e1;rw [g2'] at e2;rw [g3] at e3;simp only [dD,dC,h1,<-e0,<-e1,<-e2,<-e3];rfl
     ·have g3':(a.toList == [102,111,114])=false:=by simpa using g3
      clear g3
      by_cases g4:(a.toList == [114,101,112,101,97,116])=true
      ·go_wp2_with fail
       go_ret2
       refine ⟨?_,HB2.out⟩;rw [<-HU.out];have e0:=HE0.out;have e1:=HE1.out;have e2:=HE2.out;have e3:=HE3.out;have e4:=HE4.out;clear HU HK HN HB1 HB2 HB0 hmf hfd;rw [g0'] at e0;rw [g1'] at e1;rw [g2'] at e2;rw [g3'] at e3;rw [g4] at e4;simp only [dD,dC,h1,<-e0,<-e1,<-e2,<-e3,<-e4];rfl
      ·have g4':(a.toList == [114,101,112,101,97,116])=false:=by simpa using g4
       clear g4
       by_cases g5:(a.toList == [114,101,116,117,114,110])=true
       ·go_wp2_with fail
        go_ret2
        refine ⟨?_,HB2.out⟩;rw [<-HU.out];have e0:=HE0.out;have e1:=HE1.out;have e2:=HE2.out;have e3:=HE3.out;have e4:=HE4.out;have e5:=HE5.out;clear HU HK HN HB1 HB2 HB0 hmf hfd;rw [g0'] at e0;rw [g1'] at e1;rw [g2'] at e2;rw [g3'] at e3;rw [g4'] at e4;rw [g5] at e5;simp only [dD,dC,h1,<-e0,<-e1,<-e2,<-e3,<-e4,<-e5];rfl
       ·have g5':(a.toList == [114,101,116,117,114,110])=false:=by simpa using g5
        clear g5
        by_cases g6:(a.toList == [98,101,103,105,110])=true
        ·go_wp2_with fail
         go_ret2
         refine ⟨?_,HB2.out⟩;rw [<-HU.out];have e0:=HE0.out;have e1:=HE1.out;have e2:=HE2.out;have e3:=HE3.out;have e4:=HE4.out;have e5:=HE5.out;have e6:=HE6.out;clear HU HK HN HB1 HB2 HB0 hmf hfd;rw [g0'] at e0;rw [g1'] at e1;rw [g2'] at e2;rw [g3'] at e3;rw [g4'] at e4;rw [g5'] at e5;rw [g6] at e6;simp only [dD,dC,h1,<-e0,<-e1,<-e2,<-e3,<-e4,<-e5,<-e6];rfl
        ·have g6':(a.toList == [98,101,103,105,110])=false:=by simpa using g6
         clear g6
         go_wp2_with fail
         go_ret2
         refine ⟨?_,HB2.out⟩;rw [<-HU.out];have e0:=HE0.out;have e1:=HE1.out;have e2:=HE2.out;have e3:=HE3.out;have e4:=HE4.out;have e5:=HE5.out;have e6:=HE6.out;clear HU HK HN HB1 HB2 HB0 hmf hfd;rw [g0'] at e0;rw [g1'] at e1;rw [g2'] at e2;rw [g3'] at e3;rw [g4'] at e4;rw [g5'] at e5;rw [g6'] at e6;simp only [dD,dC,h1,<-e0,<-e1,<-e2,<-e3,<-e4,<-e5,<-e6];rfl
end Go.Proofs.YtjiepkenkcgkhaaGreatDoor
