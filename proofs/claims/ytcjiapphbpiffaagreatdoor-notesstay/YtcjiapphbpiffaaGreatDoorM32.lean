import Derived.Deep.CutRange
import Derived.Test.YtcjiapphbpiffaaGreatDoorM31
set_option linter.unusedVariables false
set_option linter.unusedSimpArgs false
set_option maxHeartbeats 4000000
namespace Go.Proofs.YtcjiapphbpiffaaGreatDoor
open Go.RowKit
open Lw (Dc bE rt cG dD fu iC bZ aX cy)
variable {W' w' V W1:World}{st:Sy}{g n:Nat}{v:Value}{o:Oper}{a:Act}
theorem eD {B:Nat}{w W:World}(h:Below B w W) (m:Nat):Below B w (W.drewN m):=⟨by rw [World.drewN];exact h.os,by rw [World.drewN];exact h.tape,by rw [World.drewN];exact h.output,by rw [World.drewN];exact h.size,by rw [World.drewN];exact h.block⟩
theorem sW {S:Nat->Prop}{W:World}(h:SS S W g st) (hl:st.ws.length<=1000000000) (hm:∀m,st.mr=some m->m<=st.ws.length) (f:Int) :
  Ta 131 #[cd g,.int .i64 f] W fun r w'=>r=.returned (.tuple #[])/\Mv S g W w' (st.emp f):=by
 obtain ⟨vn,vw,I,s1,s2⟩:=h.ex;have Q:=h.sg;obtain ⟨p,cap,e,hc1,hc2⟩:=bG I.rd;subst e;obtain ⟨c0,c1,c2,c3,c4,c5,c6,c7⟩:=I.sb.cells;have aa:=I.sb.lt;have quiet:st.emp f=st->∀V,Below W.heap.size W V->Mv S g W V (st.emp f):=fun e V F=>by rw [e];exact Mv.quiet h F
 cases C:st.mr with
 |none=>
  have H:Hid (∀V,Tb W V->Mv S g W V (st.emp f)):=quiet (by unfold Sy.emp;rw [C]);rw [C] at c3 c4;clear quiet h I s1 s2;have HB:Hid (∀m,Tb W (W.drewN m)):=fun m=>eD (hH _ _) m
  go_enter Xg,WS
  go_wp2_with fail
  go_quiet (fail)
  go_wp2_with fail
  refine Ti (v:=.tuple #[]) (by simp [results,Tryz.f131,go_sem]) rfl ?_;exact ⟨rfl,H.out _ (HB.out _)⟩
 |some m=>
  have O:=hm m C;rw [C] at c3 c4;simp only [Option.isSome_some,Wa] at c3 c4;have HB:Hid (∀m,Tb W (W.drewN m)):=fun m=>eD (hH _ _) m
  by_cases hf:f<2
  ·have H:Hid (∀V,Tb W V->Mv S g W V (st.emp f)):=quiet (by unfold Sy.emp;rw [C];simp only;rw [IO (.inl hf)]);clear quiet h I s1 s2
   go_enter Xg,WS
   go_wp2_with fail
   go_quiet (fail)
   go_wp2_with fail
   refine Ti (v:=.tuple #[]) (by simp [results,Tryz.f131,go_sem]) rfl ?_;exact ⟨rfl,H.out _ (HB.out _)⟩
  ·have qf:decide (f<2)=false:=Tg hf;cases U:st.wr with
   |false=>
    have H:Hid (∀V,Tb W V->Mv S g W V (st.emp f)):=quiet (by unfold Sy.emp;rw [C];simp only;rw [IO (.inr (.inl U))]);rw [U] at c5;clear quiet h I s1 s2 c0 c1 c6 c7 hm C O U hl Q hc1 hc2
    go_enter Xg,WS
    go_wp2_with fail
    go_quiet (fail)
    go_wp2_with fail
    refine Ti (v:=.tuple #[]) (by simp [results,Tryz.f131,go_sem]) rfl ?_;exact ⟨rfl,H.out _ (HB.out _)⟩
   |true=>
    rw [U] at c5
    have HK:Hid (∀V,Tb W V->(V.cell? ⟨g,3,none⟩=some (.bool true)/\V.cell? ⟨g,5,none⟩=some (.bool true)/\V.cell? ⟨g,2,none⟩=some (.slice p st.ws.length cap)/\V.cell? ⟨g,4,none⟩=some (.int .i64 m)/\Tb W V)):=fun V F=>by
     have J:=aa;exact ⟨(F.cell J).trans c3,(F.cell J).trans c5,(F.cell J).trans c2,(F.cell J).trans c4,F⟩
    have HC:Hid (∀V,Tb W V->Ta 169 #[.slice p m cap,.func (.func 170) #[] #[]] V fun r w'=>r=.returned (.bool ((st.ws.take m).any bj))/\Tb V w'):=fun V F=>by
     have ae:(st.ws.take m).length=m:=by rw [Ty];omega
     have:=G1 p (st.ws.take m) cap V ((vJ (I.below F).rd).take m) (by omega);rw [ae] at this;exact this
    have q5:(0:Int)<=(m:Int):=by omega
    have q6:(m:Int)<=(cap:Int):=by omega
    have H:Hid ((st.ws.take m).any bj=true->∀V,Tb W V->Mv S g W V (st.emp f)):=fun ha=>quiet (by unfold Sy.emp;rw [C];simp only;rw [IO (.inr (.inr ha))])
    have HI:Hid ((st.ws.take m).any bj=false->∀V,Tb W V->Ta 138 #[.slice p st.ws.length cap,.int .i64 m,.slice (some ⟨V.heap.size,0,none⟩) 1 1] (V.alloc (.cells #[.int .u8 5,.string ⟨#[]⟩,.int .i64 0,.int .i64 0,.bool false] 89)) fun r w'=>∃p' n' Z,r=.returned (.slice p' n' Z)/\(w'.cell? ⟨g,2,none⟩=some (.slice p st.ws.length cap)/\w'.frozen? ⟨g,2,none⟩=false)/\Mv S g W (w'.setCell ⟨g,2,none⟩ (.slice p' n' Z)) (st.emp f)):=fun ha V F=>by
     have e9:st.emp f={ st with ws:=st.ws.take m++dE :: st.ws.drop m }:=by
      unfold Sy.emp;rw [C];simp only;rw [Eq (by rintro (a|a|a);exact hf a;rw [U] at a;cases a;rw [ha] at a;cases a)]
     rw [e9];exact wC I Q s1 s2 hl dE (i:=m) O F
    generalize (st.ws.take m).any bj=bg at *
    generalize st.ws.length=n0 at *
    clear quiet h I s1 s2 c0 c1 c6 c7 hm C U Q hc2 c2 c3 c4 c5 hl O hc1
    go_enter Xg,WS
    go_wp2_with fail
    go_region_held3 (fun w'=>w'.cell? ⟨g,3,none⟩=some (.bool true)/\w'.cell? ⟨g,5,none⟩=some (.bool true)/\w'.cell? ⟨g,2,none⟩=some (.slice p n0 cap)/\w'.cell? ⟨g,4,none⟩=some (.int .i64 m)/\Below W.heap.size W w') (first|(exact HK.out _ (by assumption))|(exact HK.out _ (hH _ _).drew)|go_keep) (first|(go_at_call 169;refine (HC.out _ (by first|assumption|exact (hH _ _).drew)).mono ?_;rintro e Y ⟨rfl,M⟩;have G:=(by first|exact (hH W.heap.size W).drew.trans (M.mono (gt _))|exact (by assumption:Below W.heap.size W _).trans (M.mono (Vz (by assumption))):Below W.heap.size W Y);clear M))
    all_goals (
     have ab:Hid (Tb W Y):=G;cases bg with
     |true=>
      have ad:Hid (Mv S g W Y (st.emp f)):=H.out rfl _ G;clear H HI
      go_wp2_with fail
      refine Ti (v:=.tuple #[]) (by simp [results,Tryz.f131,go_sem]) rfl ?_;exact ⟨rfl,ad.out⟩
     |false=>
      obtain ⟨x1,x2,x3,x4,_⟩:=HK.out _ G;have ag:g<Y.heap.size:=Tn aa G.size;have af:Hid (Tb W Y.drew):=G.drew;have ac:Hid (∀V,Tb W V->Ta 138 #[.slice p n0 cap,.int .i64 m,.slice (some ⟨V.heap.size,0,none⟩) 1 1] (V.alloc (.cells #[.int .u8 5,.string ⟨#[]⟩,.int .i64 0,.int .i64 0,.bool false] 89)).drew fun r w'=>∃p' n' Z,r=.returned (.slice p' n' Z)/\(w'.cell? ⟨g,2,none⟩=some (.slice p n0 cap)/\w'.frozen? ⟨g,2,none⟩=false)/\Mv S g W (w'.setCell ⟨g,2,none⟩ (.slice p' n' Z)) (st.emp f)):=fun V F=>HI.out rfl V.drew F.drew
      clear G H HI
      go_wp2_with fail
      go_region_law (first|(go_simp;go_at_call 138;refine (ac.out Y ab.out).mono ?_;rintro r w3 ⟨p3,n3,c3,rfl,⟨y2,y3⟩,y4⟩;have HX:=ai y4;clear y4))
      all_goals (
       go_wp2_with fail
       go_end0
       exact ⟨rfl,HX.out⟩))
structure HW (S:World->Prop) where
 W:World
 h:S W
theorem et {P:Program}{S:World->Prop}{id:Nat}{Q:Exit->Act->World->Prop}{a:Act}{w:World}{l:List Oper}(I:P.follows .mixedOrders=true) (G:Region.lexB .any l.toArray=true) (H:S w.drew)
  (h:wpQuiet P l.toArray (fun w'=>∃x:HW S,w'=x.W) (fun F=>∀w',(∃x:HW S,w'=x.W)->Q .normal F w') l a):(Code.region id l.toArray true).wp P Q a w:=
 wp_region_quiet (C:=fun w'=>∃x:HW S,w'=x.W) I G ⟨⟨w.drew,H⟩,rfl⟩ (by simpa using h)
theorem Calls.quiet_in {P:Program}{S:World->Prop}{f:FuncId}{args:Array Value}(x:HW S) (h:Calls P f args x.W fun e w'=>e=.returned v/\Below x.W.heap.size x.W w') (F:∀W W',S W->Below W.heap.size W W'->S W') :
  Calls P f args x.W fun e C=>e=.returned v/\∃y:HW S,C=y.W:=
 h.mono fun e w' ⟨H,G⟩=>⟨H,⟨w',F _ _ x.h G⟩,rfl⟩
theorem cM {w:World}{p:Addr}(h:w.cell? p=some v) (C:Below w.heap.size w w'):w'.cell? p=some v:=(C.cell (S9 w p h)).trans h
def SG (V W:World):Prop:=Below V.heap.size V W
theorem SG.keep {W:World}(h:SG V W) (C:Below W.heap.size W W'):SG V W':=Below.trans h (C.mono (Vz h))
theorem Oh (n:Nd) (k:Int) (W:World):Ta 208 #[.agg #[.int .u8 n.k,.int .i64 n.b,.bool n.s],.int .u8 k] W fun e w'=>e=.returned (.bool (n.is k))/\Below W.heap.size W w':=by
 have G:Hid (∀o,Tb W (W.alloc o)):=fun o=>(hH _ _).alloc (gt _) _
 by_cases C:k=33
 ·subst C
  have F:Hid (n.is 33=(n.k == 5 && (n.b:Int) == 0)):=by
   show _=_
   unfold Nd.is;rw [IO rfl]
   by_cases a:n.k=5 <;> by_cases b:n.b=0 <;> simp [a,b]
  go_enter Tryz.func208,Tryz.ntmps208
  go_wp2_with fail
  all_goals (go_ret;rw [F.out];refine ⟨?_,G.out _⟩;simp_all)
 ·have q:(k == 33)=false:=by simpa using C
  have F:Hid (n.is k=(n.k == k)):=by
   show _=_
   unfold Nd.is;rw [Eq C]
   by_cases a:n.k=k <;> simp [a]
  clear C
  go_enter Tryz.func208,Tryz.ntmps208
  go_wp2_with fail
  go_ret
  rw [F.out];exact ⟨rfl,G.out _⟩
def Lk (w:World) (b:Nat) (l:List Int):Prop:=∀j d,l[j]?=some d->w.cell? ⟨b,j,none⟩=some (.int .u8 d)
theorem Lk.below {w:World}{b:Nat}{l:List Int}(h:Lk w b l) (F:Below w.heap.size w w'):Lk w' b l:=fun j d C=>(F.cell (S9 _ _ (h j d C))).trans (h j d C)
theorem KN (n:Nd) (b:Nat) (l:List Int) (cap:Nat) (W:World) (h:Lk W b l) (hl:l.length<=1000000000) :
  Ta 226 #[.slice (some ⟨b,0,none⟩) l.length cap,.func (.func 208) #[.agg #[.int .u8 n.k,.int .i64 n.b,.bool n.s]] #[]] W fun r w'=>(∃z:Int,r=.returned (.int .i64 z)/\(decide (0<=z)=l.any n.is))/\Below W.heap.size W w':=by
 have H:Hid (Lk W b l):=h;clear h;have U:Hid (∀(k:Int) (V:World),Ta 208 #[.agg #[.int .u8 n.k,.int .i64 n.b,.bool n.s],.int .u8 k] V fun e w'=>e=.returned (.bool (n.is k))/\Tb V w'):=Oh n
 go_enter Tryz.func226,Tryz.ntmps226
 go_wp2_with fail
 go_loopw [5,8] (fun _ i wr=>∃k:Nat,k<=l.length/\i=.int .i64 k/\Hid ((l.take k).any n.is=false)/\Hid (Below W.heap.size W wr)) (fun _ i _=>l.length-(intOf i).toNat)
 case atStart=>exact ⟨0,SW _,rfl,by show _=_;simp,hH _ _⟩
 case round=>
  obtain ⟨k,hk,rfl,S,F⟩:=hrel
  by_cases I:k<l.length
  ·have q1:(k:Int)<l.length:=by omega
   have q0:(0:Int)<=k:=by omega
   obtain ⟨x,O⟩:∃x,l[k]?=some x:=⟨_,Pi I⟩;have c0:=(H.out.below F.out) k x O;have Y:Hid ((l.take (k+1)).any n.is=n.is x):=lx n.is l k x O S.out;have Z:Hid ((l.take (k+1)).any n.is=true->l.any n.is=true):=lw n.is l _;clear O
   by_cases J:n.is x=true
   ·go_wp2_with (go_at_call 208;refine (U.out x _).mono ?_;rintro e Q ⟨rfl,C⟩;rw [J];have M:Hid (Tb W Q):=F.out.trans (C.mono F.out.size);clear C)
    go_ret
    exact ⟨⟨_,rfl,by rw [Z.out (Y.out.trans J)];simp⟩,M.out⟩
   ·have G:n.is x=false:=by simpa using J
    clear J
    go_wp2_with (go_at_call 208;refine (U.out x _).mono ?_;rintro e Q ⟨rfl,C⟩;rw [G];have M:Hid (Tb W Q):=F.out.trans (C.mono F.out.size);clear C)
    exact ⟨⟨k+1,I,by go_num,Y.out.trans G,M⟩,by simp [intOf];omega⟩
  ·obtain rfl:k=l.length:=by omega
   have q1:¬((l.length:Int)<l.length):=by omega
   go_wp2_with fail
   go_ret
   refine ⟨⟨_,rfl,?_⟩,F.out⟩;have:=S.out;rw [T4] at this;rw [this];rfl
theorem LD (n:Nd) (b:Nat) (l:List Int) (cap:Nat) (W:World) (h:Lk W b l) (G:l.length<=1000000000) :
  Ta 207 #[.slice (some ⟨b,0,none⟩) l.length cap,.func (.func 208) #[.agg #[.int .u8 n.k,.int .i64 n.b,.bool n.s]] #[]] W fun r w'=>r=.returned (.bool (l.any n.is))/\Below W.heap.size W w':=by
 have H:Hid (Ta 226 #[.slice (some ⟨b,0,none⟩) l.length cap,.func (.func 208) #[.agg #[.int .u8 n.k,.int .i64 n.b,.bool n.s]] #[]] W fun r w'=>(∃z:Int,r=.returned (.int .i64 z)/\(decide (0<=z)=l.any n.is))/\Tb W w'):=KN n b l cap W h G;clear h
 generalize l.any n.is=bb at *
 go_enter Tryz.func207,Tryz.ntmps207
 go_wp2_with (go_at_call 226;refine H.out.mono ?_;rintro r J ⟨⟨z,rfl,I⟩,C⟩;have F:Hid (Tb W J):=C;clear C;subst I)
 go_ret
 exact ⟨by simp,F.out⟩
theorem C6 (G n1 n2 H I J:Int) (t:ByteArray) (fa fb:Nat) (n:Nd) (tx:ByteArray) (W:World) :
  Ta 167 #[.agg #[.int .u8 G,.int .u8 n1,.int .u8 n2,.int .u8 H,.int .u8 I,.int .u8 J,.string t,.func (.func fa) #[] #[],.func (.func fb) #[] #[]],.agg #[.int .u8 n.k,.int .i64 n.b,.bool n.s],.string tx] W fun e w'=>e=.returned (.bool ((t.toList == [] || t.toList == tx.toList) && [G,n1,n2,H,I,J].any n.is))/\Below W.heap.size W w':=by
 obtain ⟨V,hV⟩:∃V,(W.alloc (.cells #[.int .u8 G,.int .u8 n1,.int .u8 n2,.int .u8 H,.int .u8 I,.int .u8 J,.string t,.func (.func fa) #[] #[],.func (.func fb) #[] #[]] 227)).alloc (.cells #[.int .u8 n.k,.int .i64 n.b,.bool n.s] 216)=V:=⟨_,rfl⟩;have hs:(W.alloc (.cells #[.int .u8 G,.int .u8 n1,.int .u8 n2,.int .u8 H,.int .u8 I,.int .u8 J,.string t,.func (.func fa) #[] #[],.func (.func fb) #[] #[]] 227)).heap.size=W.heap.size+1:=by show (W.heap.push _).size=_;simp
 have O:V.heap[W.heap.size]?=some (.cells #[.int .u8 G,.int .u8 n1,.int .u8 n2,.int .u8 H,.int .u8 I,.int .u8 J,.string t,.func (.func fa) #[] #[],.func (.func fb) #[] #[]] 227 (0,0)):=by rw [<-hV];exact aD (aq W _) _
 have hd:V.heap[W.heap.size+1]?=some (.cells #[.int .u8 n.k,.int .i64 n.b,.bool n.s] 216 (0,0)):=by rw [<-hV,<-hs];exact aq _ _
 have hB:Below W.heap.size W V:=by rw [<-hV];exact ((hH _ _).alloc (gt _) _).alloc (by omega) _
 have HV:Hid ((W.alloc (.cells #[.int .u8 G,.int .u8 n1,.int .u8 n2,.int .u8 H,.int .u8 I,.int .u8 J,.string t,.func (.func fa) #[] #[],.func (.func fb) #[] #[]] 227)).alloc (.cells #[.int .u8 n.k,.int .i64 n.b,.bool n.s] 216)=V):=hV
 have ae:Lk V W.heap.size [G,n1,n2,H,I,J]:=fun j d C=>by
  match j,C with
  |0,C=>cases C;exact af O rfl
  |1,C=>cases C;exact af O rfl
  |2,C=>cases C;exact af O rfl
  |3,C=>cases C;exact af O rfl
  |4,C=>cases C;exact af O rfl
  |5,C=>cases C;exact af O rfl
  |j+6,C=>simp at C
 have HC:Hid (∀X,Below V.heap.size V X->Ta 207 #[.slice (some ⟨W.heap.size,0,none⟩) 6 6,.func (.func 208) #[.agg #[.int .u8 n.k,.int .i64 n.b,.bool n.s]] #[]] X fun r w'=>r=.returned (.bool ([G,n1,n2,H,I,J].any n.is))/\Below X.heap.size X w'):=fun X M=>LD n W.heap.size [G,n1,n2,H,I,J] 6 X (ae.below M) (by simp)
 have HF:Hid (∀X,Below V.heap.size V X->Below W.heap.size W X):=fun X M=>hB.trans (M.mono hB.size)
 have m6:V.cell? ⟨W.heap.size,6,none⟩=some (.string t):=af O rfl;have m0:V.cell? ⟨W.heap.size+1,0,none⟩=some (.int .u8 n.k):=af hd rfl;have m1:V.cell? ⟨W.heap.size+1,1,none⟩=some (.int .i64 n.b):=af hd rfl;have m2:V.cell? ⟨W.heap.size+1,2,none⟩=some (.bool n.s):=af hd rfl;have HK:Hid (∀X,Below V.heap.size V X->(X.cell? ⟨W.heap.size,6,none⟩=some (.string t)/\X.cell? ⟨W.heap.size+1,0,none⟩=some (.int .u8 n.k)/\X.cell? ⟨W.heap.size+1,1,none⟩=some (.int .i64 n.b)/\X.cell? ⟨W.heap.size+1,2,none⟩=some (.bool n.s)/\Below V.heap.size V X)):=fun X M=>⟨(M.cell (au O)).trans m6,(M.cell (au hd)).trans m0,(M.cell (au hd)).trans m1,(M.cell (au hd)).trans m2,M⟩
 have HD:Hid (∀m,Below V.heap.size V (V.drewN m)):=fun m=>eD (hH _ _) m
 clear O hd hB ae hs hV
 generalize [G,n1,n2,H,I,J].any n.is=bb at *
 by_cases hq:(t.toList == [] || t.toList == tx.toList)=true
 ·rw [hq,T6]
  by_cases he:(t.toList == [])=true
  ·have p0:t.toList.isEmpty=true:=by simpa using he
   have aa:∀x:HW (SG V),x.W.cell? ⟨W.heap.size,6,none⟩=some (.string t):=fun x=>cM m6 x.h
   have U:∀x:HW (SG V),x.W.cell? ⟨W.heap.size+1,0,none⟩=some (.int .u8 n.k):=fun x=>cM m0 x.h
   have Y:∀x:HW (SG V),x.W.cell? ⟨W.heap.size+1,1,none⟩=some (.int .i64 n.b):=fun x=>cM m1 x.h
   have Z:∀x:HW (SG V),x.W.cell? ⟨W.heap.size+1,2,none⟩=some (.bool n.s):=fun x=>cM m2 x.h
   have ac:Nonempty (HW (SG V)):=⟨⟨V.drew,(hH _ _).drew⟩⟩;have ab:∀x:HW (SG V),∃y:HW (SG V),x.W=y.W:=fun x=>⟨x,rfl⟩
   have KT:Hid (∀x:HW (SG V),Ta 207 #[.slice (some ⟨W.heap.size,0,none⟩) 6 6,.func (.func 208) #[.agg #[.int .u8 n.k,.int .i64 n.b,.bool n.s]] #[]] x.W fun r w'=>r=.returned (.bool bb)/\Below x.W.heap.size x.W w'):=fun x=>HC.out x.W x.h
   clear m6 m0 m1 m2
   go_enter Tryz.func167,Tryz.ntmps167
   go_wp2_with fail
   rw [HV.out];refine et (S:=SG V) (by kernel_rfl) (by kernel_rfl) (hH _ _).drew ?_
   repeat (go_big_quiet_step ((go_at_call 207;exact Calls.quiet_in _ (KT.out _) (fun _ _=>SG.keep))))
   refine wpQuiet_nil ?_;rintro w5 ⟨⟨W5,F⟩,rfl⟩;have Q:Hid (Below V.heap.size V w5):=F;clear U Y Z aa F ac ab
   go_wp2_with fail
   go_ret
   exact ⟨rfl,HF.out _ Q.out⟩
  ·have ag:(t.toList == [])=false:=by simpa using he
   have p2:(t.toList == tx.toList)=true:=by rw [ag,WQ] at hq;exact hq
   clear he hq;have aa:∀x:HW (SG V),x.W.cell? ⟨W.heap.size,6,none⟩=some (.string t):=fun x=>cM m6 x.h
   have U:∀x:HW (SG V),x.W.cell? ⟨W.heap.size+1,0,none⟩=some (.int .u8 n.k):=fun x=>cM m0 x.h
   have Y:∀x:HW (SG V),x.W.cell? ⟨W.heap.size+1,1,none⟩=some (.int .i64 n.b):=fun x=>cM m1 x.h
   have Z:∀x:HW (SG V),x.W.cell? ⟨W.heap.size+1,2,none⟩=some (.bool n.s):=fun x=>cM m2 x.h
   have ac:Nonempty (HW (SG V)):=⟨⟨V.drew,(hH _ _).drew⟩⟩;have ab:∀x:HW (SG V),∃y:HW (SG V),x.W=y.W:=fun x=>⟨x,rfl⟩
   have KT:Hid (∀x:HW (SG V),Ta 207 #[.slice (some ⟨W.heap.size,0,none⟩) 6 6,.func (.func 208) #[.agg #[.int .u8 n.k,.int .i64 n.b,.bool n.s]] #[]] x.W fun r w'=>r=.returned (.bool bb)/\Below x.W.heap.size x.W w'):=fun x=>HC.out x.W x.h
   clear m6 m0 m1 m2
   go_enter Tryz.func167,Tryz.ntmps167
   go_wp2_with fail
   rw [HV.out];refine et (S:=SG V) (by kernel_rfl) (by kernel_rfl) (hH _ _).drew ?_
   repeat (go_big_quiet_step ((go_at_call 207;exact Calls.quiet_in _ (KT.out _) (fun _ _=>SG.keep))))
   refine wpQuiet_nil ?_;rintro w5 ⟨⟨W5,F⟩,rfl⟩;have Q:Hid (Below V.heap.size V w5):=F;clear U Y Z aa F ac ab
   go_wp2_with fail
   go_ret
   exact ⟨rfl,HF.out _ Q.out⟩
 ·have ad:(t.toList == [] || t.toList == tx.toList)=false:=by simpa using hq
  rw [ad,Vr];rw [U3] at ad;obtain ⟨p1,p2⟩:=ad;clear hq
  go_enter Tryz.func167,Tryz.ntmps167
  go_wp2_with fail
  rw [HV.out]
  go_quiet (fail)
  go_wp2_with fail
  go_ret
  exact ⟨rfl,HF.out _ (HD.out _)⟩
def Rw.cs (r:Rw):List Value:=r.ns.map (Value.int .u8)++[.string ⟨r.t.toArray⟩,.func (.func r.a.id) #[] #[],.func (.func r.b.id) #[] #[]]
def im:List Value:=tab.flatMap Rw.cs
theorem vh:im.length=360:=by decide +kernel
theorem Ej:∀v∈im,v.oneCell'=true:=by
 intro v C;obtain ⟨r,F,C⟩:=Ve.1 C;unfold Rw.cs at C
 rcases To.1 C with h|h
 ·obtain ⟨k,_,rfl⟩:=UV.1 h;rfl
 ·simp only [Tt,UT,Xi] at h
  rcases h with rfl|rfl|rfl <;> rfl
theorem xS {K:Act->World->Prop}{Q:Exit->Act->World->Prop}{w0 C:World}{N:Nat}{L:List Value}{f:Unit->World->Result Next}(F:L=im) (G:(storeCells ⟨N,0,none⟩ im).run Tryz.prog w0=.ok () C) (h:Oper.upon Tryz.prog o a K Q (f () C)):Oper.upon Tryz.prog o a K Q ((Sem.run Tryz.prog (storeCells ⟨N,0,none⟩ L) w0).andThen f):=by
 subst F;rw [G];exact h
theorem fS {P:Program}{G:Func}{C:Array Value}{w:World}{a:Nat}{t:TypeId}{ad:Addr}{v:Value}(h:G.results=#[.cell a t]) (H:C.getD a undef=.pointer (some ad)) (I:(loadVar t ad).run P w=.ok v w):(results G C).run P w=.ok v w:=by
 have F:C[a]?.getD undef=.pointer (some ad):=by rw [<-UN];exact H
 simp [results,h,F,asAddr,I]
set_option maxRecDepth 100000 in
theorem BS (W:World):Ta 166 #[] W fun e w'=>e=.returned (.agg im.toArray)/\Below W.heap.size W w':=by
 obtain ⟨C,F⟩:∃C,W.alloc (.cells Tryz.zeroCells256 256)=C:=⟨_,rfl⟩;have Q:(Tryz.zeroCells256).size=360:=by kernel_rfl
 have J:C.heap[W.heap.size]?=some (.cells Tryz.zeroCells256 256 (0,0)):=by rw [<-F];exact aq W _
 have I:Below W.heap.size W C:=by rw [<-F];exact (hH _ _).alloc (gt _) _
 have H:=WH Tryz.prog W.heap.size 0 256 im 0 Tryz.zeroCells256 C J (by rw [vh,Q];decide) Ej
 have S:(Tryz.zeroCells256).toList.take (0+0)++im++(Tryz.zeroCells256).toList.drop (0+0+im.length)=im:=by
  rw [vh,Ua (by rw [TQ,Q];decide)];simp
 rw [S] at H;obtain ⟨W1,G⟩:∃W1,C.setRow W.heap.size im.toArray=W1:=⟨_,rfl⟩;rw [G] at H;have O:W1.heap[W.heap.size]?=some (.cells im.toArray 256 (0,0)):=by rw [<-G];exact VT C _ _ _ _ _ J
 have M:Below W.heap.size W W1:=by rw [<-G];exact nY I (Kp.setRow C _ _) (fun k e=>by omega) I.size
 have U:(loadVar 256 ⟨W.heap.size,0,none⟩).run Tryz.prog W1=.ok (.agg im.toArray) W1:=Wu (P:=Tryz.prog) W1 W.heap.size 256 256 im.toArray (0,0) _ O Tryz.underlying256 (by first|rfl|kernel_rfl) (by first|rfl|kernel_rfl);have Z:Hid ((storeCells ⟨W.heap.size,0,none⟩ im).run Tryz.prog C=.ok () W1):=H;have HL:Hid ((loadVar 256 ⟨W.heap.size,0,none⟩).run Tryz.prog W1=.ok (.agg im.toArray) W1):=U;have Y:Hid (Tb W W1):=M;have HW:Hid (W.alloc (.cells Tryz.zeroCells256 256)=C):=F;clear F Q J I H S G O M U
 go_enter Tryz.func166,Tryz.ntmps166
 go_wp2_with fail
 rw [HW.out];refine xS (by kernel_rfl) Z.out ?_
 go_wp2_with fail
 refine Ti (v:=.agg im.toArray) (fS (a:=0) (t:=256) (ad:=⟨W.heap.size,0,none⟩) (by kernel_rfl) (by rfl) HL.out) rfl ?_;exact ⟨rfl,Y.out⟩
theorem SS.nd {S:Nat->Prop}{W:World}{g:Nat}{st:Sy}(h:SS S W g st) {b cap:Nat}{n m:Nd}{r:List Nd}(e:st.ns=n :: r) (hc:W.cell? ⟨g,1,none⟩=some (.slice (some ⟨b,0,none⟩) (r.length+1) cap)) (j:Nat) (u:Value) (H:j<3) (I:n.cs.set j u=m.cs) :
  W.frozen? ⟨b,r.length*3+j,none⟩=false/\Mv S g W (W.setCell ⟨b,r.length*3+j,none⟩ u) { st with ns:=m :: r }:=by
 obtain ⟨vn,vw,C,F,M⟩:=h.ex;have G:vn=.slice (some ⟨b,0,none⟩) (r.length+1) cap:=by have:=C.sb.cells.2.1;rw [hc] at this;exact (TE this).symm
 subst G;have J:Rn tN W (.slice (some ⟨b,0,none⟩) (r.length+1) cap) (n :: r):=by rw [<-e];exact C.rn
 refine ⟨VN J _,Mv.mk' (SV.nd e C j u H I) h.sg (fun k e=>.inl (F k e)) (fun k e=>.inl (M k e)) ((Kp.set _ _ _ _).sub (fun k e=>by rw [e];exact F b rfl)) C.sb.cells.2.1⟩
theorem SS.nodes {S:Nat->Prop}{W:World}(h:SS S W g st) {n:Nd}{r:List Nd}(e:st.ns=n :: r):∃b cap,W.cell? ⟨g,1,none⟩=some (.slice (some ⟨b,0,none⟩) (r.length+1) cap)/\W.cell? ⟨b,r.length*3,none⟩=some (.int .u8 n.k)/\W.cell? ⟨b,r.length*3+1,none⟩=some (.int .i64 n.b)/\W.cell? ⟨b,r.length*3+2,none⟩=some (.bool n.s)/\r.length+1<=cap:=by
 obtain ⟨vn,vw,F,G,H⟩:=h.ex;have C:=F.rn;rw [e] at C;obtain ⟨b,cap,rfl,hc1,hc2⟩:=nI C;obtain ⟨a0,a1,a2⟩:=kJ C;exact ⟨b,cap,F.sb.cells.2.1,a0,a1,a2,hc2⟩
theorem SS.cells2 {S:Nat->Prop}{W:World}{g b cap:Nat}{st:Sy}(h:SS S W g st) {n:Nd}{r:List Nd}(e:st.ns=n :: r) (hc:W.cell? ⟨g,1,none⟩=some (.slice (some ⟨b,0,none⟩) (r.length+1) cap)):W.cell? ⟨b,r.length*3,none⟩=some (.int .u8 n.k)/\W.cell? ⟨b,r.length*3+1,none⟩=some (.int .i64 n.b)/\W.cell? ⟨b,r.length*3+2,none⟩=some (.bool n.s):=by
 obtain ⟨I,cap',C,F,G,H,_⟩:=h.nodes e;rw [hc] at C;cases C;exact ⟨F,G,H⟩
theorem pB {S:Nat->Prop}{W:World}(h:SS S W g st) (U:Bz 999999980 st) {n:Nd}{r:List Nd}(e:st.ns=n :: r) {b cap:Nat}(hc:W.cell? ⟨g,1,none⟩=some (.slice (some ⟨b,0,none⟩) (r.length+1) cap)) :
  Ta 125 #[cd g,.pointer (some ⟨b,r.length*3,none⟩)] W fun Z w'=>Z=.returned (.tuple #[])/\Mv S g W w' st.exprIn:=by
 have J:st.ns≠[]:=by rw [e];simp
 obtain ⟨a0,a1,a2⟩:=h.cells2 e hc
 by_cases C:n.k=19
 ·have M:st.exprIn={ (st.aws [.S,.I 3]) with ns:=⟨n.k,n.b+1,true⟩ :: r }:=by unfold Sy.exprIn;rw [e];simp only;rw [IO C,IO C]
  have en:(st.aws [.S,.I 3]).ns=⟨n.k,n.b+1,n.s⟩ :: r:=by show iw (.I 3) (iw .S st.ns)=_;rw [e];rfl
  have HF:Hid (Ta 164 #[cd g] W fun Z w'=>Z=.returned (.tuple #[])/\Mv S g W w' (st.aws Fx.blankIn3.pz)):=mT h J (U.mono (by omega))
  have HX:Hid (∀w',Mv S g W w' (st.aws Fx.blankIn3.pz)->w'.frozen? ⟨b,r.length*3+2,none⟩=false/\w'.cell? ⟨b,r.length*3+2,none⟩=some (.bool n.s)/\Mv S g W (w'.setCell ⟨b,r.length*3+2,none⟩ (.bool true)) st.exprIn):=fun w' m=>by
   have H:=m.2.2.trans hc;obtain ⟨S1,t1,u1⟩:=Mv.seq m;obtain ⟨Q,I⟩:=SS.nd t1 (n:=⟨n.k,n.b+1,n.s⟩) (m:=⟨n.k,n.b+1,true⟩) en H 2 (.bool true) (by omega) rfl;refine ⟨Q,(t1.cells2 en H).2.2,?_⟩;rw [M];exact u1 _ _ I
  have q1:(n.k == 19)=true:=by simpa using C
  clear h U J M en C
  go_enter Xh,WT
  go_wp2_with (go_at_call 164;refine HF.out.mono ?_;rintro r1 w1 ⟨rfl,Y⟩;obtain ⟨Q,I,x3⟩:=HX.out _ Y;have O:=show Hid (Mv S g W (w1.setCell ⟨b,r.length*3+2,none⟩ (.bool true)) st.exprIn) from x3;clear x3 Y)
  go_end0
  exact ⟨rfl,O.out⟩
 ·have q1:(n.k == 19)=false:=by simpa using C
  by_cases F:n.k=31/\n.s=false
  ·have M:st.exprIn={ (st.aws [.B0]) with ns:=⟨n.k,n.b,true⟩ :: r }:=by unfold Sy.exprIn;rw [e];simp only;rw [Eq C,IO F,Eq C]
   have en:(st.aws [.B0]).ns=⟨n.k,n.b,n.s⟩ :: r:=by show iw .B0 st.ns=_;rw [e];rfl
   have HF:Hid (Ta 165 #[cd g,.agg #[.int .u8 3,.string ⟨#[]⟩,.int .i64 0,.int .i64 0,.bool false]] W fun Z w'=>Z=.returned (.tuple #[])/\Mv S g W w' (st.aw .B0)):=mJ h .B0 ⟨rfl,by decide⟩ (U.mono (by omega)) (.inr trivial)
   have HX:Hid (∀w',Mv S g W w' (st.aw .B0)->w'.frozen? ⟨b,r.length*3+2,none⟩=false/\w'.cell? ⟨b,r.length*3+2,none⟩=some (.bool n.s)/\Mv S g W (w'.setCell ⟨b,r.length*3+2,none⟩ (.bool true)) st.exprIn):=fun w' m=>by
    have H:=m.2.2.trans hc;obtain ⟨S1,t1,u1⟩:=Mv.seq m;obtain ⟨Q,I⟩:=SS.nd t1 (n:=⟨n.k,n.b,n.s⟩) (m:=⟨n.k,n.b,true⟩) en H 2 (.bool true) (by omega) rfl;refine ⟨Q,(t1.cells2 en H).2.2,?_⟩;rw [M];exact u1 _ _ I
   have q2:(n.k == 31)=true:=by simpa using F.1
   rw [F.2] at a2;clear h U J M en C F
   go_enter Xh,WT
   go_wp2_with (go_at_call 165;refine HF.out.mono ?_;rintro r1 w1 ⟨rfl,Y⟩;obtain ⟨Q,I,x3⟩:=HX.out _ Y;have O:=show Hid (Mv S g W (w1.setCell ⟨b,r.length*3+2,none⟩ (.bool true)) st.exprIn) from x3;clear x3 Y)
   go_end0
   exact ⟨rfl,O.out⟩
  ·have M:st.exprIn={ st with ns:=⟨n.k,n.b,true⟩ :: r }:=by unfold Sy.exprIn;rw [e];simp only;rw [Eq C,Eq F,Eq C]
   obtain ⟨Q,I⟩:=SS.nd h (n:=n) (m:=⟨n.k,n.b,true⟩) e hc 2 (.bool true) (by omega) rfl;rw [<-M] at I;have O:=show Hid (Mv S g W (W.setCell ⟨b,r.length*3+2,none⟩ (.bool true)) st.exprIn) from I
   clear I M h U J
   by_cases G:n.k=31
   ·have q2:(n.k == 31)=true:=by simpa using G
    have hs:n.s=true:=by cases hq:n.s with|true=>rfl|false=>exact absurd ⟨G,hq⟩ F
    rw [hs] at a2;clear F G C hs
    go_enter Xh,WT
    go_wp2_with fail
    go_end0
    exact ⟨rfl,O.out⟩
   ·have q2:(n.k == 31)=false:=by simpa using G
    clear F G C
    go_enter Xh,WT
    go_wp2_with fail
    go_end0
    exact ⟨rfl,O.out⟩
def Mw (S:Nat->Prop) (g:Nat) (W W':World) (st:Sy):Prop:=(∃S',SS S' W' g st/\∀k,S' k->S k\/W.heap.size<=k)/\Kp S W W'
theorem Mv.w {S:Nat->Prop}{W:World}(h:Mv S g W W' st):Mw S g W W' st:=⟨h.1,h.2.1⟩
theorem Mw.mk' {S:Nat->Prop}{W W':World}{g:Nat}{st:Sy}{vn vw:Value}(C:SV W' g st vn vw) (I:S g) (F:∀k,vn.ownBlock=some k->S k\/W.heap.size<=k) (G:∀k,vw.ownBlock=some k->S k\/W.heap.size<=k) (H:Kp S W W'):Mw S g W W' st:=
 ⟨⟨fun k=>(S k\/W.heap.size<=k)/\k<W'.heap.size,⟨⟨vn,vw,C,fun k e=>⟨F k e,ip C.rn k e⟩,fun k e=>⟨G k e,ip C.rd k e⟩⟩,⟨.inl I,C.sb.lt⟩,fun _ h=>h.2⟩,fun _ h=>h.1⟩,H⟩
theorem Mw.seq {S:Nat->Prop}{W:World}(h:Mw S g W W1 st):∃F,SS F W1 g st/\∀G C,Mw F g W1 G C->Mw S g W G C:=by
 obtain ⟨⟨F,O,J⟩,I⟩:=h;refine ⟨F,O,?_⟩;rintro G C ⟨⟨S2,t1,t2⟩,hk2⟩;refine ⟨⟨S2,t1,fun k H=>?_⟩,I.step hk2 (fun k Q M=>?_)⟩
 ·rcases t2 k H with a|a
  ·exact J k a
  ·exact .inr (SY I.size a)
 ·rcases J k M with a|a
  ·exact a
  ·omega
theorem Tryz.info216:(Tryz.prog.info? 216).map (fun i=>(i.zero,i.size,i.bytes))=some (some (.agg #[.int .u8 0,.int .i64 0,.bool false]),3,24):=by kernel_rfl
theorem QI {W:World}{F:Array Oper}{rest:List Oper}{Q:Exit->Act->World->Prop}(G:o.guard=none) (s x:Operand)
  (Z:o.op=.call { callee:=.builtin .append,args:=#[s,x],argTypes:=#[154,154] }) (v:Value) (l:List Nd) (d:Nd) (hs:a.eval s=v) (hr:Rn tN W v l)
  (g c:Nat) (hx:a.eval x=.slice (some ⟨g,0,none⟩) 1 c) (U:W.heap[g]?=some (.cells #[.int .u8 d.k,.int .i64 d.b,.bool d.s] 216 (0,0))) (hl:l.length<=1000000000)
  (h:∀v' w',Rn tN w' v' (d :: l)->W.grownBy w' v.ownBlock->Nb W v v'->wpList Tryz.prog F Q rest (a.put o.dst v') w'):wpList Tryz.prog F Q (o :: rest) a W:=by
 obtain ⟨i0,Y,H,I,J⟩:=T7 Tryz.info216;refine T2 (P:=Tryz.prog) (w:=W) G s x 154 Z 0 216 i0 _ 3 24 Tryz.underlying154 Y H I J rfl (by decide) v _ _ hs hr ⟨g,0,none⟩ 1 c (uR [d]) hx (by rw [nT];rfl) ?_ (Kx [d]) (by unfold maxLen;omega) (by omega) (SW _) ?_
 ·intro j u M;refine TX U j u ?_;have e:uR [d]=[.int .u8 d.k,.int .i64 d.b,.bool d.s]:=by simp [uR,bB,Nd.cs]
  rw [e] at M
  simpa using M
 ·intro v' w' O S _ C;refine h v' w' ?_ S ?_
  ·unfold Rn;rw [UJ,nW,List.length_cons];exact O
  ·rcases C with C|C
   ·exact .inl C
   ·exact .inr ⟨_,C,gt _⟩
theorem SV.push {S:Nat->Prop}{W I:World}{vn vw v':Value}{d:Nd}(h:SV W g st vn vw) (hs:S g) (Z:∀k,vn.ownBlock=some k->S k) (h2:∀k,vw.ownBlock=some k->S k) (J:Below W.heap.size W W1) (hg:W1.grownBy I vn.ownBlock) (hr:Rn tN I v' (d :: st.ns)) (O:Nb W1 vn v') :
  (I.cell? ⟨g,1,none⟩=some vn/\I.frozen? ⟨g,1,none⟩=false)/\Mw S g W (I.setCell ⟨g,1,none⟩ v') { st with ns:=d :: st.ns }:=by
 have C:=h.below J;have M:=(Kp.of_grown hg).sub (S:=fun k=>vn.ownBlock=some k) (fun k e=>e.symm);have Q:¬vn.ownBlock=some g:=aN C.rn C.sb (by decide);have H:=C.sb.kp M Q;have Y:=M.row C.rd (fun k F G=>kI C.rd C.rn (by decide) k F G);refine ⟨⟨af H rfl,H.frozen 1⟩,Mw.mk' (vn:=v') (vw:=vw) ⟨aj H 1 _,(Kp.set _ _ _ _).row hr (fun k F G=>aN hr H (by decide) (by rw [F,G])),(Kp.set _ _ _ _).row Y (fun k F G=>aN Y H (by decide) (by rw [F,G]))⟩ hs (fun k e=>?_) (fun k e=>.inl (h2 k e)) (((Kp.of_below J).step M (fun k _ e=>Z k e)).step (Kp.set _ _ _ _) (fun k _ e=>by rw [e];exact hs))⟩
 rcases O with O|⟨q,hq,U⟩
 ·exact .inl (Z k (by rw [<-O];exact e))
 ·rw [hq] at e;cases e;exact .inr (SY J.size U)
theorem SS.mark {S:Nat->Prop}{W:World}(h:SS S W g st) (n:Nat) :
  Mv S g W ((W.setCell ⟨g,3,none⟩ (.bool true)).setCell ⟨g,4,none⟩ (.int .i64 n)) { st with mr:=some n }:=by
 obtain ⟨vn,vw,C,I,J⟩:=h.ex;have H:Kp (fun k=>k=g) W ((W.setCell ⟨g,3,none⟩ (.bool true)).setCell ⟨g,4,none⟩ (.int .i64 n)):=(Kp.set W g 3 _).trans (Kp.set _ g 4 _);exact Mv.mk' ⟨aj (aj C.sb 3 _) 4 _,H.row C.rn (fun k F G=>aN C.rn C.sb (by decide) (by rw [F,G])),H.row C.rd (fun k F G=>aN C.rd C.sb (by decide) (by rw [F,G]))⟩ h.sg (fun k e=>.inl (I k e)) (fun k e=>.inl (J k e)) (H.sub (fun k e=>by rw [e];exact h.sg)) C.sb.cells.2.1
theorem Mv.after {S:Nat->Prop}{W:World}{st':Sy}(h:SS S W g st) (C:Below W.heap.size W V) (m:Mv S g V W' st'):Mv S g W W' st':=by
 obtain ⟨⟨G,H,I⟩,M,J⟩:=m;exact ⟨⟨G,H,fun k F=>(I k F).imp id (fun e=>SY C.size e)⟩,(Kp.of_below C).step M (fun _ _ h=>h),J.trans (C.cell (h.lt g h.sg))⟩
theorem Bz.exprIn (h:Bz n st):Bz (n+2) st.exprIn:=by
 obtain ⟨M,H,F⟩:=h;unfold Sy.exprIn
 split
 ·exact ⟨by omega,by omega,fun x G=>by have:=F x G;omega⟩
 ·rename_i m r e
  rw [e] at H F;have O:=F m S4;refine ⟨?_,?_,?_⟩
  ·show (if m.k=19 then st.aws [.S,.I 3] else if m.k=31/\m.s=false then st.aws [.B0] else st).ws.length<=n+2
   split
   ·have I:=gN .S st.ns;have J:=gN (.I 3) (iw .S st.ns);show (st.ws++jN .S st.ns++jN (.I 3) (iw .S st.ns)).length<=_;rw [Or,Or];omega
   ·split
    ·have I:=gN .B0 st.ns;show (st.ws++jN .B0 st.ns).length<=_;rw [Or];omega
    ·omega
  ·show ((⟨m.k,_,true⟩:Nd) :: r).length<=n+2
   simp at H ⊢;omega
  ·intro x G;have C:x∈(⟨m.k,(if m.k=19 then m.b+1 else m.b),true⟩:Nd) :: r:=G
   rcases Tt.1 C with rfl|C
   ·show (if m.k=19 then m.b+1 else m.b)<=n+2
    split <;> omega
   ·have:=F x (SZ _ C);omega
theorem Bz.mark (h:Bz n st) (k:Int):Bz n (st.mark k):=by unfold Sy.mark;split;exact h;exact h
theorem Fz {S:Nat->Prop}{W:World}(h:SS S W g st) (hz:Bz 900000000 st) (k:Int) :
  Ta 80 #[cd g,.int .u8 k] W fun H w'=>H=.returned (.tuple #[])/\Mw S g W w' (st.opens k):=by
 obtain ⟨F,ab⟩:∃F,(if k=21 then st.exprIn else st)=F:=⟨_,rfl⟩;have af:Bz 900000002 F:=by rw [<-ab];split;exact hz.exprIn;exact hz.mono (by omega)
 obtain ⟨C,ad⟩:∃C,F.mark k=C:=⟨_,rfl⟩;have aj:Bz 900000002 C:=by rw [<-ad];exact af.mark k
 have e9:st.opens k=Sy.aws { C with ns:=⟨k,0,false⟩ :: C.ns } (qL k):=by unfold Sy.opens;simp only;rw [ab,ad]
 rw [e9]
 have ag:∃p n c,W.cell? ⟨g,1,none⟩=some (.slice p n c)/\n=st.ns.length:=by
  obtain ⟨vn,vw,M,_⟩:=h.ex;obtain ⟨p,c,e,_⟩:=aK M.rn;exact ⟨p,_,c,by rw [<-e];exact M.sb.cells.2.1,rfl⟩
 obtain ⟨pp,nn,cc,ac,I⟩:=ag
 have HA:Hid (∀n r,st.ns=n :: r->k=21->∃b cap,pp=some ⟨b,0,none⟩/\cc=cap/\nn=r.length+1/\Ta 122 #[cd g] W (fun H w'=>H=.returned (.pointer (some ⟨b,r.length*3,none⟩))/\Tb W w')/\∀V,Tb W V->Ta 125 #[cd g,.pointer (some ⟨b,r.length*3,none⟩)] V fun H w'=>H=.returned (.tuple #[])/\Mv S g W w' F):=fun n r e hk=>by
  obtain ⟨b,cap,a1,_⟩:=h.nodes e;rw [ac] at a1;cases a1;refine ⟨b,cc,rfl,rfl,rfl,gh ac (by have:=hz.2.1;rw [e] at this;simp at this;omega),fun V hb=>?_⟩;refine (pB (h.below hb) (hz.mono (by omega)) e ((hb.cell (h.lt g h.sg)).trans ac)).mono ?_;rintro H w' ⟨rfl,m⟩;refine ⟨rfl,?_⟩;rw [<-ab,IO hk];exact m.after h hb
 have HQ:Hid (¬(k=21/\st.ns≠[])->Mv S g W W F):=fun hn=>by
  rw [<-ab]
  by_cases hk:k=21
  ·rw [IO hk];have:st.ns=[]:=TF fun al=>hn ⟨hk,al⟩
   have e8:st.exprIn=st:=by unfold Sy.exprIn;rw [this]
   rw [e8];exact Mv.refl h
  ·rw [Eq hk];exact Mv.refl h
 have HH:Hid (∀V,Ta 126 #[.int .u8 k] V fun e w'=>e=.returned (.bool (fA k))/\w'=V):=CX k;have HZ:Hid (Bz 900000002 F/\Bz 900000002 C/\F.mark k=C):=⟨af,aj,ad⟩;have hl:(∃n r,st.ns=n :: r)\/st.ns=[]:=by cases st.ns with|nil=>exact .inr rfl|cons n r=>exact .inl ⟨n,r,rfl⟩
 clear h hz ab af ad aj e9
 go_enter Tryz.func80,Tryz.ntmps80
 obtain ⟨b1,G⟩:∃b1:Bool,decide (k=21/\st.ns≠[])=b1:=⟨_,rfl⟩
 go_upto_region 0 with fail
 go_cut [13] from 4 to 13 (fun t wx=>t=.bool b1/\wx=W)
 case first=>
  have HX:Hid (decide (k=21/\st.ns≠[])=b1):=G;clear G
  rcases hl with ⟨n,r,e⟩|e
  ·have q1:(0:Int)<(nn:Int):=by rw [I,e];simp
   by_cases hk:k=21
   ·have HY:Hid (true=b1):=by rw [<-HX.out,Tf ⟨hk,by rw [e];simp⟩];exact rfl
    subst hk;clear HX I e
    go_wp2_with fail
    go_meet
    exact ⟨by rw [HY.out],rfl⟩
   ·have HY:Hid (false=b1):=by rw [<-HX.out,Tg (fun h=>hk h.1)];exact rfl
    have q2:(k == 21)=false:=by simpa using hk
    clear HX I e hk
    go_wp2_with fail
    go_meet
    exact ⟨by rw [HY.out],rfl⟩
  ·have HY:Hid (false=b1):=by rw [<-HX.out,Tg (fun h=>h.2 e)];exact rfl
   obtain rfl:nn=0:=by rw [I,e];rfl
   clear HX I e
   go_wp2_with fail
   go_meet
   exact ⟨by rw [HY.out],rfl⟩
 case rest=>
 obtain ⟨rfl,Y⟩:=hcut;replace Y:=Y.symm;subst Y
 go_upto_if 13 with fail
 go_cut [] from 14 to 17 (fun wx=>Hid (Mv S g W wx F))
 case first=>
  cases b1 with
  |true=>
   have hd:=TI G
   rcases hl with ⟨n,r,e⟩|e
   ·obtain ⟨b,cap,rfl,rfl,rfl,a4,a5⟩:=HA.out n r e hd.1;have HI:=show Hid (Ta 122 #[cd g] W (fun H w'=>H=.returned (.pointer (some ⟨b,r.length*3,none⟩))/\Below W.heap.size W w')) from a4
    have HO:=show Hid (∀V,Below W.heap.size W V->Ta 125 #[cd g,.pointer (some ⟨b,r.length*3,none⟩)] V fun H w'=>H=.returned (.tuple #[])/\Mv S g W w' F) from a5
    clear a4 a5 HA HQ I e G hd
    go_wp2_with (first|(go_at_call 122;refine HI.out.mono ?_;rintro r1 J ⟨rfl,G⟩;have HB:=show Hid (Below W.heap.size W J) from G;clear G)|(go_at_call 125;refine (HO.out _ HB.out).mono ?_;rintro r2 w2 ⟨rfl,m2⟩;have Z:=show Hid (Mv S g W w2 F) from m2;clear m2))
    go_meet
    exact Z
   ·exact absurd e hd.2
  |false=>
   have Z:Hid (Mv S g W W F):=HQ.out (VK G);clear HA HQ I G hl
   go_wp2_with fail
   go_meet
   exact Z
 case rest=>
  obtain ⟨S1,t1,u1⟩:=Mw.seq hcut.out.w;obtain ⟨J,hw1⟩:∃J,J=wc:=⟨wc,rfl⟩;subst hw1;have ah:=show Hid (SS S1 J g F/\∀W2 ak,Mw S1 g J W2 ak->Mw S g W W2 ak) from ⟨t1,u1⟩
  obtain ⟨vn,vw,M,v1,v2⟩:=t1.ex;obtain ⟨c0,c1,c2,c3,c4,c5,c6,c7⟩:=M.sb.cells;have f3:=M.sb.frozen 3;have f4:=M.sb.frozen 4;obtain ⟨pw,cw,evw,_⟩:=bG M.rd;subst evw
  have O:Hid (fA k=true/\F.mr=none->Mv S1 g J ((J.setCell ⟨g,3,none⟩ (.bool true)).setCell ⟨g,4,none⟩ (.int .i64 F.ws.length)) C):=fun hd=>by
   have:=t1.mark F.ws.length;have e8:C={ F with mr:=some F.ws.length }:=by rw [<-HZ.out.2.2];unfold Sy.mark;rw [IO hd]
   rw [e8];exact this
  have Q:Hid (¬(fA k=true/\F.mr=none)->Mv S1 g J J C):=fun hd=>by
   have e8:C=F:=by rw [<-HZ.out.2.2];unfold Sy.mark;rw [Eq hd]
   rw [e8];exact Mv.refl t1
  clear t1 u1 hcut HA HQ G hl I ac v1 v2 M c0 c1 c5 c6 c7;obtain ⟨b2,U⟩:∃b2:Bool,decide (fA k=true/\F.mr=none)=b2:=⟨_,rfl⟩
  go_upto_region 2 with fail
  go_cut [26] from 18 to 26 (fun t wx=>t=.bool b2/\wx=J)
  case first=>
   have HX:Hid (decide (fA k=true/\F.mr=none)=b2):=U;clear U;cases hh:fA k with
   |false=>
    have HY:Hid (false=b2):=by rw [<-HX.out,Tg (fun h=>by rw [hh] at h;cases h.1)];exact rfl
    rw [hh] at HH;clear HX O Q hh
    go_wp2_with (go_at_call 126;refine (HH.out _).mono ?_;rintro r1 w2 ⟨rfl,rfl⟩)
    go_meet
    exact ⟨by rw [HY.out],rfl⟩
   |true=>
    rw [hh] at HH;cases hm:F.mr with
    |none=>
     have HY:Hid (true=b2):=by rw [<-HX.out,Tf ⟨hh,hm⟩];exact rfl
     rw [hm] at c3;clear HX O Q hh hm
     go_wp2_with (go_at_call 126;refine (HH.out _).mono ?_;rintro r1 w2 ⟨rfl,rfl⟩)
     go_meet
     exact ⟨by rw [HY.out],rfl⟩
    |some q=>
     have HY:Hid (false=b2):=by rw [<-HX.out,Tg (fun h=>by rw [hm] at h;cases h.2)];exact rfl
     rw [hm] at c3;clear HX O Q hh hm
     go_wp2_with (go_at_call 126;refine (HH.out _).mono ?_;rintro r1 w2 ⟨rfl,rfl⟩)
     go_meet
     exact ⟨by rw [HY.out],rfl⟩
  case rest=>
  obtain ⟨rfl,Y⟩:=hcut;replace Y:=Y.symm;subst Y
  go_upto_if 26 with fail
  go_cut [] from 27 to 37 (fun wx=>Hid (Mv S1 g J wx C))
  case first=>
   cases b2 with
   |true=>
    have Z:=show Hid (Mv S1 g J ((J.setCell ⟨g,3,none⟩ (.bool true)).setCell ⟨g,4,none⟩ (.int .i64 F.ws.length)) C) from O.out (TI U)
    clear O Q U
    go_wp2_with fail
    go_meet
    exact Z
   |false=>
    have Z:=show Hid (Mv S1 g J J C) from Q.out (VK U)
    clear O Q U
    go_wp2_with fail
    go_meet
    exact Z
  case rest=>
   obtain ⟨S2,t2,u2⟩:=Mw.seq hcut.out.w;obtain ⟨w2,hw2⟩:∃w2,w2=wc:=⟨wc,rfl⟩;subst hw2;obtain ⟨vn,vw,M,v1,v2⟩:=t2.ex;obtain ⟨c0,c1,c2,c3,c4,c5,c6,c7⟩:=M.sb.cells;have am:=M.sb.lt;obtain ⟨pn,cn,evn,_⟩:=aK M.rn;subst evn;have an:=HZ.out.2.1.2.1;have HR:Hid (Rn tN (w2.alloc (.cells #[.int .u8 k,.int .i64 0,.bool false] 216)) (.slice pn C.ns.length cn) C.ns):=bv M.rn ((hH _ _).alloc (gt _) _)
   have HP:Hid (∀v' w3,Rn tN w3 v' (⟨k,0,false⟩ :: C.ns)->(w2.alloc (.cells #[.int .u8 k,.int .i64 0,.bool false] 216)).grownBy w3 (Value.slice pn C.ns.length cn).ownBlock->Nb (w2.alloc (.cells #[.int .u8 k,.int .i64 0,.bool false] 216)) (.slice pn C.ns.length cn) v'->(w3.cell? ⟨g,1,none⟩=some (.slice pn C.ns.length cn)/\w3.frozen? ⟨g,1,none⟩=false)/\Mw S g W (w3.setCell ⟨g,1,none⟩ v') { C with ns:=⟨k,0,false⟩ :: C.ns }):=fun v' w3 a1 a2 a3=>by
    obtain ⟨b1,b2⟩:=M.push t2.sg v1 v2 ((hH _ _).alloc (gt _) _) a2 a1 a3;exact ⟨b1,ah.out.2 _ _ (u2 _ _ b2)⟩
   have HB:Hid (∀V,Mw S g W V { C with ns:=⟨k,0,false⟩ :: C.ns }->∀(i:Int) (p:Pz),p.d=dI i false/\p.n=1->Ta 127 #[cd g,.int .i64 i,.bool false] V fun H w'=>H=.returned (.tuple #[])/\Mw S g W w' (Sy.aw { C with ns:=⟨k,0,false⟩ :: C.ns } p)):=fun V hV i p hp=>by
    obtain ⟨S3,t3,u3⟩:=Mw.seq hV;have z:=HZ.out.2.1
    refine (fg t3 p hp (by simp) (by have:=z.1;show C.ws.length<=_;omega) (by have:=z.2.1;show ((⟨k,0,false⟩:Nd) :: C.ns).length<=_;simp;omega) (fun n hn=>by
     rcases Tt.1 hn with rfl|hn
     ·simp
     ·have:=z.2.2 n hn;omega)).mono ?_
    rintro H w' ⟨rfl,m⟩;exact ⟨rfl,u3 _ _ m.w⟩
   clear t2 u2 hcut O Q U M v1 v2 c0 c2 c3 c4 c5 c6 c7 f3 f4 ah HZ HH
   go_upto_region 5 with (at_builtin;refine QI rfl _ _ rfl (.slice pn C.ns.length cn) C.ns ⟨k,0,false⟩ rfl HR.out w2.heap.size 1 rfl (aq w2 _) (by omega) ?_;intro v' w3 a1 a2 a3;obtain ⟨p3,c3,ev,_⟩:=aK a1;obtain ⟨⟨x1,x2⟩,x3⟩:=HP.out v' w3 a1 a2 a3;subst ev;have Z:=show Hid (Mw S g W (w3.setCell ⟨g,1,none⟩ (.slice p3 (C.ns.length+1) c3)) { C with ns:=⟨k,0,false⟩ :: C.ns }) from x3;clear x3 a1 a2 a3)
   clear HR HP
   by_cases k1:k=21\/k=22\/k=23\/k=24
   ·have aa:Hid (qL k=[.I 0]):=by show _=_;unfold qL;rw [IO k1]
    have ae:=show Hid (Ta 127 #[cd g,.int .i64 0,.bool false] (w3.setCell ⟨g,1,none⟩ (.slice p3 (C.ns.length+1) c3)) fun H w'=>H=.returned (.tuple #[])/\Mw S g W w' (Sy.aw { C with ns:=⟨k,0,false⟩ :: C.ns } (.I 0))) from HB.out _ Z.out 0 (.I 0) ⟨rfl,rfl⟩
    clear HB Z
    rcases k1 with rfl|rfl|rfl|rfl
    all_goals (
     go_wp2_with (go_at_call 127;refine ae.out.mono ?_;rintro r4 w4 ⟨rfl,m4⟩;have HE:=ai m4;clear m4)
     go_end0
     exact ⟨rfl,by rw [aa.out];exact HE.out⟩)
   ·by_cases k2:k=14\/k=7\/k=11
    ·have aa:Hid (qL k=[.I 2]):=by show _=_;unfold qL;rw [Eq k1,IO k2]
     have ae:=show Hid (Ta 127 #[cd g,.int .i64 2,.bool false] (w3.setCell ⟨g,1,none⟩ (.slice p3 (C.ns.length+1) c3)) fun H w'=>H=.returned (.tuple #[])/\Mw S g W w' (Sy.aw { C with ns:=⟨k,0,false⟩ :: C.ns } (.I 2))) from HB.out _ Z.out 2 (.I 2) ⟨rfl,rfl⟩
     clear HB Z k1
     rcases k2 with rfl|rfl|rfl
     all_goals (
      go_wp2_with (go_at_call 127;refine ae.out.mono ?_;rintro r4 w4 ⟨rfl,m4⟩;have HE:=ai m4;clear m4)
      go_end0
      exact ⟨rfl,by rw [aa.out];exact HE.out⟩)
    ·have aa:Hid (qL k=[]):=by show _=_;unfold qL;rw [Eq k1,Eq k2]
     simp only [not_or] at k1 k2;have q1:(k == 21)=false:=by simpa using k1.1
     have q2:(k == 22)=false:=by simpa using k1.2.1
     have q3:(k == 23)=false:=by simpa using k1.2.2.1
     have q4:(k == 24)=false:=by simpa using k1.2.2.2
     have q5:(k == 14)=false:=by simpa using k2.1
     have q6:(k == 7)=false:=by simpa using k2.2.1
     have q7:(k == 11)=false:=by simpa using k2.2.2
     clear HB k1 k2
     go_wp2_with fail
     go_end0
     exact ⟨rfl,by rw [aa.out];exact Z.out⟩
end Go.Proofs.YtcjiapphbpiffaaGreatDoor
