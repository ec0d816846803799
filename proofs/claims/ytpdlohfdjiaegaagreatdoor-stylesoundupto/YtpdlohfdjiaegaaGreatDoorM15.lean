import Derived.Deep.RegionHeld3
import Derived.Test.YtpdlohfdjiaegaaGreatDoorM14
set_option linter.unusedVariables false
set_option linter.unusedSimpArgs false
namespace Go.Proofs.YtpdlohfdjiaegaaGreatDoor.Lw
open Go.Proofs.YtpdlohfdjiaegaaGreatDoor.Lx
open Go.RowKit
theorem edg_int (c:UInt8):edg c=((c.toNat:Int) == 32 || (c.toNat:Int) == 10):=by
 revert c;exact all8 (by decide +kernel)
set_option maxHeartbeats 1000000 in
theorem rr_text (t:ByteArray) (b i:Int) (e:Bool) (ht:t.size≤9223372036854775807) (w:World):Calls Tryz.prog 27 #[.agg #[.int .u8 1,.string t,.int .i64 b,.int .i64 i,.bool e]] w fun x w'=>x=.returned (.bool (rtT t && (b == 0 && (i == 0 && !e))))∧Below w.heap.size w w':=by
 obtain ⟨r,hr⟩:∃r,rtT t=r:=⟨_,rfl⟩
 have HR:Hid (rtT t=r):=hr
 rw [hr]
 clear hr
 by_cases h0:t.size=0
 ·have q0:(t.size:Int)<1:=by omega
  have HF:Hid (r=false):=by show _=_;rw [←HR.out];simp [rtT,h0]
  go_enter Tryz.func27,Tryz.ntmps27
  go_wp2_with fail
  go_ret
  rw [HF.out]
  refine ⟨rfl,?_⟩
  repeat (first|exact Below.refl _ _|refine Below.setCell ?_ (by simp) _|refine Below.alloc ?_ (by simp) _)
 ·have q0:¬(t.size:Int)<1:=by omega
  by_cases h1:65535<t.size
  ·have q1:(65535:Int)<t.size:=by omega
   have HF:Hid (r=false):=by show _=_;rw [←HR.out];simp [rtT];omega
   go_enter Tryz.func27,Tryz.ntmps27
   go_wp2_with fail
   go_ret
   rw [HF.out]
   refine ⟨rfl,?_⟩
   repeat (first|exact Below.refl _ _|refine Below.setCell ?_ (by simp) _|refine Below.alloc ?_ (by simp) _)
  ·have q1:¬(65535:Int)<t.size:=by omega
   have hlt:0<t.size:=by omega
   have hlt2:t.size-1<t.size:=by omega
   obtain ⟨c0,hc0⟩:∃c,t[0]=c:=⟨_,rfl⟩
   obtain ⟨c1,hc1⟩:∃c,t[t.size-1]=c:=⟨_,rfl⟩
   have HE:Hid (r=(!((c0.toNat:Int) == 32 || (c0.toNat:Int) == 10) && !((c1.toNat:Int) == 32 || (c1.toNat:Int) == 10))):=by
    show _=_
    rw [←HR.out,←edg_int,←edg_int]
    unfold rtT
    have a0:(lsb t).getD 0 0=t[0]:=(Lib.getD_at t 0 hlt).symm
    have a1:(lsb t).getD (t.size-1) 0=t[t.size-1]:=(Lib.getD_at t (t.size-1) hlt2).symm
    rw [a0,a1,hc0,hc1]
    simp [show 1≤t.size by omega,show t.size≤65535 by omega]
   clear HR
   go_enter Tryz.func27,Tryz.ntmps27
   go_wp2_with fail
   all_goals (go_ret;(try rw [HE.out]);clear HE;refine ⟨by simp_all,?_⟩;repeat (first|exact Below.refl _ _|refine Below.setCell ?_ (by simp) _|refine Below.alloc ?_ (by simp) _))
set_option maxHeartbeats 1000000 in
theorem rr_brk (t:ByteArray) (b i:Int) (e:Bool) (w:World):Calls Tryz.prog 27 #[.agg #[.int .u8 3,.string t,.int .i64 b,.int .i64 i,.bool e]] w fun x w'=>x=.returned (.bool (rtN b && (t.toList == [] && (i == 0 && !e))))∧Below w.heap.size w w':=by
 obtain ⟨r,hr⟩:∃r,rtN b=r:=⟨_,rfl⟩
 have HR:Hid (rtN b=r):=hr
 rw [hr]
 clear hr
 by_cases h0:0≤b∧b≤1000
 ·have HE:Hid (r=true):=by show _=_;rw [←HR.out];simp [rtN,h0]
  obtain ⟨h1,h2⟩:=h0
  have q1:¬b<0:=by omega
  have q2:¬1000<b:=by omega
  clear h1 h2
  go_enter Tryz.func27,Tryz.ntmps27
  go_wp2_with fail
  all_goals (go_ret;(try rw [HE.out]);clear HE;refine ⟨by simp_all,?_⟩;repeat (first|exact Below.refl _ _|refine Below.setCell ?_ (by simp) _|refine Below.alloc ?_ (by simp) _))
 ·have HE:Hid (r=false):=by show _=_;rw [←HR.out];simp only [rtN];simp;omega
  by_cases h1:b<0
  ·clear h0
   go_enter Tryz.func27,Tryz.ntmps27
   go_wp2_with fail
   all_goals (go_ret;rw [HE.out];clear HE;refine ⟨rfl,?_⟩;repeat (first|exact Below.refl _ _|refine Below.setCell ?_ (by simp) _|refine Below.alloc ?_ (by simp) _))
  ·have q2:1000<b:=by omega
   clear h0
   go_enter Tryz.func27,Tryz.ntmps27
   go_wp2_with fail
   all_goals (go_ret;rw [HE.out];clear HE;refine ⟨rfl,?_⟩;repeat (first|exact Below.refl _ _|refine Below.setCell ?_ (by simp) _|refine Below.alloc ?_ (by simp) _))
set_option maxHeartbeats 1000000 in
theorem rr_beg (t:ByteArray) (b i:Int) (e:Bool) (w:World):Calls Tryz.prog 27 #[.agg #[.int .u8 6,.string t,.int .i64 b,.int .i64 i,.bool e]] w fun x w'=>x=.returned (.bool (rtN i && (t.toList == [] && b == 0)))∧Below w.heap.size w w':=by
 obtain ⟨r,hr⟩:∃r,rtN i=r:=⟨_,rfl⟩
 have HR:Hid (rtN i=r):=hr
 rw [hr]
 clear hr
 by_cases h0:0≤i∧i≤1000
 ·have HE:Hid (r=true):=by show _=_;rw [←HR.out];simp [rtN,h0]
  obtain ⟨h1,h2⟩:=h0
  have q1:¬i<0:=by omega
  have q2:¬1000<i:=by omega
  clear h1 h2
  go_enter Tryz.func27,Tryz.ntmps27
  go_wp2_with fail
  all_goals (go_ret;(try rw [HE.out]);clear HE;refine ⟨by simp_all,?_⟩;repeat (first|exact Below.refl _ _|refine Below.setCell ?_ (by simp) _|refine Below.alloc ?_ (by simp) _))
 ·have HE:Hid (r=false):=by show _=_;rw [←HR.out];simp only [rtN];simp;omega
  by_cases h1:i<0
  ·clear h0
   go_enter Tryz.func27,Tryz.ntmps27
   go_wp2_with fail
   all_goals (go_ret;rw [HE.out];clear HE;refine ⟨rfl,?_⟩;repeat (first|exact Below.refl _ _|refine Below.setCell ?_ (by simp) _|refine Below.alloc ?_ (by simp) _))
  ·have q2:1000<i:=by omega
   clear h0
   go_enter Tryz.func27,Tryz.ntmps27
   go_wp2_with fail
   all_goals (go_ret;rw [HE.out];clear HE;refine ⟨rfl,?_⟩;repeat (first|exact Below.refl _ _|refine Below.setCell ?_ (by simp) _|refine Below.alloc ?_ (by simp) _))
set_option maxHeartbeats 1000000 in
theorem rr_zero (k:Int) (hk:k=2∨k=4∨k=5∨k=7) (t:ByteArray) (b i:Int) (e:Bool) (w:World):Calls Tryz.prog 27 #[.agg #[.int .u8 k,.string t,.int .i64 b,.int .i64 i,.bool e]] w fun x w'=>x=.returned (.bool (t.toList == [] && (b == 0 && (i == 0 && !e))))∧Below w.heap.size w w':=by
 rcases hk with rfl|rfl|rfl|rfl
 all_goals
  go_enter Tryz.func27,Tryz.ntmps27
  go_wp2_with fail
  all_goals go_ret
  all_goals (refine ⟨by simp_all,?_⟩;repeat (first|exact Below.refl _ _|refine Below.setCell ?_ (by simp) _|refine Below.alloc ?_ (by simp) _))
set_option maxHeartbeats 1000000 in
theorem rr_none (k:Int) (h1:k≠1) (h2:k≠2) (h3:k≠3) (h4:k≠4) (h5:k≠5) (h6:k≠6) (h7:k≠7) (t:ByteArray) (b i:Int) (e:Bool) (w:World):Calls Tryz.prog 27 #[.agg #[.int .u8 k,.string t,.int .i64 b,.int .i64 i,.bool e]] w fun x w'=>x=.returned (.bool false)∧Below w.heap.size w w':=by
 go_enter Tryz.func27,Tryz.ntmps27
 go_wp2_with fail
 all_goals go_ret
 all_goals (refine ⟨by simp_all,?_⟩;repeat (first|exact Below.refl _ _|refine Below.setCell ?_ (by simp) _|refine Below.alloc ?_ (by simp) _))
theorem rright_any (d:Dc) (ht:d.t.size≤9223372036854775807) (w:World):Calls Tryz.prog 27 #[d.v] w fun x w'=>x=.returned (.bool (rt d))∧Below w.heap.size w w':=by
 obtain ⟨k,t,b,i,e⟩:=d
 by_cases k1:k=1
 ·subst k1
  have e1:rt ⟨1,t,b,i,e⟩=(rtT t && (b == 0 && (i == 0 && !e))):=by
   unfold rt
   rw [if_pos rfl]
   congr 1
   rw [Bool.eq_iff_iff]
   simp [Dc.mk.injEq]
  rw [e1]
  exact rr_text t b i e ht w
 by_cases k3:k=3
 ·subst k3
  have e1:rt ⟨3,t,b,i,e⟩=(rtN b && (t.toList == [] && (i == 0 && !e))):=by
   unfold rt
   rw [if_neg (by show ¬(3:Int)=1;decide),if_pos rfl,tl_E]
   congr 1
   rw [Bool.eq_iff_iff]
   simp [Dc.mk.injEq]
  rw [e1]
  exact rr_brk t b i e w
 by_cases k6:k=6
 ·subst k6
  have e1:rt ⟨6,t,b,i,e⟩=(rtN i && (t.toList == [] && b == 0)):=by
   unfold rt
   rw [if_neg (by show ¬(6:Int)=1;decide),if_neg (by show ¬(6:Int)=3;decide),if_pos rfl,tl_E]
   congr 1
   rw [Bool.eq_iff_iff]
   simp [Dc.mk.injEq]
  rw [e1]
  exact rr_beg t b i e w
 by_cases kz:k=2∨k=4∨k=5∨k=7
 ·have e1:rt ⟨k,t,b,i,e⟩=(t.toList == [] && (b == 0 && (i == 0 && !e))):=by
   unfold rt
   rw [if_neg k1,if_neg k3,if_neg k6,if_pos kz,tl_E]
   rw [Bool.eq_iff_iff]
   simp [Dc.mk.injEq]
  rw [e1]
  exact rr_zero k kz t b i e w
 ·have e1:rt ⟨k,t,b,i,e⟩=false:=by
   unfold rt
   rw [if_neg k1,if_neg k3,if_neg k6,if_neg kz]
  rw [e1]
  simp only [not_or] at kz
  exact rr_none k k1 kz.1 k3 kz.2.1 kz.2.2.1 k6 kz.2.2.2 t b i e w
theorem frm_step {o:Int}{j:Nat}{l:List Dc}{d:Dc}(hj:l[j]?=some d):frm o j (l.drop j)=if rt d=true∧0≤o+dep d.k then frm (o+dep d.k) (j+1) (l.drop (j+1)) else some j:=by
 obtain ⟨h1,h2⟩:=List.getElem?_eq_some_iff.1 hj
 rw [List.drop_eq_getElem_cons h1,h2]
 rfl
theorem frm_end {o:Int}{j:Nat}{l:List Dc}(hj:l.length≤j):frm o j (l.drop j)=if 0<o then some j else none:=by
 rw [List.drop_eq_nil_of_le hj];rfl
def ckr:Option Nat→Int × Int
 |some j=>(70,(j:Int))
 |none=>(0,0)
theorem chk_eq {l:List Dc}(h:¬2097152<l.length):chk l=ckr (frm 0 0 l):=by
 unfold chk
 rw [if_neg h]
 cases frm 0 0 l <;> rfl
set_option maxHeartbeats 2000000 in
set_option maxRecDepth 100000 in
theorem check_any (ao:Option Addr) (l:List Dc) (cap:Nat) (w:World) (hL:Lay w ao l) (hn:l.length≤9223372036854775807) :
  Calls Tryz.prog 152 #[.slice ao l.length cap] w fun e w'=>e=.returned (.tuple #[.int .i64 (chk l).1,.int .i64 (chk l).2])∧Below w.heap.size w w':=by
 by_cases hm:2097152<l.length
 ·have q0:(2097152:Int)<l.length:=by omega
  have HC:Hid (chk l=(2,0)):=by show _=_;unfold chk;rw [if_pos hm]
  go_enter Tryz.func152,Tryz.ntmps152
  go_wp2_with fail
  go_ret2
  rw [HC.out]
  exact ⟨rfl,Below.refl _ _⟩
 have q0:¬(2097152:Int)<l.length:=by omega
 have HC:Hid (chk l=ckr (frm 0 0 l)):=chk_eq hm
 have HL:Hid (Lay w ao l):=hL
 clear hL
 go_enter Tryz.func152,Tryz.ntmps152
 go_wp2_with fail
 go_loopw [4,12] (fun o j wr=>∃(k:Nat) (z:Int),k≤l.length∧o=.int .i64 z∧j=.int .i64 k∧0≤z∧z≤k∧Hid (frm z k (l.drop k)=frm 0 0 l∧Below w.heap.size w wr)) (fun _ j _=>l.length-(intOf j).toNat)
 case atStart=>exact ⟨0,0,by omega,rfl,rfl,by omega,by omega,rfl,Below.refl _ _⟩
 case round=>
  obtain ⟨k,z,hk,rfl,rfl,hz0,hz1,HI⟩:=hrel
  by_cases hlt:k<l.length
  ·have q1:(k:Int)<l.length:=by omega
   obtain ⟨d,hd⟩:∃d,l[k]?=some d:=⟨_,List.getElem?_eq_getElem hlt⟩
   obtain ⟨ht,b,off,rfl,c0,c1,c2,c3,c4⟩:=(HL.out.below HI.out.2) k d hd
   have HS:Hid ((if rt d=true∧0≤z+dep d.k then frm (z+dep d.k) (k+1) (l.drop (k+1)) else some k)=frm 0 0 l):=by
    show _=_;rw [←frm_step hd];exact HI.out.1
   have HB:Hid (Below w.heap.size w wr):=HI.out.2
   have HR:Hid (∀W,Calls Tryz.prog 194 #[d.v] W fun x w'=>x=.returned (.bool (rt d))∧Below W.heap.size W w'):=fun W=>right_any d ht W
   clear HI hd
   obtain ⟨dk,dt,db,di,de⟩:=d
   simp only [Dc.v] at HR
   simp only at c0 c1 c2 c3 c4 HS ht
   generalize rt ⟨dk,dt,db,di,de⟩=r at *
   have HX:Hid (r=true→0≤z+dep dk→frm (z+dep dk) (k+1) (l.drop (k+1))=frm 0 0 l):=fun h1 h2=>by rw [←HS.out,if_pos ⟨h1,h2⟩]
   have HY:Hid (¬(r=true∧0≤z+dep dk)→chk l=(70,(k:Int))):=fun h=>by rw [HC.out,←HS.out,if_neg h];rfl
   clear HS
   have HA:Hid (∀W w1,W=wr.alloc (.cells #[.int .u8 dk,.string dt,.int .i64 db,.int .i64 di,.bool de] 57)→Below W.heap.size W w1→Below w.heap.size w w1):=fun W w1 hW h=>by
    subst hW
    exact (HB.out.alloc HB.out.size _).trans (h.mono (by rw [World.size_alloc];have:=HB.out.size;omega))
   by_cases k6:dk=6
   ·subst k6
    have e6:z+dep 6=z+1:=rfl
    rw [e6] at HX HY
    cases r
    ·have HQ:Hid (chk l=(70,(k:Int))):=HY.out (by simp)
     clear HX HY
     go_wp2_with (go_at_call 194;refine (HR.out _).mono ?_;rintro e w1 ⟨rfl,hb1⟩)
     all_goals (go_ret2;rw [HQ.out];exact ⟨rfl,HA.out _ _ rfl hb1⟩)
    ·have HQ:Hid (frm (z+1) (k+1) (l.drop (k+1))=frm 0 0 l):=HX.out rfl (by omega)
     clear HX HY
     go_wp2_with (go_at_call 194;refine (HR.out _).mono ?_;rintro e w1 ⟨rfl,hb1⟩)
     exact ⟨⟨k+1,z+1,hlt,by go_num,by go_num,by omega,by omega,HQ.out,HA.out _ _ rfl hb1⟩,by simp [intOf];omega⟩
   by_cases k7:dk=7
   ·subst k7
    have e6:z+dep 7=z-1:=rfl
    rw [e6] at HX HY
    by_cases hz:0<z
    ·cases r
     ·have HQ:Hid (chk l=(70,(k:Int))):=HY.out (by simp)
      clear HX HY
      go_wp2_with (go_at_call 194;refine (HR.out _).mono ?_;rintro e w1 ⟨rfl,hb1⟩)
      all_goals (go_ret2;rw [HQ.out];exact ⟨rfl,HA.out _ _ rfl hb1⟩)
     ·have HQ:Hid (frm (z-1) (k+1) (l.drop (k+1))=frm 0 0 l):=HX.out rfl (by omega)
      clear HX HY
      go_wp2_with (go_at_call 194;refine (HR.out _).mono ?_;rintro e w1 ⟨rfl,hb1⟩)
      exact ⟨⟨k+1,z-1,hlt,by go_num,by go_num,by omega,by omega,HQ.out,HA.out _ _ rfl hb1⟩,by simp [intOf];omega⟩
    ·obtain rfl:z=0:=by omega
     have HQ:Hid (chk l=(70,(k:Int))):=HY.out (by omega)
     clear HX HY
     go_wp2_with (go_at_call 194;refine (HR.out _).mono ?_;rintro e w1 ⟨rfl,hb1⟩)
     all_goals (go_ret2;rw [HQ.out];exact ⟨rfl,HA.out _ _ rfl (Below.refl _ _)⟩)
   ·have e6:z+dep dk=z:=by simp [dep,k6,k7]
    rw [e6] at HX HY
    cases r
    ·have HQ:Hid (chk l=(70,(k:Int))):=HY.out (by simp)
     clear HX HY
     go_wp2_with (go_at_call 194;refine (HR.out _).mono ?_;rintro e w1 ⟨rfl,hb1⟩)
     all_goals (go_ret2;rw [HQ.out];exact ⟨rfl,HA.out _ _ rfl hb1⟩)
    ·have HQ:Hid (frm z (k+1) (l.drop (k+1))=frm 0 0 l):=HX.out rfl (by omega)
     clear HX HY
     go_wp2_with (go_at_call 194;refine (HR.out _).mono ?_;rintro e w1 ⟨rfl,hb1⟩)
     exact ⟨⟨k+1,z,hlt,by go_num,by go_num,by omega,by omega,HQ.out,HA.out _ _ rfl hb1⟩,by simp [intOf];omega⟩
  ·obtain rfl:k=l.length:=by omega
   have q1:¬((l.length:Int)<l.length):=by omega
   have he:=HI.out.1
   rw [frm_end (Nat.le_refl _)] at he
   have HB:Hid (Below w.heap.size w wr):=HI.out.2
   by_cases hz:0<z
   ·have HQ:Hid (chk l=(70,(l.length:Int))):=by show _=_;rw [HC.out,←he,if_pos hz];rfl
    clear HI he
    go_wp2_with fail
    go_ret2
    rw [HQ.out]
    exact ⟨rfl,HB.out⟩
   ·have HQ:Hid (chk l=(0,0)):=by show _=_;rw [HC.out,←he,if_neg hz];rfl
    clear HI he
    go_wp2_with fail
    go_ret2
    rw [HQ.out]
    exact ⟨rfl,HB.out⟩
def fri:Option Nat→Int
 |some j=>(j:Int)
 |none=>-1
set_option maxHeartbeats 2000000 in
set_option maxRecDepth 100000 in
theorem rform_any (ao:Option Addr) (l:List Dc) (cap:Nat) (w:World) (hL:Lay w ao l) (hn:l.length≤9223372036854775807) :
  Calls Tryz.prog 15 #[.slice ao l.length cap] w fun e w'=>e=.returned (.int .i64 (fri (frm 0 0 l)))∧Below w.heap.size w w':=by
 obtain ⟨R,hR⟩:∃R,frm 0 0 l=R:=⟨_,rfl⟩
 rw [hR]
 have HC:Hid (frm 0 0 l=R):=hR
 have HL:Hid (Lay w ao l):=hL
 clear hL hR
 go_enter Tryz.func15,Tryz.ntmps15
 go_wp2_with fail
 go_loopw [3,4] (fun o j wr=>∃(k:Nat) (z:Int),k≤l.length∧o=.int .i64 z∧j=.int .i64 k∧0≤z∧z≤k∧Hid (frm z k (l.drop k)=R∧Below w.heap.size w wr)) (fun _ j _=>l.length-(intOf j).toNat)
 case atStart=>exact ⟨0,0,by omega,rfl,rfl,by omega,by omega,HC.out,Below.refl _ _⟩
 case round=>
  obtain ⟨k,z,hk,rfl,rfl,hz0,hz1,HI⟩:=hrel
  by_cases hlt:k<l.length
  ·have q1:(k:Int)<l.length:=by omega
   have q3:(0:Int)≤k:=by omega
   obtain ⟨d,hd⟩:∃d,l[k]?=some d:=⟨_,List.getElem?_eq_getElem hlt⟩
   obtain ⟨ht,b,off,rfl,c0,c1,c2,c3,c4⟩:=(HL.out.below HI.out.2) k d hd
   have HS:Hid ((if rt d=true∧0≤z+dep d.k then frm (z+dep d.k) (k+1) (l.drop (k+1)) else some k)=R):=by
    show _=_;rw [←frm_step hd];exact HI.out.1
   have HB:Hid (Below w.heap.size w wr):=HI.out.2
   have HR:Hid (∀W,Calls Tryz.prog 27 #[d.v] W fun x w'=>x=.returned (.bool (rt d))∧Below W.heap.size W w'):=fun W=>rright_any d ht W
   clear HI hd
   obtain ⟨dk,dt,db,di,de⟩:=d
   simp only [Dc.v] at HR
   simp only at c0 c1 c2 c3 c4 HS ht
   generalize rt ⟨dk,dt,db,di,de⟩=r at *
   have HX:Hid (r=true→0≤z+dep dk→frm (z+dep dk) (k+1) (l.drop (k+1))=R):=fun h1 h2=>by rw [←HS.out,if_pos ⟨h1,h2⟩]
   have HY:Hid (¬(r=true∧0≤z+dep dk)→R=some k):=fun h=>by rw [←HS.out,if_neg h]
   clear HS
   cases r
   ·have HQ:Hid (R=some k):=HY.out (by simp)
    clear HX HY
    go_wp2_with (go_at_call 27;refine (HR.out _).mono ?_;rintro e w1 ⟨rfl,hb1⟩;have HB1:Hid (Below w.heap.size w w1):=HB.out.trans (hb1.mono HB.out.size);clear hb1)
    go_ret
    rw [HQ.out]
    exact ⟨rfl,HB1.out⟩
   by_cases k6:dk=6
   ·subst k6
    have e6:z+dep 6=z+1:=rfl
    rw [e6] at HX HY
    have HQ:Hid (frm (z+1) (k+1) (l.drop (k+1))=R):=HX.out rfl (by omega)
    clear HX HY
    go_wp2_with (go_at_call 27;refine (HR.out _).mono ?_;rintro e w1 ⟨rfl,hb1⟩;have c0':=(hb1.cell (World.block_lt_of_cell? _ _ c0)).trans c0;have HB1:Hid (Below w.heap.size w w1):=HB.out.trans (hb1.mono HB.out.size);clear hb1)
    exact ⟨⟨k+1,z+1,hlt,by go_num,by go_num,by omega,by omega,HQ.out,HB1.out⟩,by simp [intOf];omega⟩
   by_cases k7:dk=7
   ·subst k7
    have e6:z+dep 7=z-1:=rfl
    rw [e6] at HX HY
    by_cases hz:0<z
    ·have HQ:Hid (frm (z-1) (k+1) (l.drop (k+1))=R):=HX.out rfl (by omega)
     clear HX HY
     go_wp2_with (go_at_call 27;refine (HR.out _).mono ?_;rintro e w1 ⟨rfl,hb1⟩;have c0':=(hb1.cell (World.block_lt_of_cell? _ _ c0)).trans c0;have HB1:Hid (Below w.heap.size w w1):=HB.out.trans (hb1.mono HB.out.size);clear hb1)
     exact ⟨⟨k+1,z-1,hlt,by go_num,by go_num,by omega,by omega,HQ.out,HB1.out⟩,by simp [intOf];omega⟩
    ·obtain rfl:z=0:=by omega
     have HQ:Hid (R=some k):=HY.out (by omega)
     clear HX HY
     go_wp2_with (go_at_call 27;refine (HR.out _).mono ?_;rintro e w1 ⟨rfl,hb1⟩;have c0':=(hb1.cell (World.block_lt_of_cell? _ _ c0)).trans c0;have HB1:Hid (Below w.heap.size w w1):=HB.out.trans (hb1.mono HB.out.size);clear hb1)
     go_ret
     rw [HQ.out]
     exact ⟨rfl,HB1.out⟩
   ·have e6:z+dep dk=z:=by simp [dep,k6,k7]
    rw [e6] at HX HY
    have HQ:Hid (frm z (k+1) (l.drop (k+1))=R):=HX.out rfl (by omega)
    clear HX HY
    go_wp2_with (go_at_call 27;refine (HR.out _).mono ?_;rintro e w1 ⟨rfl,hb1⟩;have c0':=(hb1.cell (World.block_lt_of_cell? _ _ c0)).trans c0;have HB1:Hid (Below w.heap.size w w1):=HB.out.trans (hb1.mono HB.out.size);clear hb1)
    exact ⟨⟨k+1,z,hlt,by go_num,by go_num,by omega,by omega,HQ.out,HB1.out⟩,by simp [intOf];omega⟩
  ·obtain rfl:k=l.length:=by omega
   have q1:¬((l.length:Int)<l.length):=by omega
   have he:=HI.out.1
   rw [frm_end (Nat.le_refl _)] at he
   have HB:Hid (Below w.heap.size w wr):=HI.out.2
   by_cases hz:0<z
   ·have HQ:Hid (R=some l.length):=by show _=_;rw [←he,if_pos hz]
    clear HI he
    go_wp2_with fail
    go_ret
    rw [HQ.out]
    exact ⟨rfl,HB.out⟩
   ·have HQ:Hid (R=none):=by show _=_;rw [←he,if_neg hz]
    clear HI he
    go_wp2_with fail
    go_ret
    rw [HQ.out]
    exact ⟨rfl,HB.out⟩
end Go.Proofs.YtpdlohfdjiaegaaGreatDoor.Lw
namespace Go.Proofs.YtpdlohfdjiaegaaGreatDoor.Lw
open Go.Proofs.YtpdlohfdjiaegaaGreatDoor.Lx
open Go.RowKit
open Go.Lib (strCells strCells_length)
theorem aft_size (t:ByteArray):(aft t).size≤t.size:=by
 unfold aft
 have:=lf_bd t
 rw [ByteArray.size_extract];omega
set_option maxHeartbeats 1000000 in
theorem behind_any (b:Bool) (col wait:Int) (t:ByteArray) (w:World) (hT:Tab w) (ht:t.size≤2147483647) (h0:0≤col) (h1:col≤1152921504606846976) (h2:0≤wait) (h3:wait≤1152921504606846976) :
  Calls Tryz.prog 158 #[.agg #[.bool b,.int .i64 col,.int .i64 wait],.string t] w fun e w'=>e=.returned (.agg #[.bool true,.int .i64 (ncol col wait t),.int .i64 0])∧Below w.heap.size w w':=by
 have hbd:=lf_bd t
 have hbt:=tw_bd t
 have hba:=tw_bd (aft t)
 have hsa:=aft_size t
 by_cases hl:lf t<0
 ·have q1:decide (0≤lf t)=false:=by simp;omega
  have q2:¬(0≤lf t):=by omega
  have HN:Hid (ncol col wait t=col+wait+tw t):=if_pos hl
  clear hba hsa
  obtain ⟨y,hy⟩:∃y,tw t=y:=⟨_,rfl⟩
  rw [hy] at HN hbt
  go_enter Tryz.func158,Tryz.ntmps158
  go_wp2_with (go_at_call 200;refine (lastix10 t (by omega) _).mono ?_;rintro e w1 ⟨rfl,rfl⟩)
  obtain ⟨W,hW⟩:∃W,((w.alloc (.cells #[.bool b,.int .i64 col,.int .i64 wait] 163)).alloc (.cells #[.bool false,.int .i64 0,.int .i64 0] 163))=W:=⟨_,rfl⟩
  have s1:(w.alloc (.cells #[.bool b,.int .i64 col,.int .i64 wait] 163)).heap.size=w.heap.size+1:=World.size_alloc _ _
  have hbW:Below w.heap.size w W:=by rw [←hW];exact ((Below.refl _ w).alloc (Nat.le_refl _) _).alloc (by omega) _
  have b1:W.heap[w.heap.size]?=some (.cells #[.bool b,.int .i64 col,.int .i64 wait] 163 (0,0)):=by rw [←hW];exact alloc_at _ _ _ _ (new_at _ _)
  have b2:W.heap[w.heap.size+1]?=some (.cells #[.bool false,.int .i64 0,.int .i64 0] 163 (0,0)):=by rw [←hW,←s1];exact new_at _ _
  obtain ⟨x,hx⟩:∃x,x=w.heap.size:=⟨_,rfl⟩
  rw [←hx] at b1 b2 hbW
  have hTW:Tab W:=hT.below (by rw [←hx];exact hbW)
  simp only [hW,←hx]
  have x1:W.cell? ⟨x,1,none⟩=some (.int .i64 col):=blk_cell b1 rfl
  have x2:W.cell? ⟨x,2,none⟩=some (.int .i64 wait):=blk_cell b1 rfl
  have HB:Hid (∀V,Below W.heap.size W V→V.cell? ⟨x,1,none⟩=some (.int .i64 col)∧V.cell? ⟨x,2,none⟩=some (.int .i64 wait)∧V.cell? ⟨x+1,0,none⟩=some (.bool false)∧V.cell? ⟨x+1,1,none⟩=some (.int .i64 0)∧V.cell? ⟨x+1,2,none⟩=some (.int .i64 0)∧V.frozen? ⟨x+1,0,none⟩=false∧V.frozen? ⟨x+1,1,none⟩=false∧V.frozen? ⟨x+1,2,none⟩=false):=fun V hV=>⟨blk_cell (blk_below b1 hV) rfl,blk_cell (blk_below b1 hV) rfl,blk_cell (blk_below b2 hV) rfl,blk_cell (blk_below b2 hV) rfl,blk_cell (blk_below b2 hV) rfl,blk_frozen (blk_below b2 hV),blk_frozen (blk_below b2 hV),blk_frozen (blk_below b2 hV)⟩
  have HBW:Hid (Below x w W):=hbW
  have HT:Hid (Tab W):=hTW
  have HC:Hid (Calls Tryz.prog 196 #[.string t] W.drew fun e V=>e=.returned (.int .i64 y)∧Hid (Below x w V∧V.heap[x+1]?=some (.cells #[.bool false,.int .i64 0,.int .i64 0] 163 (0,0)))∧V.cell? ⟨x,1,none⟩=some (.int .i64 col)∧V.cell? ⟨x,2,none⟩=some (.int .i64 wait)∧V.cell? ⟨x+1,0,none⟩=some (.bool false)∧V.cell? ⟨x+1,1,none⟩=some (.int .i64 0)∧V.cell? ⟨x+1,2,none⟩=some (.int .i64 0)∧V.frozen? ⟨x+1,0,none⟩=false∧V.frozen? ⟨x+1,1,none⟩=false∧V.frozen? ⟨x+1,2,none⟩=false):=by
   refine (wtext_any t W.drew (hTW.below (Below.drew (Below.refl _ W))) ht).mono ?_
   rintro e V ⟨rfl,hV⟩
   have hV':Below W.heap.size W V:=⟨hV.os,hV.tape,hV.output,hV.size,hV.block⟩
   exact ⟨by rw [hy],⟨hbW.trans (hV'.mono (by have:=hbW.size;omega)),blk_below b2 hV'⟩,HB.out V hV'⟩
  clear s1 b1 b2 hT hTW hbW hW q1 q2 hl hbd HB HT hy
  have HX:Hid (x=w.heap.size):=hx
  clear hx
  go_region_with (go_at_call 196;refine HC.out.mono ?_;rintro e w2 ⟨rfl,hb2,k1,k2,k3,k4,k5,k6,k7,k8⟩)
  all_goals
   have hz:IntKind.i64.wrap (IntKind.i64.wrap (col+wait)+y)=col+wait+y:=by rw [IntKind.wrap_i64,IntKind.wrap_i64];omega
   rw [hz]
   obtain ⟨V,hV⟩:∃V,V=((w2.setCell ⟨x+1,0,none⟩ (.bool true)).setCell ⟨x+1,1,none⟩ (.int .i64 (col+wait+y))).setCell ⟨x+1,2,none⟩ (.int .i64 0):=⟨_,rfl⟩
   have hVb:V.heap[x+1]?=some (.cells #[.bool true,.int .i64 (col+wait+y),.int .i64 0] 163 (0,0)):=by rw [hV];exact blk_set (blk_set (blk_set hb2.out.2 0 _) 1 _) 2 _
   have hVB:Below x w V:=by rw [hV];exact (((hb2.out.1).setCell (p:=⟨x+1,0,none⟩) (by show x≤x+1;omega) _).setCell (p:=⟨x+1,1,none⟩) (by show x≤x+1;omega) _).setCell (p:=⟨x+1,2,none⟩) (by show x≤x+1;omega) _
   rw [←hV]
   have m0:V.cell? ⟨x+1,0,none⟩=some (.bool true):=blk_cell hVb rfl
   have m1:V.cell? ⟨x+1,1,none⟩=some (.int .i64 (col+wait+y)):=blk_cell hVb rfl
   have m2:V.cell? ⟨x+1,2,none⟩=some (.int .i64 0):=blk_cell hVb rfl
   have HF:Hid (Ending.returned (.agg #[.bool true,.int .i64 (col+wait+y),.int .i64 0])=.returned (.agg #[.bool true,.int .i64 (ncol col wait t),.int .i64 0])∧Below w.heap.size w V):=⟨by rw [HN.out],by rw [←HX.out];exact hVB⟩
   clear hz hV hVb hVB k1 k2 k3 k4 k5 k6 k7 k8 hb2 HC HN
   go_wp2_with fail
   exact bodyPost_ret (v:=.agg #[.bool true,.int .i64 (col+wait+y),.int .i64 0]) (by simp [results,Tryz.f158,go_sem,m0,m1,m2]) rfl HF.out
 ·have q1:decide (0≤lf t)=true:=by simp;omega
  have q2:(0≤lf t):=by omega
  have HN:Hid (ncol col wait t=tw (aft t)):=if_neg hl
  obtain ⟨k,hk⟩:∃k:Nat,lf t=k:=⟨(lf t).toNat,by omega⟩
  have HA:Hid (aft t=t.extract (k+1) t.size):=by unfold aft;rw [hk];rfl
  obtain ⟨y,hy⟩:∃y,tw (aft t)=y:=⟨_,rfl⟩
  have HC:Hid (∀V,Tab V→Calls Tryz.prog 196 #[.string (t.extract (k+1) t.size)] V fun e V'=>e=.returned (.int .i64 y)∧Below V.heap.size V V'):=by
   intro V hV
   rw [←HA.out,←hy]
   exact wtext_any (aft t) V hV (by omega)
  rw [hy] at HN hba
  have hk1:(k:Int)+1≤t.size:=by omega
  have hkn:k+1≤t.size:=by omega
  have HT:Hid (Tab w):=hT
  have LC:Hid (∀V,Calls Tryz.prog 200 #[.string t,.string ⟨#[10]⟩] V fun e w'=>e=.returned (.int .i64 k)∧w'=V):=by
   intro V;have:=lastix10 t (by omega) V;rw [hk] at this;exact this
  clear hsa hbt q1 q2 hT hy HA hl hk hbd
  go_enter Tryz.func158,Tryz.ntmps158
  go_wp2_with (go_at_call 200;refine (LC.out _).mono ?_;rintro e w1 ⟨rfl,rfl⟩)
  obtain ⟨W,hW⟩:∃W,((w.alloc (.cells #[.bool b,.int .i64 col,.int .i64 wait] 163)).alloc (.cells #[.bool false,.int .i64 0,.int .i64 0] 163))=W:=⟨_,rfl⟩
  have s1:(w.alloc (.cells #[.bool b,.int .i64 col,.int .i64 wait] 163)).heap.size=w.heap.size+1:=World.size_alloc _ _
  have hbW:Below w.heap.size w W:=by rw [←hW];exact ((Below.refl _ w).alloc (Nat.le_refl _) _).alloc (by omega) _
  have b2:W.heap[w.heap.size+1]?=some (.cells #[.bool false,.int .i64 0,.int .i64 0] 163 (0,0)):=by rw [←hW,←s1];exact new_at _ _
  refine (HC.out _ ?tab).mono ?_
  case tab=>rw [hW];exact HT.out.below hbW
  rintro e w2 ⟨rfl,hb2⟩
  rw [hW] at hb2
  have HB2:Hid (Below w.heap.size w w2):=hbW.trans (hb2.mono hbW.size)
  have k0:=blk_below b2 hb2
  clear hb2 hbW b2 s1 hW
  have HK:Hid (w2.heap[w.heap.size+1]?=some (.cells #[.bool false,.int .i64 0,.int .i64 0] 163 (0,0))):=k0
  obtain ⟨x,HX⟩:∃x,Hid (x=w.heap.size):=⟨_,rfl⟩
  rw [←HX.out] at k0 HB2 HK ⊢
  have k3:w2.cell? ⟨x+1,0,none⟩=some (.bool false):=blk_cell k0 rfl
  have k4:w2.cell? ⟨x+1,1,none⟩=some (.int .i64 0):=blk_cell k0 rfl
  have k5:w2.cell? ⟨x+1,2,none⟩=some (.int .i64 0):=blk_cell k0 rfl
  have k6:w2.frozen? ⟨x+1,0,none⟩=false:=blk_frozen k0
  have k7:w2.frozen? ⟨x+1,1,none⟩=false:=blk_frozen k0
  have k8:w2.frozen? ⟨x+1,2,none⟩=false:=blk_frozen k0
  clear k0
  obtain ⟨V,hV⟩:∃V,V=((w2.setCell ⟨x+1,0,none⟩ (.bool true)).setCell ⟨x+1,1,none⟩ (.int .i64 y)).setCell ⟨x+1,2,none⟩ (.int .i64 0):=⟨_,rfl⟩
  have hVb:V.heap[x+1]?=some (.cells #[.bool true,.int .i64 y,.int .i64 0] 163 (0,0)):=by rw [hV];exact blk_set (blk_set (blk_set HK.out 0 _) 1 _) 2 _
  have hVB:Below x w V:=by rw [hV];exact (((HB2.out).setCell (p:=⟨x+1,0,none⟩) (by show x≤x+1;omega) _).setCell (p:=⟨x+1,1,none⟩) (by show x≤x+1;omega) _).setCell (p:=⟨x+1,2,none⟩) (by show x≤x+1;omega) _
  have m0:V.cell? ⟨x+1,0,none⟩=some (.bool true):=blk_cell hVb rfl
  have m1:V.cell? ⟨x+1,1,none⟩=some (.int .i64 y):=blk_cell hVb rfl
  have m2:V.cell? ⟨x+1,2,none⟩=some (.int .i64 0):=blk_cell hVb rfl
  have HF:Hid (Ending.returned (.agg #[.bool true,.int .i64 y,.int .i64 0])=.returned (.agg #[.bool true,.int .i64 (ncol col wait t),.int .i64 0])∧Below w.heap.size w V):=⟨by rw [HN.out],by rw [←HX.out];exact hVB⟩
  have HV:Hid (V=((w2.setCell ⟨x+1,0,none⟩ (.bool true)).setCell ⟨x+1,1,none⟩ (.int .i64 y)).setCell ⟨x+1,2,none⟩ (.int .i64 0)):=hV
  clear hV hVb hVB HB2 HC HN
  go_wp2_with fail
  rw [←HV.out]
  exact bodyPost_ret (v:=.agg #[.bool true,.int .i64 y,.int .i64 0]) (by simp [results,Tryz.f158,go_sem,m0,m1,m2]) rfl HF.out
end Go.Proofs.YtpdlohfdjiaegaaGreatDoor.Lw
