import Derived.Test.YtpdlohfdjiaegaaGreatDoorM42
set_option linter.unusedVariables false
set_option linter.unusedSimpArgs false
set_option maxHeartbeats 2000000
namespace Go.Proofs.YtpdlohfdjiaegaaGreatDoor
open Go.RowKit
variable {g:Nat}{W:World}{n:Int}{K:List It}{E:List Ev}{vs vt:Value}
theorem rE {D:Nat->Prop}(h:Psz g D W n K E vs vt) (s:ByteArray):Da 226 #[pt g,.string s] W fun e w'=>bi g D vs vt W n K E e w' (aZ s):=by
 have hmf:=mkfn;have HP:Hid (Psz g D W n K E vs vt):=h;have HB:Hid (Below W.heap.size W W):=Below.refl _ _;clear h;obtain ⟨R,hR⟩:∃R,aZ s=R:=⟨_,rfl⟩;have HR:Hid (aZ s=R):=hR;rw [hR];clear hR
 go_enter Tryz.func226,Tryz.ntmps226
 go_wp2_with fail
 refine (bj g W.heap.size W [s] _ 1 _ (by first|rfl|simp only [World.size_alloc]) rfl rfl (by show 1<=1000;decide) HB.out.size).mono ?_;rintro e w1 ⟨c1,rfl,hA,hb⟩;have HA1:Hid (RF g W.heap.size w1 (wdV 2 (.slice (some ⟨c1,0,none⟩) 1 1)) (.wd 2 [s])):=hA;replace HB:Hid (Below W.heap.size W w1):=HB.out.trans (hb.mono HB.out.size);clear hA hb
 go_wp2_with fail
 refine (bj g W.heap.size w1 [⟨#[101,110,100]⟩] _ 1 _ (by first|rfl|simp only [World.size_alloc]) rfl rfl (by show 1<=1000;decide) HB.out.size).mono ?_;rintro e w2 ⟨c2,rfl,hA,hb⟩;replace HA1:Hid (RF g W.heap.size w2 (wdV 2 (.slice (some ⟨c1,0,none⟩) 1 1)) (.wd 2 [s])):=RF.up HA1.out hb;have HA2:Hid (RF g W.heap.size w2 (wdV 2 (.slice (some ⟨c2,0,none⟩) 1 1)) (.wd 2 [⟨#[101,110,100]⟩])):=hA;replace HB:Hid (Below W.heap.size W w2):=HB.out.trans (hb.mono HB.out.size);clear hA hb
 by_cases h:(s.toList == [115,107,105,112])=true
 ·have hR:R=.op 13 [.fl (.wd 2 [s])]:=by rw [<-HR.out];simp [aZ,h]
  subst hR;clear HR
  go_wp2_with fail
  refine (aC HP.out.1 HB.out 13 [wdV 2 (.slice (some ⟨c1,0,none⟩) 1 1)] 1 [.fl (.wd 2 [s])] (.cons (.fl HA1.out) (.nil)) rfl (by show 1<=1000;decide) HP.out.2.1 HP.out.2.2.1 HP.out.2.2.2.1 HP.out.2.2.2.2 _ (by first|rfl|simp only [World.size_alloc])).mono ?_;rintro e w' ⟨rfl,hG⟩;have HG:Hid (aq g D vs vt W w' (n+1) ([.fl (.wd 2 [s])]++.lv 13 :: K) (E++[⟨1,13,tv0⟩])):=hG;clear hG
  go_wp2_with fail
  go_ret
  exact ⟨rfl,HG.out⟩
 have n1:(s.toList == [115,107,105,112])=false:=by simpa using h
 clear h
 by_cases h:(s.toList == [105,102])=true
 ·have hR:R=.op 15 [.fl (.wd 2 [s]),.fl (.mt .expr),.fl (.wd 2 [⟨#[116,104,101,110]⟩]),.fl (.mt .body),.again (.row [.wd 2 [⟨#[101,108,105,102]⟩],.mt .expr,.wd 2 [⟨#[116,104,101,110]⟩],.mt .body]),.once (.row [.wd 2 [⟨#[101,108,115,101]⟩],.mt .body]),.fl (.wd 2 [⟨#[101,110,100]⟩])]:=by rw [<-HR.out];simp [aZ,h,n1]
  subst hR;clear HR
  go_wp2_with fail
  refine (bj g W.heap.size w2 [⟨#[101,108,105,102]⟩] _ 1 _ (by first|rfl|simp only [World.size_alloc]) rfl rfl (by show 1<=1000;decide) HB.out.size).mono ?_;rintro e w3 ⟨c3,rfl,hA,hb⟩;replace HA1:Hid (RF g W.heap.size w3 (wdV 2 (.slice (some ⟨c1,0,none⟩) 1 1)) (.wd 2 [s])):=RF.up HA1.out hb;replace HA2:Hid (RF g W.heap.size w3 (wdV 2 (.slice (some ⟨c2,0,none⟩) 1 1)) (.wd 2 [⟨#[101,110,100]⟩])):=RF.up HA2.out hb;have HA3:Hid (RF g W.heap.size w3 (wdV 2 (.slice (some ⟨c3,0,none⟩) 1 1)) (.wd 2 [⟨#[101,108,105,102]⟩])):=hA;replace HB:Hid (Below W.heap.size W w3):=HB.out.trans (hb.mono HB.out.size);clear hA hb
  go_wp2_with fail
  refine (bj g W.heap.size w3 [⟨#[116,104,101,110]⟩] _ 1 _ (by first|rfl|simp only [World.size_alloc]) rfl rfl (by show 1<=1000;decide) HB.out.size).mono ?_;rintro e w4 ⟨c4,rfl,hA,hb⟩;replace HA1:Hid (RF g W.heap.size w4 (wdV 2 (.slice (some ⟨c1,0,none⟩) 1 1)) (.wd 2 [s])):=RF.up HA1.out hb;replace HA2:Hid (RF g W.heap.size w4 (wdV 2 (.slice (some ⟨c2,0,none⟩) 1 1)) (.wd 2 [⟨#[101,110,100]⟩])):=RF.up HA2.out hb;replace HA3:Hid (RF g W.heap.size w4 (wdV 2 (.slice (some ⟨c3,0,none⟩) 1 1)) (.wd 2 [⟨#[101,108,105,102]⟩])):=RF.up HA3.out hb;have HA4:Hid (RF g W.heap.size w4 (wdV 2 (.slice (some ⟨c4,0,none⟩) 1 1)) (.wd 2 [⟨#[116,104,101,110]⟩])):=hA;replace HB:Hid (Below W.heap.size W w4):=HB.out.trans (hb.mono HB.out.size);clear hA hb
  go_wp2_with fail
  refine (cK (g:=g) (lo:=W.heap.size) (W:=w4) [wdV 2 (.slice (some ⟨c3,0,none⟩) 1 1),mtV g 220,wdV 2 (.slice (some ⟨c4,0,none⟩) 1 1),mtV g 151] 4 [.wd 2 [⟨#[101,108,105,102]⟩],.mt .expr,.wd 2 [⟨#[116,104,101,110]⟩],.mt .body] ⟨_,_,_,rfl⟩ (by simp) (.cons (HA3.out) (.cons (.mt .expr) (.cons (HA4.out) (.cons (.mt .body) (.nil))))) rfl HB.out.size _ (by first|rfl|simp only [World.size_alloc])).mono ?_;rintro e w5 ⟨p5,q5,rfl,hA,hb⟩;replace HA1:Hid (RF g W.heap.size w5 (wdV 2 (.slice (some ⟨c1,0,none⟩) 1 1)) (.wd 2 [s])):=RF.up HA1.out hb;replace HA2:Hid (RF g W.heap.size w5 (wdV 2 (.slice (some ⟨c2,0,none⟩) 1 1)) (.wd 2 [⟨#[101,110,100]⟩])):=RF.up HA2.out hb;replace HA3:Hid (RF g W.heap.size w5 (wdV 2 (.slice (some ⟨c3,0,none⟩) 1 1)) (.wd 2 [⟨#[101,108,105,102]⟩])):=RF.up HA3.out hb;replace HA4:Hid (RF g W.heap.size w5 (wdV 2 (.slice (some ⟨c4,0,none⟩) 1 1)) (.wd 2 [⟨#[116,104,101,110]⟩])):=RF.up HA4.out hb;have HA5:Hid (RI g W.heap.size w5 (agV g (rwV p5 q5)) (.again (.row [.wd 2 [⟨#[101,108,105,102]⟩],.mt .expr,.wd 2 [⟨#[116,104,101,110]⟩],.mt .body]))):=hA;replace HB:Hid (Below W.heap.size W w5):=HB.out.trans (hb.mono HB.out.size);clear hA hb
  go_wp2_with fail
  refine (bj g W.heap.size w5 [⟨#[116,104,101,110]⟩] _ 1 _ (by first|rfl|simp only [World.size_alloc]) rfl rfl (by show 1<=1000;decide) HB.out.size).mono ?_;rintro e w6 ⟨c6,rfl,hA,hb⟩;replace HA1:Hid (RF g W.heap.size w6 (wdV 2 (.slice (some ⟨c1,0,none⟩) 1 1)) (.wd 2 [s])):=RF.up HA1.out hb;replace HA2:Hid (RF g W.heap.size w6 (wdV 2 (.slice (some ⟨c2,0,none⟩) 1 1)) (.wd 2 [⟨#[101,110,100]⟩])):=RF.up HA2.out hb;replace HA3:Hid (RF g W.heap.size w6 (wdV 2 (.slice (some ⟨c3,0,none⟩) 1 1)) (.wd 2 [⟨#[101,108,105,102]⟩])):=RF.up HA3.out hb;replace HA4:Hid (RF g W.heap.size w6 (wdV 2 (.slice (some ⟨c4,0,none⟩) 1 1)) (.wd 2 [⟨#[116,104,101,110]⟩])):=RF.up HA4.out hb;replace HA5:Hid (RI g W.heap.size w6 (agV g (rwV p5 q5)) (.again (.row [.wd 2 [⟨#[101,108,105,102]⟩],.mt .expr,.wd 2 [⟨#[116,104,101,110]⟩],.mt .body]))):=RI.up HA5.out hb;have HA6:Hid (RF g W.heap.size w6 (wdV 2 (.slice (some ⟨c6,0,none⟩) 1 1)) (.wd 2 [⟨#[116,104,101,110]⟩])):=hA;replace HB:Hid (Below W.heap.size W w6):=HB.out.trans (hb.mono HB.out.size);clear hA hb
  go_wp2_with fail
  refine (bj g W.heap.size w6 [⟨#[101,108,115,101]⟩] _ 1 _ (by first|rfl|simp only [World.size_alloc]) rfl rfl (by show 1<=1000;decide) HB.out.size).mono ?_;rintro e w7 ⟨c7,rfl,hA,hb⟩;replace HA1:Hid (RF g W.heap.size w7 (wdV 2 (.slice (some ⟨c1,0,none⟩) 1 1)) (.wd 2 [s])):=RF.up HA1.out hb;replace HA2:Hid (RF g W.heap.size w7 (wdV 2 (.slice (some ⟨c2,0,none⟩) 1 1)) (.wd 2 [⟨#[101,110,100]⟩])):=RF.up HA2.out hb;replace HA3:Hid (RF g W.heap.size w7 (wdV 2 (.slice (some ⟨c3,0,none⟩) 1 1)) (.wd 2 [⟨#[101,108,105,102]⟩])):=RF.up HA3.out hb;replace HA4:Hid (RF g W.heap.size w7 (wdV 2 (.slice (some ⟨c4,0,none⟩) 1 1)) (.wd 2 [⟨#[116,104,101,110]⟩])):=RF.up HA4.out hb;replace HA5:Hid (RI g W.heap.size w7 (agV g (rwV p5 q5)) (.again (.row [.wd 2 [⟨#[101,108,105,102]⟩],.mt .expr,.wd 2 [⟨#[116,104,101,110]⟩],.mt .body]))):=RI.up HA5.out hb;replace HA6:Hid (RF g W.heap.size w7 (wdV 2 (.slice (some ⟨c6,0,none⟩) 1 1)) (.wd 2 [⟨#[116,104,101,110]⟩])):=RF.up HA6.out hb;have HA7:Hid (RF g W.heap.size w7 (wdV 2 (.slice (some ⟨c7,0,none⟩) 1 1)) (.wd 2 [⟨#[101,108,115,101]⟩])):=hA;replace HB:Hid (Below W.heap.size W w7):=HB.out.trans (hb.mono HB.out.size);clear hA hb
  go_wp2_with fail
  refine (fG (g:=g) (lo:=W.heap.size) (W:=w7) [wdV 2 (.slice (some ⟨c7,0,none⟩) 1 1),mtV g 151] 2 [.wd 2 [⟨#[101,108,115,101]⟩],.mt .body] ⟨_,_,_,rfl⟩ (by simp) (.cons (HA7.out) (.cons (.mt .body) (.nil))) rfl HB.out.size _ (by first|rfl|simp only [World.size_alloc])).mono ?_;rintro e w8 ⟨p8,q8,rfl,hA,hb⟩;replace HA1:Hid (RF g W.heap.size w8 (wdV 2 (.slice (some ⟨c1,0,none⟩) 1 1)) (.wd 2 [s])):=RF.up HA1.out hb;replace HA2:Hid (RF g W.heap.size w8 (wdV 2 (.slice (some ⟨c2,0,none⟩) 1 1)) (.wd 2 [⟨#[101,110,100]⟩])):=RF.up HA2.out hb;replace HA3:Hid (RF g W.heap.size w8 (wdV 2 (.slice (some ⟨c3,0,none⟩) 1 1)) (.wd 2 [⟨#[101,108,105,102]⟩])):=RF.up HA3.out hb;replace HA4:Hid (RF g W.heap.size w8 (wdV 2 (.slice (some ⟨c4,0,none⟩) 1 1)) (.wd 2 [⟨#[116,104,101,110]⟩])):=RF.up HA4.out hb;replace HA5:Hid (RI g W.heap.size w8 (agV g (rwV p5 q5)) (.again (.row [.wd 2 [⟨#[101,108,105,102]⟩],.mt .expr,.wd 2 [⟨#[116,104,101,110]⟩],.mt .body]))):=RI.up HA5.out hb;replace HA6:Hid (RF g W.heap.size w8 (wdV 2 (.slice (some ⟨c6,0,none⟩) 1 1)) (.wd 2 [⟨#[116,104,101,110]⟩])):=RF.up HA6.out hb;replace HA7:Hid (RF g W.heap.size w8 (wdV 2 (.slice (some ⟨c7,0,none⟩) 1 1)) (.wd 2 [⟨#[101,108,115,101]⟩])):=RF.up HA7.out hb;have HA8:Hid (RI g W.heap.size w8 (ocV g (rwV p8 q8)) (.once (.row [.wd 2 [⟨#[101,108,115,101]⟩],.mt .body]))):=hA;replace HB:Hid (Below W.heap.size W w8):=HB.out.trans (hb.mono HB.out.size);clear hA hb
  go_wp2_with fail
  refine (aC HP.out.1 HB.out 15 [wdV 2 (.slice (some ⟨c1,0,none⟩) 1 1),mtV g 220,wdV 2 (.slice (some ⟨c6,0,none⟩) 1 1),mtV g 151,agV g (rwV p5 q5),ocV g (rwV p8 q8),wdV 2 (.slice (some ⟨c2,0,none⟩) 1 1)] 7 [.fl (.wd 2 [s]),.fl (.mt .expr),.fl (.wd 2 [⟨#[116,104,101,110]⟩]),.fl (.mt .body),.again (.row [.wd 2 [⟨#[101,108,105,102]⟩],.mt .expr,.wd 2 [⟨#[116,104,101,110]⟩],.mt .body]),.once (.row [.wd 2 [⟨#[101,108,115,101]⟩],.mt .body]),.fl (.wd 2 [⟨#[101,110,100]⟩])] (.cons (.fl HA1.out) (.cons (.fl (.mt .expr)) (.cons (.fl HA6.out) (.cons (.fl (.mt .body)) (.cons HA5.out (.cons HA8.out (.cons (.fl HA2.out) (.nil)))))))) rfl (by show 7<=1000;decide) HP.out.2.1 HP.out.2.2.1 HP.out.2.2.2.1 HP.out.2.2.2.2 _ (by first|rfl|simp only [World.size_alloc])).mono ?_;rintro e w' ⟨rfl,hG⟩;have HG:Hid (aq g D vs vt W w' (n+1) ([.fl (.wd 2 [s]),.fl (.mt .expr),.fl (.wd 2 [⟨#[116,104,101,110]⟩]),.fl (.mt .body),.again (.row [.wd 2 [⟨#[101,108,105,102]⟩],.mt .expr,.wd 2 [⟨#[116,104,101,110]⟩],.mt .body]),.once (.row [.wd 2 [⟨#[101,108,115,101]⟩],.mt .body]),.fl (.wd 2 [⟨#[101,110,100]⟩])]++.lv 15 :: K) (E++[⟨1,15,tv0⟩])):=hG;clear hG
  go_wp2_with fail
  go_ret
  exact ⟨rfl,HG.out⟩
 have n2:(s.toList == [105,102])=false:=by simpa using h
 clear h
 by_cases h:(s.toList == [119,104,105,108,101])=true
 ·have hR:R=.op 16 [.fl (.wd 2 [s]),.fl (.mt .expr),.fl (.wd 2 [⟨#[100,111]⟩]),.fl (.mt .body),.fl (.wd 2 [⟨#[101,110,100]⟩])]:=by rw [<-HR.out];simp [aZ,h,n1,n2]
  subst hR;clear HR
  go_wp2_with fail
  refine (bj g W.heap.size w2 [⟨#[100,111]⟩] _ 1 _ (by first|rfl|simp only [World.size_alloc]) rfl rfl (by show 1<=1000;decide) HB.out.size).mono ?_;rintro e w3 ⟨c3,rfl,hA,hb⟩;replace HA1:Hid (RF g W.heap.size w3 (wdV 2 (.slice (some ⟨c1,0,none⟩) 1 1)) (.wd 2 [s])):=RF.up HA1.out hb;replace HA2:Hid (RF g W.heap.size w3 (wdV 2 (.slice (some ⟨c2,0,none⟩) 1 1)) (.wd 2 [⟨#[101,110,100]⟩])):=RF.up HA2.out hb;have HA3:Hid (RF g W.heap.size w3 (wdV 2 (.slice (some ⟨c3,0,none⟩) 1 1)) (.wd 2 [⟨#[100,111]⟩])):=hA;replace HB:Hid (Below W.heap.size W w3):=HB.out.trans (hb.mono HB.out.size);clear hA hb
  go_wp2_with fail
  refine (aC HP.out.1 HB.out 16 [wdV 2 (.slice (some ⟨c1,0,none⟩) 1 1),mtV g 220,wdV 2 (.slice (some ⟨c3,0,none⟩) 1 1),mtV g 151,wdV 2 (.slice (some ⟨c2,0,none⟩) 1 1)] 5 [.fl (.wd 2 [s]),.fl (.mt .expr),.fl (.wd 2 [⟨#[100,111]⟩]),.fl (.mt .body),.fl (.wd 2 [⟨#[101,110,100]⟩])] (.cons (.fl HA1.out) (.cons (.fl (.mt .expr)) (.cons (.fl HA3.out) (.cons (.fl (.mt .body)) (.cons (.fl HA2.out) (.nil)))))) rfl (by show 5<=1000;decide) HP.out.2.1 HP.out.2.2.1 HP.out.2.2.2.1 HP.out.2.2.2.2 _ (by first|rfl|simp only [World.size_alloc])).mono ?_;rintro e w' ⟨rfl,hG⟩;have HG:Hid (aq g D vs vt W w' (n+1) ([.fl (.wd 2 [s]),.fl (.mt .expr),.fl (.wd 2 [⟨#[100,111]⟩]),.fl (.mt .body),.fl (.wd 2 [⟨#[101,110,100]⟩])]++.lv 16 :: K) (E++[⟨1,16,tv0⟩])):=hG;clear hG
  go_wp2_with fail
  go_ret
  exact ⟨rfl,HG.out⟩
 have n3:(s.toList == [119,104,105,108,101])=false:=by simpa using h
 clear h
 by_cases h:(s.toList == [102,111,114])=true
 ·have hR:R=.op 17 [.fl (.wd 2 [s]),.fl (.nm),.fl (.wd 6 [⟨#[58,61]⟩]),.fl (.mt .expr),.fl (.wd 2 [⟨#[116,111]⟩]),.fl (.mt .expr),.fl (.wd 2 [⟨#[100,111]⟩]),.fl (.mt .body),.fl (.wd 2 [⟨#[101,110,100]⟩])]:=by rw [<-HR.out];simp [aZ,h,n1,n2,n3]
  subst hR;clear HR
  go_wp2_with fail
  refine (aB g W.heap.size w2 [⟨#[58,61]⟩] _ 1 _ (by first|rfl|simp only [World.size_alloc]) rfl rfl (by show 1<=1000;decide) HB.out.size).mono ?_;rintro e w3 ⟨c3,rfl,hA,hb⟩;replace HA1:Hid (RF g W.heap.size w3 (wdV 2 (.slice (some ⟨c1,0,none⟩) 1 1)) (.wd 2 [s])):=RF.up HA1.out hb;replace HA2:Hid (RF g W.heap.size w3 (wdV 2 (.slice (some ⟨c2,0,none⟩) 1 1)) (.wd 2 [⟨#[101,110,100]⟩])):=RF.up HA2.out hb;have HA3:Hid (RF g W.heap.size w3 (wdV 6 (.slice (some ⟨c3,0,none⟩) 1 1)) (.wd 6 [⟨#[58,61]⟩])):=hA;replace HB:Hid (Below W.heap.size W w3):=HB.out.trans (hb.mono HB.out.size);clear hA hb
  go_wp2_with fail
  refine (bj g W.heap.size w3 [⟨#[116,111]⟩] _ 1 _ (by first|rfl|simp only [World.size_alloc]) rfl rfl (by show 1<=1000;decide) HB.out.size).mono ?_;rintro e w4 ⟨c4,rfl,hA,hb⟩;replace HA1:Hid (RF g W.heap.size w4 (wdV 2 (.slice (some ⟨c1,0,none⟩) 1 1)) (.wd 2 [s])):=RF.up HA1.out hb;replace HA2:Hid (RF g W.heap.size w4 (wdV 2 (.slice (some ⟨c2,0,none⟩) 1 1)) (.wd 2 [⟨#[101,110,100]⟩])):=RF.up HA2.out hb;replace HA3:Hid (RF g W.heap.size w4 (wdV 6 (.slice (some ⟨c3,0,none⟩) 1 1)) (.wd 6 [⟨#[58,61]⟩])):=RF.up HA3.out hb;have HA4:Hid (RF g W.heap.size w4 (wdV 2 (.slice (some ⟨c4,0,none⟩) 1 1)) (.wd 2 [⟨#[116,111]⟩])):=hA;replace HB:Hid (Below W.heap.size W w4):=HB.out.trans (hb.mono HB.out.size);clear hA hb
  go_wp2_with fail
  refine (bj g W.heap.size w4 [⟨#[100,111]⟩] _ 1 _ (by first|rfl|simp only [World.size_alloc]) rfl rfl (by show 1<=1000;decide) HB.out.size).mono ?_;rintro e w5 ⟨c5,rfl,hA,hb⟩;replace HA1:Hid (RF g W.heap.size w5 (wdV 2 (.slice (some ⟨c1,0,none⟩) 1 1)) (.wd 2 [s])):=RF.up HA1.out hb;replace HA2:Hid (RF g W.heap.size w5 (wdV 2 (.slice (some ⟨c2,0,none⟩) 1 1)) (.wd 2 [⟨#[101,110,100]⟩])):=RF.up HA2.out hb;replace HA3:Hid (RF g W.heap.size w5 (wdV 6 (.slice (some ⟨c3,0,none⟩) 1 1)) (.wd 6 [⟨#[58,61]⟩])):=RF.up HA3.out hb;replace HA4:Hid (RF g W.heap.size w5 (wdV 2 (.slice (some ⟨c4,0,none⟩) 1 1)) (.wd 2 [⟨#[116,111]⟩])):=RF.up HA4.out hb;have HA5:Hid (RF g W.heap.size w5 (wdV 2 (.slice (some ⟨c5,0,none⟩) 1 1)) (.wd 2 [⟨#[100,111]⟩])):=hA;replace HB:Hid (Below W.heap.size W w5):=HB.out.trans (hb.mono HB.out.size);clear hA hb
  go_wp2_with fail
  refine (aC HP.out.1 HB.out 17 [wdV 2 (.slice (some ⟨c1,0,none⟩) 1 1),nmV,wdV 6 (.slice (some ⟨c3,0,none⟩) 1 1),mtV g 220,wdV 2 (.slice (some ⟨c4,0,none⟩) 1 1),mtV g 220,wdV 2 (.slice (some ⟨c5,0,none⟩) 1 1),mtV g 151,wdV 2 (.slice (some ⟨c2,0,none⟩) 1 1)] 9 [.fl (.wd 2 [s]),.fl (.nm),.fl (.wd 6 [⟨#[58,61]⟩]),.fl (.mt .expr),.fl (.wd 2 [⟨#[116,111]⟩]),.fl (.mt .expr),.fl (.wd 2 [⟨#[100,111]⟩]),.fl (.mt .body),.fl (.wd 2 [⟨#[101,110,100]⟩])] (.cons (.fl HA1.out) (.cons (.fl (.nm)) (.cons (.fl HA3.out) (.cons (.fl (.mt .expr)) (.cons (.fl HA4.out) (.cons (.fl (.mt .expr)) (.cons (.fl HA5.out) (.cons (.fl (.mt .body)) (.cons (.fl HA2.out) (.nil)))))))))) rfl (by show 9<=1000;decide) HP.out.2.1 HP.out.2.2.1 HP.out.2.2.2.1 HP.out.2.2.2.2 _ (by first|rfl|simp only [World.size_alloc])).mono ?_;rintro e w' ⟨rfl,hG⟩;have HG:Hid (aq g D vs vt W w' (n+1) ([.fl (.wd 2 [s]),.fl (.nm),.fl (.wd 6 [⟨#[58,61]⟩]),.fl (.mt .expr),.fl (.wd 2 [⟨#[116,111]⟩]),.fl (.mt .expr),.fl (.wd 2 [⟨#[100,111]⟩]),.fl (.mt .body),.fl (.wd 2 [⟨#[101,110,100]⟩])]++.lv 17 :: K) (E++[⟨1,17,tv0⟩])):=hG;clear hG
  go_wp2_with fail
  go_ret
  exact ⟨rfl,HG.out⟩
 have n4:(s.toList == [102,111,114])=false:=by simpa using h
 clear h
 by_cases h:(s.toList == [114,101,112,101,97,116])=true
 ·have hR:R=.op 18 [.fl (.wd 2 [s]),.fl (.mt .body),.fl (.wd 2 [⟨#[117,110,116,105,108]⟩]),.fl (.mt .expr)]:=by rw [<-HR.out];simp [aZ,h,n1,n2,n3,n4]
  subst hR;clear HR
  go_wp2_with fail
  refine (bj g W.heap.size w2 [⟨#[117,110,116,105,108]⟩] _ 1 _ (by first|rfl|simp only [World.size_alloc]) rfl rfl (by show 1<=1000;decide) HB.out.size).mono ?_;rintro e w3 ⟨c3,rfl,hA,hb⟩;replace HA1:Hid (RF g W.heap.size w3 (wdV 2 (.slice (some ⟨c1,0,none⟩) 1 1)) (.wd 2 [s])):=RF.up HA1.out hb;replace HA2:Hid (RF g W.heap.size w3 (wdV 2 (.slice (some ⟨c2,0,none⟩) 1 1)) (.wd 2 [⟨#[101,110,100]⟩])):=RF.up HA2.out hb;have HA3:Hid (RF g W.heap.size w3 (wdV 2 (.slice (some ⟨c3,0,none⟩) 1 1)) (.wd 2 [⟨#[117,110,116,105,108]⟩])):=hA;replace HB:Hid (Below W.heap.size W w3):=HB.out.trans (hb.mono HB.out.size);clear hA hb
  go_wp2_with fail
  refine (aC HP.out.1 HB.out 18 [wdV 2 (.slice (some ⟨c1,0,none⟩) 1 1),mtV g 151,wdV 2 (.slice (some ⟨c3,0,none⟩) 1 1),mtV g 220] 4 [.fl (.wd 2 [s]),.fl (.mt .body),.fl (.wd 2 [⟨#[117,110,116,105,108]⟩]),.fl (.mt .expr)] (.cons (.fl HA1.out) (.cons (.fl (.mt .body)) (.cons (.fl HA3.out) (.cons (.fl (.mt .expr)) (.nil))))) rfl (by show 4<=1000;decide) HP.out.2.1 HP.out.2.2.1 HP.out.2.2.2.1 HP.out.2.2.2.2 _ (by first|rfl|simp only [World.size_alloc])).mono ?_;rintro e w' ⟨rfl,hG⟩;have HG:Hid (aq g D vs vt W w' (n+1) ([.fl (.wd 2 [s]),.fl (.mt .body),.fl (.wd 2 [⟨#[117,110,116,105,108]⟩]),.fl (.mt .expr)]++.lv 18 :: K) (E++[⟨1,18,tv0⟩])):=hG;clear hG
  go_wp2_with fail
  go_ret
  exact ⟨rfl,HG.out⟩
 have n5:(s.toList == [114,101,112,101,97,116])=false:=by simpa using h
 clear h
 by_cases h:(s.toList == [114,101,116,117,114,110])=true
 ·have hR:R=.op 19 [.fl (.wd 2 [s]),.once (.ex .expr)]:=by rw [<-HR.out];simp [aZ,h,n1,n2,n3,n4,n5]
  subst hR;clear HR
  go_wp2_with fail
  refine (kM (g:=g) (lo:=W.heap.size) w2 .expr _ rfl HB.out.size).mono ?_;rintro e w3 ⟨p3,rfl,hA,hb⟩;replace HA1:Hid (RF g W.heap.size w3 (wdV 2 (.slice (some ⟨c1,0,none⟩) 1 1)) (.wd 2 [s])):=RF.up HA1.out hb;replace HA2:Hid (RF g W.heap.size w3 (wdV 2 (.slice (some ⟨c2,0,none⟩) 1 1)) (.wd 2 [⟨#[101,110,100]⟩])):=RF.up HA2.out hb;have HA3:Hid (RI g W.heap.size w3 (ocV g (exV p3)) (.once (.ex .expr))):=hA;replace HB:Hid (Below W.heap.size W w3):=HB.out.trans (hb.mono HB.out.size);clear hA hb
  go_wp2_with fail
  refine (aC HP.out.1 HB.out 19 [wdV 2 (.slice (some ⟨c1,0,none⟩) 1 1),ocV g (exV p3)] 2 [.fl (.wd 2 [s]),.once (.ex .expr)] (.cons (.fl HA1.out) (.cons HA3.out (.nil))) rfl (by show 2<=1000;decide) HP.out.2.1 HP.out.2.2.1 HP.out.2.2.2.1 HP.out.2.2.2.2 _ (by first|rfl|simp only [World.size_alloc])).mono ?_;rintro e w' ⟨rfl,hG⟩;have HG:Hid (aq g D vs vt W w' (n+1) ([.fl (.wd 2 [s]),.once (.ex .expr)]++.lv 19 :: K) (E++[⟨1,19,tv0⟩])):=hG;clear hG
  go_wp2_with fail
  go_ret
  exact ⟨rfl,HG.out⟩
 have n6:(s.toList == [114,101,116,117,114,110])=false:=by simpa using h
 clear h
 by_cases h:(s.toList == [98,101,103,105,110])=true
 ·have hR:R=.op 20 [.fl (.wd 2 [s]),.fl (.mt .body),.fl (.wd 2 [⟨#[101,110,100]⟩])]:=by rw [<-HR.out];simp [aZ,h,n1,n2,n3,n4,n5,n6]
  subst hR;clear HR
  go_wp2_with fail
  refine (aC HP.out.1 HB.out 20 [wdV 2 (.slice (some ⟨c1,0,none⟩) 1 1),mtV g 151,wdV 2 (.slice (some ⟨c2,0,none⟩) 1 1)] 3 [.fl (.wd 2 [s]),.fl (.mt .body),.fl (.wd 2 [⟨#[101,110,100]⟩])] (.cons (.fl HA1.out) (.cons (.fl (.mt .body)) (.cons (.fl HA2.out) (.nil)))) rfl (by show 3<=1000;decide) HP.out.2.1 HP.out.2.2.1 HP.out.2.2.2.1 HP.out.2.2.2.2 _ (by first|rfl|simp only [World.size_alloc])).mono ?_;rintro e w' ⟨rfl,hG⟩;have HG:Hid (aq g D vs vt W w' (n+1) ([.fl (.wd 2 [s]),.fl (.mt .body),.fl (.wd 2 [⟨#[101,110,100]⟩])]++.lv 20 :: K) (E++[⟨1,20,tv0⟩])):=hG;clear hG
  go_wp2_with fail
  go_ret
  exact ⟨rfl,HG.out⟩
 have n7:(s.toList == [98,101,103,105,110])=false:=by simpa using h
 clear h;have hR:R=.ref:=by rw [<-HR.out];simp [aZ,n1,n2,n3,n4,n5,n6,n7]
 subst hR;clear HR
 go_wp2_with fail
 go_ret
 exact ⟨rfl,HB.out⟩
theorem yE {D:Nat->Prop}(h:Psz g D W n K E vs vt) (t:Tv):Da 224 #[pt g,t.v] W fun e w'=>bi g D vs vt W n K E e w' (M.row t .kind):=by
 have hmf:=mkfn;have HP:Hid (Psz g D W n K E vs vt):=h;have HB:Hid (Below W.heap.size W (W.alloc (.cells #[.int .u8 t.k,.string t.t,.int .i64 t.a,.int .i64 t.l,.int .i64 t.c,.int .i64 t.f] 37))):=ai _ _;clear h;obtain ⟨R,hR⟩:∃R,M.row t .kind=R:=⟨_,rfl⟩;have HR:Hid (M.row t .kind=R):=hR;rw [hR];clear hR
 dsimp only [Tv.v] at *
 by_cases h:(t.k == 1)=true
 ·have hR:R=.op 8 [.fl (.nm)]:=by rw [<-HR.out];simp [M.row,Tv.is,h]
  rw [hR];clear hR HR
  dsimp only [bi]
  go_enter Tryz.func224,Tryz.ntmps224
  go_wp2_with fail
  refine (aC HP.out.1 HB.out 8 [nmV] 1 [.fl (.nm)] (.cons (.fl (.nm)) (.nil)) rfl (by show 1<=1000;decide) HP.out.2.1 HP.out.2.2.1 HP.out.2.2.2.1 HP.out.2.2.2.2 _ (by first|rfl|simp only [World.size_alloc])).mono ?_;rintro e w' ⟨rfl,hG⟩;have HG:Hid (aq g D vs vt W w' (n+1) ([.fl (.nm)]++.lv 8 :: K) (E++[⟨1,8,tv0⟩])):=hG;clear hG
  go_wp2_with fail
  go_ret
  exact ⟨rfl,HG.out⟩
 have n1:(t.k == 1)=false:=by simpa using h
 clear h
 by_cases h:(t.t.toList == [97,114,114,97,121])=true
 ·have hR:R=.op 9 [.fl (.wd 2 [⟨#[97,114,114,97,121]⟩]),.fl (.wd 6 [⟨#[91]⟩]),.fl (.mt .expr),.fl (.wd 6 [⟨#[46,46]⟩]),.fl (.mt .expr),.fl (.wd 6 [⟨#[93]⟩]),.fl (.wd 2 [⟨#[111,102]⟩]),.fl (.mt .kind)]:=by rw [<-HR.out];simp [M.row,Tv.is,h,n1]
  rw [hR];clear hR HR
  dsimp only [bi]
  go_enter Tryz.func224,Tryz.ntmps224
  go_wp2_with fail
  refine (bj g W.heap.size (W.alloc (.cells #[.int .u8 t.k,.string t.t,.int .i64 t.a,.int .i64 t.l,.int .i64 t.c,.int .i64 t.f] 37)) [⟨#[97,114,114,97,121]⟩] _ 1 _ (by first|rfl|simp only [World.size_alloc]) rfl rfl (by show 1<=1000;decide) HB.out.size).mono ?_;rintro e w1 ⟨c1,rfl,hA,hb⟩;have HA1:Hid (RF g W.heap.size w1 (wdV 2 (.slice (some ⟨c1,0,none⟩) 1 1)) (.wd 2 [⟨#[97,114,114,97,121]⟩])):=hA;replace HB:Hid (Below W.heap.size W w1):=HB.out.trans (hb.mono HB.out.size);clear hA hb
  go_wp2_with fail
  refine (aB g W.heap.size w1 [⟨#[91]⟩] _ 1 _ (by first|rfl|simp only [World.size_alloc]) rfl rfl (by show 1<=1000;decide) HB.out.size).mono ?_;rintro e w2 ⟨c2,rfl,hA,hb⟩;replace HA1:Hid (RF g W.heap.size w2 (wdV 2 (.slice (some ⟨c1,0,none⟩) 1 1)) (.wd 2 [⟨#[97,114,114,97,121]⟩])):=RF.up HA1.out hb;have HA2:Hid (RF g W.heap.size w2 (wdV 6 (.slice (some ⟨c2,0,none⟩) 1 1)) (.wd 6 [⟨#[91]⟩])):=hA;replace HB:Hid (Below W.heap.size W w2):=HB.out.trans (hb.mono HB.out.size);clear hA hb
  go_wp2_with fail
  refine (aB g W.heap.size w2 [⟨#[46,46]⟩] _ 1 _ (by first|rfl|simp only [World.size_alloc]) rfl rfl (by show 1<=1000;decide) HB.out.size).mono ?_;rintro e w3 ⟨c3,rfl,hA,hb⟩;replace HA1:Hid (RF g W.heap.size w3 (wdV 2 (.slice (some ⟨c1,0,none⟩) 1 1)) (.wd 2 [⟨#[97,114,114,97,121]⟩])):=RF.up HA1.out hb;replace HA2:Hid (RF g W.heap.size w3 (wdV 6 (.slice (some ⟨c2,0,none⟩) 1 1)) (.wd 6 [⟨#[91]⟩])):=RF.up HA2.out hb;have HA3:Hid (RF g W.heap.size w3 (wdV 6 (.slice (some ⟨c3,0,none⟩) 1 1)) (.wd 6 [⟨#[46,46]⟩])):=hA;replace HB:Hid (Below W.heap.size W w3):=HB.out.trans (hb.mono HB.out.size);clear hA hb
  go_wp2_with fail
  refine (aB g W.heap.size w3 [⟨#[93]⟩] _ 1 _ (by first|rfl|simp only [World.size_alloc]) rfl rfl (by show 1<=1000;decide) HB.out.size).mono ?_;rintro e w4 ⟨c4,rfl,hA,hb⟩;replace HA1:Hid (RF g W.heap.size w4 (wdV 2 (.slice (some ⟨c1,0,none⟩) 1 1)) (.wd 2 [⟨#[97,114,114,97,121]⟩])):=RF.up HA1.out hb;replace HA2:Hid (RF g W.heap.size w4 (wdV 6 (.slice (some ⟨c2,0,none⟩) 1 1)) (.wd 6 [⟨#[91]⟩])):=RF.up HA2.out hb;replace HA3:Hid (RF g W.heap.size w4 (wdV 6 (.slice (some ⟨c3,0,none⟩) 1 1)) (.wd 6 [⟨#[46,46]⟩])):=RF.up HA3.out hb;have HA4:Hid (RF g W.heap.size w4 (wdV 6 (.slice (some ⟨c4,0,none⟩) 1 1)) (.wd 6 [⟨#[93]⟩])):=hA;replace HB:Hid (Below W.heap.size W w4):=HB.out.trans (hb.mono HB.out.size);clear hA hb
  go_wp2_with fail
  refine (bj g W.heap.size w4 [⟨#[111,102]⟩] _ 1 _ (by first|rfl|simp only [World.size_alloc]) rfl rfl (by show 1<=1000;decide) HB.out.size).mono ?_;rintro e w5 ⟨c5,rfl,hA,hb⟩;replace HA1:Hid (RF g W.heap.size w5 (wdV 2 (.slice (some ⟨c1,0,none⟩) 1 1)) (.wd 2 [⟨#[97,114,114,97,121]⟩])):=RF.up HA1.out hb;replace HA2:Hid (RF g W.heap.size w5 (wdV 6 (.slice (some ⟨c2,0,none⟩) 1 1)) (.wd 6 [⟨#[91]⟩])):=RF.up HA2.out hb;replace HA3:Hid (RF g W.heap.size w5 (wdV 6 (.slice (some ⟨c3,0,none⟩) 1 1)) (.wd 6 [⟨#[46,46]⟩])):=RF.up HA3.out hb;replace HA4:Hid (RF g W.heap.size w5 (wdV 6 (.slice (some ⟨c4,0,none⟩) 1 1)) (.wd 6 [⟨#[93]⟩])):=RF.up HA4.out hb;have HA5:Hid (RF g W.heap.size w5 (wdV 2 (.slice (some ⟨c5,0,none⟩) 1 1)) (.wd 2 [⟨#[111,102]⟩])):=hA;replace HB:Hid (Below W.heap.size W w5):=HB.out.trans (hb.mono HB.out.size);clear hA hb
  go_wp2_with fail
  refine (aC HP.out.1 HB.out 9 [wdV 2 (.slice (some ⟨c1,0,none⟩) 1 1),wdV 6 (.slice (some ⟨c2,0,none⟩) 1 1),mtV g 220,wdV 6 (.slice (some ⟨c3,0,none⟩) 1 1),mtV g 220,wdV 6 (.slice (some ⟨c4,0,none⟩) 1 1),wdV 2 (.slice (some ⟨c5,0,none⟩) 1 1),mtV g 224] 8 [.fl (.wd 2 [⟨#[97,114,114,97,121]⟩]),.fl (.wd 6 [⟨#[91]⟩]),.fl (.mt .expr),.fl (.wd 6 [⟨#[46,46]⟩]),.fl (.mt .expr),.fl (.wd 6 [⟨#[93]⟩]),.fl (.wd 2 [⟨#[111,102]⟩]),.fl (.mt .kind)] (.cons (.fl HA1.out) (.cons (.fl HA2.out) (.cons (.fl (.mt .expr)) (.cons (.fl HA3.out) (.cons (.fl (.mt .expr)) (.cons (.fl HA4.out) (.cons (.fl HA5.out) (.cons (.fl (.mt .kind)) (.nil))))))))) rfl (by show 8<=1000;decide) HP.out.2.1 HP.out.2.2.1 HP.out.2.2.2.1 HP.out.2.2.2.2 _ (by first|rfl|simp only [World.size_alloc])).mono ?_;rintro e w' ⟨rfl,hG⟩;have HG:Hid (aq g D vs vt W w' (n+1) ([.fl (.wd 2 [⟨#[97,114,114,97,121]⟩]),.fl (.wd 6 [⟨#[91]⟩]),.fl (.mt .expr),.fl (.wd 6 [⟨#[46,46]⟩]),.fl (.mt .expr),.fl (.wd 6 [⟨#[93]⟩]),.fl (.wd 2 [⟨#[111,102]⟩]),.fl (.mt .kind)]++.lv 9 :: K) (E++[⟨1,9,tv0⟩])):=hG;clear hG
  go_wp2_with fail
  go_ret
  exact ⟨rfl,HG.out⟩
 have n2:(t.t.toList == [97,114,114,97,121])=false:=by simpa using h
 clear h
 by_cases h:(t.t.toList == [114,101,99,111,114,100])=true
 ·have hR:R=.op 10 [.fl (.wd 2 [⟨#[114,101,99,111,114,100]⟩]),.fl (.mt .member),.again (.row [.wd 6 [⟨#[59]⟩],.mt .member]),.fl (.wd 2 [⟨#[101,110,100]⟩])]:=by rw [<-HR.out];simp [M.row,Tv.is,h,n1,n2]
  rw [hR];clear hR HR
  dsimp only [bi]
  go_enter Tryz.func224,Tryz.ntmps224
  go_wp2_with fail
  refine (bj g W.heap.size (W.alloc (.cells #[.int .u8 t.k,.string t.t,.int .i64 t.a,.int .i64 t.l,.int .i64 t.c,.int .i64 t.f] 37)) [⟨#[114,101,99,111,114,100]⟩] _ 1 _ (by first|rfl|simp only [World.size_alloc]) rfl rfl (by show 1<=1000;decide) HB.out.size).mono ?_;rintro e w1 ⟨c1,rfl,hA,hb⟩;have HA1:Hid (RF g W.heap.size w1 (wdV 2 (.slice (some ⟨c1,0,none⟩) 1 1)) (.wd 2 [⟨#[114,101,99,111,114,100]⟩])):=hA;replace HB:Hid (Below W.heap.size W w1):=HB.out.trans (hb.mono HB.out.size);clear hA hb
  go_wp2_with fail
  refine (aB g W.heap.size w1 [⟨#[59]⟩] _ 1 _ (by first|rfl|simp only [World.size_alloc]) rfl rfl (by show 1<=1000;decide) HB.out.size).mono ?_;rintro e w2 ⟨c2,rfl,hA,hb⟩;replace HA1:Hid (RF g W.heap.size w2 (wdV 2 (.slice (some ⟨c1,0,none⟩) 1 1)) (.wd 2 [⟨#[114,101,99,111,114,100]⟩])):=RF.up HA1.out hb;have HA2:Hid (RF g W.heap.size w2 (wdV 6 (.slice (some ⟨c2,0,none⟩) 1 1)) (.wd 6 [⟨#[59]⟩])):=hA;replace HB:Hid (Below W.heap.size W w2):=HB.out.trans (hb.mono HB.out.size);clear hA hb
  go_wp2_with fail
  refine (cK (g:=g) (lo:=W.heap.size) (W:=w2) [wdV 6 (.slice (some ⟨c2,0,none⟩) 1 1),mtV g 240] 2 [.wd 6 [⟨#[59]⟩],.mt .member] ⟨_,_,_,rfl⟩ (by simp) (.cons (HA2.out) (.cons (.mt .member) (.nil))) rfl HB.out.size _ (by first|rfl|simp only [World.size_alloc])).mono ?_;rintro e w3 ⟨p3,q3,rfl,hA,hb⟩;replace HA1:Hid (RF g W.heap.size w3 (wdV 2 (.slice (some ⟨c1,0,none⟩) 1 1)) (.wd 2 [⟨#[114,101,99,111,114,100]⟩])):=RF.up HA1.out hb;replace HA2:Hid (RF g W.heap.size w3 (wdV 6 (.slice (some ⟨c2,0,none⟩) 1 1)) (.wd 6 [⟨#[59]⟩])):=RF.up HA2.out hb;have HA3:Hid (RI g W.heap.size w3 (agV g (rwV p3 q3)) (.again (.row [.wd 6 [⟨#[59]⟩],.mt .member]))):=hA;replace HB:Hid (Below W.heap.size W w3):=HB.out.trans (hb.mono HB.out.size);clear hA hb
  go_wp2_with fail
  refine (bj g W.heap.size w3 [⟨#[101,110,100]⟩] _ 1 _ (by first|rfl|simp only [World.size_alloc]) rfl rfl (by show 1<=1000;decide) HB.out.size).mono ?_;rintro e w4 ⟨c4,rfl,hA,hb⟩;replace HA1:Hid (RF g W.heap.size w4 (wdV 2 (.slice (some ⟨c1,0,none⟩) 1 1)) (.wd 2 [⟨#[114,101,99,111,114,100]⟩])):=RF.up HA1.out hb;replace HA2:Hid (RF g W.heap.size w4 (wdV 6 (.slice (some ⟨c2,0,none⟩) 1 1)) (.wd 6 [⟨#[59]⟩])):=RF.up HA2.out hb;replace HA3:Hid (RI g W.heap.size w4 (agV g (rwV p3 q3)) (.again (.row [.wd 6 [⟨#[59]⟩],.mt .member]))):=RI.up HA3.out hb;have HA4:Hid (RF g W.heap.size w4 (wdV 2 (.slice (some ⟨c4,0,none⟩) 1 1)) (.wd 2 [⟨#[101,110,100]⟩])):=hA;replace HB:Hid (Below W.heap.size W w4):=HB.out.trans (hb.mono HB.out.size);clear hA hb
  go_wp2_with fail
  refine (aC HP.out.1 HB.out 10 [wdV 2 (.slice (some ⟨c1,0,none⟩) 1 1),mtV g 240,agV g (rwV p3 q3),wdV 2 (.slice (some ⟨c4,0,none⟩) 1 1)] 4 [.fl (.wd 2 [⟨#[114,101,99,111,114,100]⟩]),.fl (.mt .member),.again (.row [.wd 6 [⟨#[59]⟩],.mt .member]),.fl (.wd 2 [⟨#[101,110,100]⟩])] (.cons (.fl HA1.out) (.cons (.fl (.mt .member)) (.cons HA3.out (.cons (.fl HA4.out) (.nil))))) rfl (by show 4<=1000;decide) HP.out.2.1 HP.out.2.2.1 HP.out.2.2.2.1 HP.out.2.2.2.2 _ (by first|rfl|simp only [World.size_alloc])).mono ?_;rintro e w' ⟨rfl,hG⟩;have HG:Hid (aq g D vs vt W w' (n+1) ([.fl (.wd 2 [⟨#[114,101,99,111,114,100]⟩]),.fl (.mt .member),.again (.row [.wd 6 [⟨#[59]⟩],.mt .member]),.fl (.wd 2 [⟨#[101,110,100]⟩])]++.lv 10 :: K) (E++[⟨1,10,tv0⟩])):=hG;clear hG
  go_wp2_with fail
  go_ret
  exact ⟨rfl,HG.out⟩
 have n3:(t.t.toList == [114,101,99,111,114,100])=false:=by simpa using h
 clear h;have hR:R=.ref:=by rw [<-HR.out];simp [M.row,Tv.is,n1,n2,n3]
 rw [hR];clear hR HR
 dsimp only [bi]
 go_enter Tryz.func224,Tryz.ntmps224
 go_wp2_with fail
 go_ret
 exact ⟨rfl,HB.out⟩
theorem tf {D:Nat->Prop}(h:Psz g D W n K E vs vt) (t:Tv):Da 264 #[pt g,t.v] W fun e w'=>bi g D vs vt W n K E e w' (M.row t .factor):=by
 have hmf:=mkfn;have HP:Hid (Psz g D W n K E vs vt):=h;have HB:Hid (Db W (W.alloc (.cells #[.int .u8 t.k,.string t.t,.int .i64 t.a,.int .i64 t.l,.int .i64 t.c,.int .i64 t.f] 37))):=ai _ _;have HF:Hid (∀V,Da 257 #[.agg #[.int .u8 t.k,.string t.t,.int .i64 t.a,.int .i64 t.l,.int .i64 t.c,.int .i64 t.f]] V fun r w'=>r=.returned (.int .u8 (cP t))/\Db V w'):=fun V=>iE t V
 clear h;obtain ⟨R,hR⟩:∃R,M.row t .factor=R:=⟨_,rfl⟩;have HR:Hid (M.row t .factor=R):=hR;rw [hR];clear hR
 dsimp only [Tv.v] at *
 have HR2:Hid (R=if cP t == 25 then .op 25 [.fl (.wd 6 [⟨#[45]⟩]),.fl (.mt .factor)] else if cP t == 26 then .op 26 [.fl (.wd 2 [⟨#[110,111,116]⟩]),.fl (.mt .factor)] else if cP t == 27 then .op 27 [.fl (.wd 6 [⟨#[40]⟩]),.fl (.mt .expr),.fl (.wd 6 [⟨#[41]⟩])] else if cP t == 32 then .op 32 [.fl (.cs)] else if cP t == 28 then .ex [.fl (.mt .object)] else .ref):=HR.out.symm;clear HR
 generalize cP t=z at *
 by_cases h:(z == 25)=true
 ·have hz:z=25:=by simpa using h
  subst hz;have hR:R=.op 25 [.fl (.wd 6 [⟨#[45]⟩]),.fl (.mt .factor)]:=by rw [HR2.out];simp
  rw [hR];clear hR HR2 h
  dsimp only [bi]
  go_enter Tryz.func264,Tryz.ntmps264
  go_wp2_with fail
  refine (HF.out _).mono ?_;rintro r w1 ⟨rfl,hb⟩;replace HB:Hid (Db W w1):=HB.out.trans (hb.mono HB.out.size);clear hb
  go_wp2_with fail
  refine (aB g W.heap.size w1 [⟨#[45]⟩] _ 1 _ (by first|rfl|simp only [World.size_alloc]) rfl rfl (by show 1<=1000;decide) HB.out.size).mono ?_;rintro e w2 ⟨c2,rfl,hA,hb⟩;have HA2:Hid (RF g W.heap.size w2 (wdV 6 (.slice (some ⟨c2,0,none⟩) 1 1)) (.wd 6 [⟨#[45]⟩])):=hA;replace HB:Hid (Db W w2):=HB.out.trans (hb.mono HB.out.size);clear hA hb
  go_wp2_with fail
  refine (aC HP.out.1 HB.out 25 [wdV 6 (.slice (some ⟨c2,0,none⟩) 1 1),mtV g 264] 2 [.fl (.wd 6 [⟨#[45]⟩]),.fl (.mt .factor)] (.cons (.fl HA2.out) (.cons (.fl (.mt .factor)) (.nil))) rfl (by show 2<=1000;decide) HP.out.2.1 HP.out.2.2.1 HP.out.2.2.2.1 HP.out.2.2.2.2 _ (by first|rfl|simp only [World.size_alloc])).mono ?_;rintro e w' ⟨rfl,hG⟩;have HG:Hid (aq g D vs vt W w' (n+1) ([.fl (.wd 6 [⟨#[45]⟩]),.fl (.mt .factor)]++.lv 25 :: K) (E++[⟨1,25,tv0⟩])):=hG;clear hG
  go_wp2_with fail
  go_ret
  exact ⟨rfl,HG.out⟩
 have n1:(z == 25)=false:=by simpa using h
 clear h
 by_cases h:(z == 26)=true
 ·have hz:z=26:=by simpa using h
  subst hz;have hR:R=.op 26 [.fl (.wd 2 [⟨#[110,111,116]⟩]),.fl (.mt .factor)]:=by rw [HR2.out];simp
  rw [hR];clear hR HR2 h n1
  dsimp only [bi]
  go_enter Tryz.func264,Tryz.ntmps264
  go_wp2_with fail
  refine (HF.out _).mono ?_;rintro r w1 ⟨rfl,hb⟩;replace HB:Hid (Db W w1):=HB.out.trans (hb.mono HB.out.size);clear hb
  go_wp2_with fail
  refine (bj g W.heap.size w1 [⟨#[110,111,116]⟩] _ 1 _ (by first|rfl|simp only [World.size_alloc]) rfl rfl (by show 1<=1000;decide) HB.out.size).mono ?_;rintro e w2 ⟨c2,rfl,hA,hb⟩;have HA2:Hid (RF g W.heap.size w2 (wdV 2 (.slice (some ⟨c2,0,none⟩) 1 1)) (.wd 2 [⟨#[110,111,116]⟩])):=hA;replace HB:Hid (Db W w2):=HB.out.trans (hb.mono HB.out.size);clear hA hb
  go_wp2_with fail
  refine (aC HP.out.1 HB.out 26 [wdV 2 (.slice (some ⟨c2,0,none⟩) 1 1),mtV g 264] 2 [.fl (.wd 2 [⟨#[110,111,116]⟩]),.fl (.mt .factor)] (.cons (.fl HA2.out) (.cons (.fl (.mt .factor)) (.nil))) rfl (by show 2<=1000;decide) HP.out.2.1 HP.out.2.2.1 HP.out.2.2.2.1 HP.out.2.2.2.2 _ (by first|rfl|simp only [World.size_alloc])).mono ?_;rintro e w' ⟨rfl,hG⟩;have HG:Hid (aq g D vs vt W w' (n+1) ([.fl (.wd 2 [⟨#[110,111,116]⟩]),.fl (.mt .factor)]++.lv 26 :: K) (E++[⟨1,26,tv0⟩])):=hG;clear hG
  go_wp2_with fail
  go_ret
  exact ⟨rfl,HG.out⟩
 have n2:(z == 26)=false:=by simpa using h
 clear h
 by_cases h:(z == 27)=true
 ·have hz:z=27:=by simpa using h
  subst hz;have hR:R=.op 27 [.fl (.wd 6 [⟨#[40]⟩]),.fl (.mt .expr),.fl (.wd 6 [⟨#[41]⟩])]:=by rw [HR2.out];simp
  rw [hR];clear hR HR2 h n1 n2
  dsimp only [bi]
  go_enter Tryz.func264,Tryz.ntmps264
  go_wp2_with fail
  refine (HF.out _).mono ?_;rintro r w1 ⟨rfl,hb⟩;replace HB:Hid (Db W w1):=HB.out.trans (hb.mono HB.out.size);clear hb
  go_wp2_with fail
  refine (aB g W.heap.size w1 [⟨#[40]⟩] _ 1 _ (by first|rfl|simp only [World.size_alloc]) rfl rfl (by show 1<=1000;decide) HB.out.size).mono ?_;rintro e w2 ⟨c2,rfl,hA,hb⟩;have HA2:Hid (RF g W.heap.size w2 (wdV 6 (.slice (some ⟨c2,0,none⟩) 1 1)) (.wd 6 [⟨#[40]⟩])):=hA;replace HB:Hid (Db W w2):=HB.out.trans (hb.mono HB.out.size);clear hA hb
  go_wp2_with fail
  refine (aB g W.heap.size w2 [⟨#[41]⟩] _ 1 _ (by first|rfl|simp only [World.size_alloc]) rfl rfl (by show 1<=1000;decide) HB.out.size).mono ?_;rintro e w3 ⟨c3,rfl,hA,hb⟩;replace HA2:Hid (RF g W.heap.size w3 (wdV 6 (.slice (some ⟨c2,0,none⟩) 1 1)) (.wd 6 [⟨#[40]⟩])):=RF.up HA2.out hb;have HA3:Hid (RF g W.heap.size w3 (wdV 6 (.slice (some ⟨c3,0,none⟩) 1 1)) (.wd 6 [⟨#[41]⟩])):=hA;replace HB:Hid (Db W w3):=HB.out.trans (hb.mono HB.out.size);clear hA hb
  go_wp2_with fail
  refine (aC HP.out.1 HB.out 27 [wdV 6 (.slice (some ⟨c2,0,none⟩) 1 1),mtV g 220,wdV 6 (.slice (some ⟨c3,0,none⟩) 1 1)] 3 [.fl (.wd 6 [⟨#[40]⟩]),.fl (.mt .expr),.fl (.wd 6 [⟨#[41]⟩])] (.cons (.fl HA2.out) (.cons (.fl (.mt .expr)) (.cons (.fl HA3.out) (.nil)))) rfl (by show 3<=1000;decide) HP.out.2.1 HP.out.2.2.1 HP.out.2.2.2.1 HP.out.2.2.2.2 _ (by first|rfl|simp only [World.size_alloc])).mono ?_;rintro e w' ⟨rfl,hG⟩;have HG:Hid (aq g D vs vt W w' (n+1) ([.fl (.wd 6 [⟨#[40]⟩]),.fl (.mt .expr),.fl (.wd 6 [⟨#[41]⟩])]++.lv 27 :: K) (E++[⟨1,27,tv0⟩])):=hG;clear hG
  go_wp2_with fail
  go_ret
  exact ⟨rfl,HG.out⟩
 have n3:(z == 27)=false:=by simpa using h
 clear h
 by_cases h:(z == 32)=true
 ·have hz:z=32:=by simpa using h
  subst hz;have hR:R=.op 32 [.fl (.cs)]:=by rw [HR2.out];simp
  rw [hR];clear hR HR2 h n1 n2 n3
  dsimp only [bi]
  go_enter Tryz.func264,Tryz.ntmps264
  go_wp2_with fail
  refine (HF.out _).mono ?_;rintro r w1 ⟨rfl,hb⟩;replace HB:Hid (Db W w1):=HB.out.trans (hb.mono HB.out.size);clear hb
  go_wp2_with fail
  refine (aC HP.out.1 HB.out 32 [csV] 1 [.fl (.cs)] (.cons (.fl (.cs)) (.nil)) rfl (by show 1<=1000;decide) HP.out.2.1 HP.out.2.2.1 HP.out.2.2.2.1 HP.out.2.2.2.2 _ (by first|rfl|simp only [World.size_alloc])).mono ?_;rintro e w' ⟨rfl,hG⟩;have HG:Hid (aq g D vs vt W w' (n+1) ([.fl (.cs)]++.lv 32 :: K) (E++[⟨1,32,tv0⟩])):=hG;clear hG
  go_wp2_with fail
  go_ret
  exact ⟨rfl,HG.out⟩
 have n4:(z == 32)=false:=by simpa using h
 clear h
 by_cases h:(z == 28)=true
 ·have hz:z=28:=by simpa using h
  subst hz;have hR:R=.ex [.fl (.mt .object)]:=by rw [HR2.out];simp
  rw [hR];clear hR HR2 h n1 n2 n3 n4
  dsimp only [bi]
  go_enter Tryz.func264,Tryz.ntmps264
  go_wp2_with fail
  refine (HF.out _).mono ?_;rintro r w1 ⟨rfl,hb⟩;replace HB:Hid (Db W w1):=HB.out.trans (hb.mono HB.out.size);clear hb
  go_wp2_with fail
  refine (fY HP.out.1 HB.out [mtV g 225] 1 [.fl (.mt .object)] (.cons (.fl (.mt .object)) (.nil)) rfl (by show 1<=1000;decide) HP.out.2.2.2.1 _ (by first|rfl|simp only [World.size_alloc])).mono ?_;rintro e w' ⟨rfl,hG⟩;have HG:Hid (aq g D vs vt W w' n ([.fl (.mt .object)]++K) E):=hG;clear hG
  go_wp2_with fail
  go_ret
  exact ⟨rfl,HG.out⟩
 have n5:(z == 28)=false:=by simpa using h
 clear h;have hR:R=.ref:=by rw [HR2.out];simp only [n1,n2,n3,n4,n5,if_false,Bool.false_eq_true]
 rw [hR];clear hR HR2
 dsimp only [bi]
 go_enter Tryz.func264,Tryz.ntmps264
 go_wp2_with fail
 refine (HF.out _).mono ?_;rintro r w1 ⟨rfl,hb⟩;replace HB:Hid (Db W w1):=HB.out.trans (hb.mono HB.out.size);clear hb
 go_wp2_with fail
 go_ret
 exact ⟨rfl,HB.out⟩
theorem li {D:Nat->Prop}(h:Psz g D W n K E vs vt) (t:Tv):Da 192 #[pt g,t.v] W fun e w'=>bi g D vs vt W n K E e w' (M.row t .statement):=by
 have hmf:=mkfn;have HP:Hid (Psz g D W n K E vs vt):=h;have HB:Hid (Below W.heap.size W (W.alloc (.cells #[.int .u8 t.k,.string t.t,.int .i64 t.a,.int .i64 t.l,.int .i64 t.c,.int .i64 t.f] 37))):=ai _ _;clear h;obtain ⟨R,hR⟩:∃R,M.row t .statement=R:=⟨_,rfl⟩;have HR:Hid (M.row t .statement=R):=hR;rw [hR];clear hR
 dsimp only [Tv.v] at *
 by_cases h:(t.k == 1)=true
 ·have hR:R=.op 14 [.fl (.mt .object),.once (.row [.wd 6 [⟨#[58,61]⟩],.mt .expr])]:=by rw [<-HR.out];simp [M.row,h]
  rw [hR];clear hR HR
  dsimp only [bi]
  go_enter Tryz.func192,Tryz.ntmps192
  go_wp2_with fail
  refine (aB g W.heap.size (W.alloc (.cells #[.int .u8 t.k,.string t.t,.int .i64 t.a,.int .i64 t.l,.int .i64 t.c,.int .i64 t.f] 37)) [⟨#[58,61]⟩] _ 1 _ (by first|rfl|simp only [World.size_alloc]) rfl rfl (by show 1<=1000;decide) HB.out.size).mono ?_;rintro e w1 ⟨c1,rfl,hA,hb⟩;have HA1:Hid (RF g W.heap.size w1 (wdV 6 (.slice (some ⟨c1,0,none⟩) 1 1)) (.wd 6 [⟨#[58,61]⟩])):=hA;replace HB:Hid (Below W.heap.size W w1):=HB.out.trans (hb.mono HB.out.size);clear hA hb
  go_wp2_with fail
  refine (fG (g:=g) (lo:=W.heap.size) (W:=w1) [wdV 6 (.slice (some ⟨c1,0,none⟩) 1 1),mtV g 220] 2 [.wd 6 [⟨#[58,61]⟩],.mt .expr] ⟨_,_,_,rfl⟩ (by simp) (.cons (HA1.out) (.cons (.mt .expr) (.nil))) rfl HB.out.size _ (by first|rfl|simp only [World.size_alloc])).mono ?_;rintro e w2 ⟨p2,q2,rfl,hA,hb⟩;replace HA1:Hid (RF g W.heap.size w2 (wdV 6 (.slice (some ⟨c1,0,none⟩) 1 1)) (.wd 6 [⟨#[58,61]⟩])):=RF.up HA1.out hb;have HA2:Hid (RI g W.heap.size w2 (ocV g (rwV p2 q2)) (.once (.row [.wd 6 [⟨#[58,61]⟩],.mt .expr]))):=hA;replace HB:Hid (Below W.heap.size W w2):=HB.out.trans (hb.mono HB.out.size);clear hA hb
  go_wp2_with fail
  refine (aC HP.out.1 HB.out 14 [mtV g 225,ocV g (rwV p2 q2)] 2 [.fl (.mt .object),.once (.row [.wd 6 [⟨#[58,61]⟩],.mt .expr])] (.cons (.fl (.mt .object)) (.cons HA2.out (.nil))) rfl (by show 2<=1000;decide) HP.out.2.1 HP.out.2.2.1 HP.out.2.2.2.1 HP.out.2.2.2.2 _ (by first|rfl|simp only [World.size_alloc])).mono ?_;rintro e w' ⟨rfl,hG⟩;have HG:Hid (aq g D vs vt W w' (n+1) ([.fl (.mt .object),.once (.row [.wd 6 [⟨#[58,61]⟩],.mt .expr])]++.lv 14 :: K) (E++[⟨1,14,tv0⟩])):=hG;clear hG
  go_wp2_with fail
  go_ret
  exact ⟨rfl,HG.out⟩
 have n1:(t.k == 1)=false:=by simpa using h
 have hR:R=aZ t.t:=by rw [<-HR.out];simp [M.row,n1]
 rw [hR];clear hR HR h;have HW:Hid (Da 226 #[pt g,.string t.t] (W.alloc (.cells #[.int .u8 t.k,.string t.t,.int .i64 t.a,.int .i64 t.l,.int .i64 t.c,.int .i64 t.f] 37)) fun e w'=>bi g (Dn D W.heap.size (W.alloc (.cells #[.int .u8 t.k,.string t.t,.int .i64 t.a,.int .i64 t.l,.int .i64 t.c,.int .i64 t.f] 37)).heap.size) vs vt (W.alloc (.cells #[.int .u8 t.k,.string t.t,.int .i64 t.a,.int .i64 t.l,.int .i64 t.c,.int .i64 t.f] 37)) n K E e w' (aZ t.t)):=rE ⟨HP.out.1.fresh HB.out,HP.out.2⟩ t.t
 generalize aZ t.t=R at *
 go_enter Tryz.func192,Tryz.ntmps192
 go_wp2_with fail
 refine HW.out.mono ?_;intro e w1 hA;cases R with
 |ref=>
  obtain ⟨rfl,hb⟩:=hA;replace HB:Hid (Below W.heap.size W w1):=HB.out.trans (hb.mono HB.out.size);clear hb
  go_wp2_with fail
  go_ret
  exact ⟨rfl,HB.out⟩
 |ex r=>
  obtain ⟨rfl,hG⟩:=hA;have HG:=show Hid _ from aq.fresh HB.out hG
  clear hG
  go_wp2_with fail
  go_ret
  exact ⟨rfl,HG.out⟩
 |op nd r=>
  obtain ⟨rfl,hG⟩:=hA;have HG:=show Hid _ from aq.fresh HB.out hG
  clear hG
  go_wp2_with fail
  go_ret
  exact ⟨rfl,HG.out⟩
theorem o0 {g:Nat}{D:Nat->Prop}{W:World}{n:Int}{K:List It}{E:List Ev}{vs vt:Value}(h:Psz g D W n K E vs vt):Da 54 #[pt g] W fun e w'=>bi g D vs vt W n K E e w' (.op 1 et):=by
 have hmf:=mkfn;have HP:Hid (Psz g D W n K E vs vt):=h;have HB:Hid (Db W W):=Below.refl _ _;clear h
 dsimp only [bi,et]
 go_enter Tryz.func54,Tryz.ntmps54
 go_wp2_with fail
 refine (bj g W.heap.size W [⟨#[112,114,111,103,114,97,109]⟩] _ 1 _ (by first|rfl|simp only [World.size_alloc]) rfl rfl (by show 1<=1000;decide) HB.out.size).mono ?_;rintro e w1 ⟨c1,rfl,hA,hb⟩;have HA1:Hid (RF g W.heap.size w1 (wdV 2 (.slice (some ⟨c1,0,none⟩) 1 1)) (.wd 2 [⟨#[112,114,111,103,114,97,109]⟩])):=hA;replace HB:Hid (Db W w1):=HB.out.trans (hb.mono HB.out.size);clear hA hb
 go_wp2_with fail
 refine (aB g W.heap.size w1 [⟨#[59]⟩] _ 1 _ (by first|rfl|simp only [World.size_alloc]) rfl rfl (by show 1<=1000;decide) HB.out.size).mono ?_;rintro e w2 ⟨c2,rfl,hA,hb⟩;replace HA1:Hid (RF g W.heap.size w2 (wdV 2 (.slice (some ⟨c1,0,none⟩) 1 1)) (.wd 2 [⟨#[112,114,111,103,114,97,109]⟩])):=RF.up HA1.out hb;have HA2:Hid (RF g W.heap.size w2 (wdV 6 (.slice (some ⟨c2,0,none⟩) 1 1)) (.wd 6 [⟨#[59]⟩])):=hA;replace HB:Hid (Db W w2):=HB.out.trans (hb.mono HB.out.size);clear hA hb
 go_wp2_with fail
 refine (aB g W.heap.size w2 [⟨#[46]⟩] _ 1 _ (by first|rfl|simp only [World.size_alloc]) rfl rfl (by show 1<=1000;decide) HB.out.size).mono ?_;rintro e w3 ⟨c3,rfl,hA,hb⟩;replace HA1:Hid (RF g W.heap.size w3 (wdV 2 (.slice (some ⟨c1,0,none⟩) 1 1)) (.wd 2 [⟨#[112,114,111,103,114,97,109]⟩])):=RF.up HA1.out hb;replace HA2:Hid (RF g W.heap.size w3 (wdV 6 (.slice (some ⟨c2,0,none⟩) 1 1)) (.wd 6 [⟨#[59]⟩])):=RF.up HA2.out hb;have HA3:Hid (RF g W.heap.size w3 (wdV 6 (.slice (some ⟨c3,0,none⟩) 1 1)) (.wd 6 [⟨#[46]⟩])):=hA;replace HB:Hid (Db W w3):=HB.out.trans (hb.mono HB.out.size);clear hA hb
 go_wp2_with fail
 refine (aC HP.out.1 HB.out 1 [wdV 2 (.slice (some ⟨c1,0,none⟩) 1 1),nmV,wdV 6 (.slice (some ⟨c2,0,none⟩) 1 1),mtV g 98,wdV 6 (.slice (some ⟨c3,0,none⟩) 1 1)] 5 [.fl (.wd 2 [⟨#[112,114,111,103,114,97,109]⟩]),.fl (.nm),.fl (.wd 6 [⟨#[59]⟩]),.fl (.mt .block),.fl (.wd 6 [⟨#[46]⟩])] (.cons (.fl HA1.out) (.cons (.fl (.nm)) (.cons (.fl HA2.out) (.cons (.fl (.mt .block)) (.cons (.fl HA3.out) (.nil)))))) rfl (by show 5<=1000;decide) HP.out.2.1 HP.out.2.2.1 HP.out.2.2.2.1 HP.out.2.2.2.2 _ (by first|rfl|simp only [World.size_alloc])).mono ?_;rintro e w' ⟨rfl,hG⟩;have HG:Hid (aq g D vs vt W w' (n+1) ([.fl (.wd 2 [⟨#[112,114,111,103,114,97,109]⟩]),.fl (.nm),.fl (.wd 6 [⟨#[59]⟩]),.fl (.mt .block),.fl (.wd 6 [⟨#[46]⟩])]++.lv 1 :: K) (E++[⟨1,1,tv0⟩])):=hG;clear hG
 go_wp2_with fail
 go_ret
 exact ⟨rfl,HG.out⟩
end Go.Proofs.YtpdlohfdjiaegaaGreatDoor
