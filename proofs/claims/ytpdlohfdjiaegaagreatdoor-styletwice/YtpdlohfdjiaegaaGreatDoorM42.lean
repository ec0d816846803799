import Derived.Test.YtpdlohfdjiaegaaGreatDoorM41
set_option linter.unusedVariables false
set_option linter.unusedSimpArgs false
set_option maxHeartbeats 1000000
namespace Go.Proofs.YtpdlohfdjiaegaaGreatDoor
open Go.RowKit
variable {g:Nat}{W:World}{n:Int}{K:List It}{E:List Ev}{vs vt:Value}
theorem wM {D:Nat->Prop}(h:Psz g D W n K E vs vt) (t:Tv):Da 98 #[pt g,t.v] W fun e w'=>bi g D vs vt W n K E e w' (M.row t .block):=by
 have hmf:=mkfn;have HP:Hid (Psz g D W n K E vs vt):=h;have HB:Hid (Db W (W.alloc (.cells #[.int .u8 t.k,.string t.t,.int .i64 t.a,.int .i64 t.l,.int .i64 t.c,.int .i64 t.f] 37))):=ai _ _;clear h
 dsimp only [Tv.v,M.row,bi]
 go_enter Tryz.func98,Tryz.ntmps98
 go_wp2_with fail
 refine (bj g W.heap.size (W.alloc (.cells #[.int .u8 t.k,.string t.t,.int .i64 t.a,.int .i64 t.l,.int .i64 t.c,.int .i64 t.f] 37)) [⟨#[98,101,103,105,110]⟩] _ 1 _ (by first|rfl|simp only [World.size_alloc]) rfl rfl (by show 1<=1000;decide) HB.out.size).mono ?_;rintro e w1 ⟨c1,rfl,hA,hb⟩;have HA1:Hid (RF g W.heap.size w1 (wdV 2 (.slice (some ⟨c1,0,none⟩) 1 1)) (.wd 2 [⟨#[98,101,103,105,110]⟩])):=hA;replace HB:Hid (Db W w1):=HB.out.trans (hb.mono HB.out.size);clear hA hb
 go_wp2_with fail
 refine (bj g W.heap.size w1 [⟨#[101,110,100]⟩] _ 1 _ (by first|rfl|simp only [World.size_alloc]) rfl rfl (by show 1<=1000;decide) HB.out.size).mono ?_;rintro e w2 ⟨c2,rfl,hA,hb⟩;replace HA1:Hid (RF g W.heap.size w2 (wdV 2 (.slice (some ⟨c1,0,none⟩) 1 1)) (.wd 2 [⟨#[98,101,103,105,110]⟩])):=RF.up HA1.out hb;have HA2:Hid (RF g W.heap.size w2 (wdV 2 (.slice (some ⟨c2,0,none⟩) 1 1)) (.wd 2 [⟨#[101,110,100]⟩])):=hA;replace HB:Hid (Db W w2):=HB.out.trans (hb.mono HB.out.size);clear hA hb
 go_wp2_with fail
 refine (aC HP.out.1 HB.out 2 [agV g (mtV g 149),wdV 2 (.slice (some ⟨c1,0,none⟩) 1 1),mtV g 151,wdV 2 (.slice (some ⟨c2,0,none⟩) 1 1)] 4 [.again (.fn .declaration),.fl (.wd 2 [⟨#[98,101,103,105,110]⟩]),.fl (.mt .body),.fl (.wd 2 [⟨#[101,110,100]⟩])] (.cons (.again (.fn .declaration)) (.cons (.fl HA1.out) (.cons (.fl (.mt .body)) (.cons (.fl HA2.out) (.nil))))) rfl (by show 4<=1000;decide) HP.out.2.1 HP.out.2.2.1 HP.out.2.2.2.1 HP.out.2.2.2.2 _ (by first|rfl|simp only [World.size_alloc])).mono ?_;rintro e w' ⟨rfl,hG⟩;have HG:Hid (aq g D vs vt W w' (n+1) ([.again (.fn .declaration),.fl (.wd 2 [⟨#[98,101,103,105,110]⟩]),.fl (.mt .body),.fl (.wd 2 [⟨#[101,110,100]⟩])]++.lv 2 :: K) (E++[⟨1,2,tv0⟩])):=hG;clear hG
 go_wp2_with fail
 go_ret
 exact ⟨rfl,HG.out⟩
theorem kY {D:Nat->Prop}(h:Psz g D W n K E vs vt) (t:Tv):Da 189 #[pt g,t.v] W fun e w'=>bi g D vs vt W n K E e w' (M.row t .variables):=by
 have hmf:=mkfn;have HP:Hid (Psz g D W n K E vs vt):=h;have HB:Hid (Db W (W.alloc (.cells #[.int .u8 t.k,.string t.t,.int .i64 t.a,.int .i64 t.l,.int .i64 t.c,.int .i64 t.f] 37))):=ai _ _;clear h
 dsimp only [Tv.v,M.row,bi]
 go_enter Tryz.func189,Tryz.ntmps189
 go_wp2_with fail
 refine (bj g W.heap.size (W.alloc (.cells #[.int .u8 t.k,.string t.t,.int .i64 t.a,.int .i64 t.l,.int .i64 t.c,.int .i64 t.f] 37)) [⟨#[118,97,114]⟩] _ 1 _ (by first|rfl|simp only [World.size_alloc]) rfl rfl (by show 1<=1000;decide) HB.out.size).mono ?_;rintro e w1 ⟨c1,rfl,hA,hb⟩;have HA1:Hid (RF g W.heap.size w1 (wdV 2 (.slice (some ⟨c1,0,none⟩) 1 1)) (.wd 2 [⟨#[118,97,114]⟩])):=hA;replace HB:Hid (Db W w1):=HB.out.trans (hb.mono HB.out.size);clear hA hb
 go_wp2_with fail
 refine (aB g W.heap.size w1 [⟨#[59]⟩] _ 1 _ (by first|rfl|simp only [World.size_alloc]) rfl rfl (by show 1<=1000;decide) HB.out.size).mono ?_;rintro e w2 ⟨c2,rfl,hA,hb⟩;replace HA1:Hid (RF g W.heap.size w2 (wdV 2 (.slice (some ⟨c1,0,none⟩) 1 1)) (.wd 2 [⟨#[118,97,114]⟩])):=RF.up HA1.out hb;have HA2:Hid (RF g W.heap.size w2 (wdV 6 (.slice (some ⟨c2,0,none⟩) 1 1)) (.wd 6 [⟨#[59]⟩])):=hA;replace HB:Hid (Db W w2):=HB.out.trans (hb.mono HB.out.size);clear hA hb
 go_wp2_with fail
 refine (aC HP.out.1 HB.out 3 [wdV 2 (.slice (some ⟨c1,0,none⟩) 1 1),mtV g 219,wdV 6 (.slice (some ⟨c2,0,none⟩) 1 1)] 3 [.fl (.wd 2 [⟨#[118,97,114]⟩]),.fl (.mt .typed),.fl (.wd 6 [⟨#[59]⟩])] (.cons (.fl HA1.out) (.cons (.fl (.mt .typed)) (.cons (.fl HA2.out) (.nil)))) rfl (by show 3<=1000;decide) HP.out.2.1 HP.out.2.2.1 HP.out.2.2.2.1 HP.out.2.2.2.2 _ (by first|rfl|simp only [World.size_alloc])).mono ?_;rintro e w' ⟨rfl,hG⟩;have HG:Hid (aq g D vs vt W w' (n+1) ([.fl (.wd 2 [⟨#[118,97,114]⟩]),.fl (.mt .typed),.fl (.wd 6 [⟨#[59]⟩])]++.lv 3 :: K) (E++[⟨1,3,tv0⟩])):=hG;clear hG
 go_wp2_with fail
 go_ret
 exact ⟨rfl,HG.out⟩
theorem mi {D:Nat->Prop}(h:Psz g D W n K E vs vt) (t:Tv):Da 190 #[pt g,t.v] W fun e w'=>bi g D vs vt W n K E e w' (M.row t .constants):=by
 have hmf:=mkfn;have HP:Hid (Psz g D W n K E vs vt):=h;have HB:Hid (Db W (W.alloc (.cells #[.int .u8 t.k,.string t.t,.int .i64 t.a,.int .i64 t.l,.int .i64 t.c,.int .i64 t.f] 37))):=ai _ _;clear h
 dsimp only [Tv.v,M.row,bi]
 go_enter Tryz.func190,Tryz.ntmps190
 go_wp2_with fail
 refine (bj g W.heap.size (W.alloc (.cells #[.int .u8 t.k,.string t.t,.int .i64 t.a,.int .i64 t.l,.int .i64 t.c,.int .i64 t.f] 37)) [⟨#[99,111,110,115,116]⟩] _ 1 _ (by first|rfl|simp only [World.size_alloc]) rfl rfl (by show 1<=1000;decide) HB.out.size).mono ?_;rintro e w1 ⟨c1,rfl,hA,hb⟩;have HA1:Hid (RF g W.heap.size w1 (wdV 2 (.slice (some ⟨c1,0,none⟩) 1 1)) (.wd 2 [⟨#[99,111,110,115,116]⟩])):=hA;replace HB:Hid (Db W w1):=HB.out.trans (hb.mono HB.out.size);clear hA hb
 go_wp2_with fail
 refine (aB g W.heap.size w1 [⟨#[61]⟩] _ 1 _ (by first|rfl|simp only [World.size_alloc]) rfl rfl (by show 1<=1000;decide) HB.out.size).mono ?_;rintro e w2 ⟨c2,rfl,hA,hb⟩;replace HA1:Hid (RF g W.heap.size w2 (wdV 2 (.slice (some ⟨c1,0,none⟩) 1 1)) (.wd 2 [⟨#[99,111,110,115,116]⟩])):=RF.up HA1.out hb;have HA2:Hid (RF g W.heap.size w2 (wdV 6 (.slice (some ⟨c2,0,none⟩) 1 1)) (.wd 6 [⟨#[61]⟩])):=hA;replace HB:Hid (Db W w2):=HB.out.trans (hb.mono HB.out.size);clear hA hb
 go_wp2_with fail
 refine (aB g W.heap.size w2 [⟨#[59]⟩] _ 1 _ (by first|rfl|simp only [World.size_alloc]) rfl rfl (by show 1<=1000;decide) HB.out.size).mono ?_;rintro e w3 ⟨c3,rfl,hA,hb⟩;replace HA1:Hid (RF g W.heap.size w3 (wdV 2 (.slice (some ⟨c1,0,none⟩) 1 1)) (.wd 2 [⟨#[99,111,110,115,116]⟩])):=RF.up HA1.out hb;replace HA2:Hid (RF g W.heap.size w3 (wdV 6 (.slice (some ⟨c2,0,none⟩) 1 1)) (.wd 6 [⟨#[61]⟩])):=RF.up HA2.out hb;have HA3:Hid (RF g W.heap.size w3 (wdV 6 (.slice (some ⟨c3,0,none⟩) 1 1)) (.wd 6 [⟨#[59]⟩])):=hA;replace HB:Hid (Db W w3):=HB.out.trans (hb.mono HB.out.size);clear hA hb
 go_wp2_with fail
 refine (aC HP.out.1 HB.out 4 [wdV 2 (.slice (some ⟨c1,0,none⟩) 1 1),nmV,wdV 6 (.slice (some ⟨c2,0,none⟩) 1 1),mtV g 220,wdV 6 (.slice (some ⟨c3,0,none⟩) 1 1)] 5 [.fl (.wd 2 [⟨#[99,111,110,115,116]⟩]),.fl (.nm),.fl (.wd 6 [⟨#[61]⟩]),.fl (.mt .expr),.fl (.wd 6 [⟨#[59]⟩])] (.cons (.fl HA1.out) (.cons (.fl (.nm)) (.cons (.fl HA2.out) (.cons (.fl (.mt .expr)) (.cons (.fl HA3.out) (.nil)))))) rfl (by show 5<=1000;decide) HP.out.2.1 HP.out.2.2.1 HP.out.2.2.2.1 HP.out.2.2.2.2 _ (by first|rfl|simp only [World.size_alloc])).mono ?_;rintro e w' ⟨rfl,hG⟩;have HG:Hid (aq g D vs vt W w' (n+1) ([.fl (.wd 2 [⟨#[99,111,110,115,116]⟩]),.fl (.nm),.fl (.wd 6 [⟨#[61]⟩]),.fl (.mt .expr),.fl (.wd 6 [⟨#[59]⟩])]++.lv 4 :: K) (E++[⟨1,4,tv0⟩])):=hG;clear hG
 go_wp2_with fail
 go_ret
 exact ⟨rfl,HG.out⟩
theorem sE {D:Nat->Prop}(h:Psz g D W n K E vs vt) (t:Tv):Da 239 #[pt g,t.v] W fun e w'=>bi g D vs vt W n K E e w' (M.row t .params):=by
 have hmf:=mkfn;have HP:Hid (Psz g D W n K E vs vt):=h;have HB:Hid (Below W.heap.size W (W.alloc (.cells #[.int .u8 t.k,.string t.t,.int .i64 t.a,.int .i64 t.l,.int .i64 t.c,.int .i64 t.f] 37))):=ai _ _;clear h
 dsimp only [Tv.v,M.row,bi]
 go_enter Tryz.func239,Tryz.ntmps239
 go_wp2_with fail
 refine (aB g W.heap.size (W.alloc (.cells #[.int .u8 t.k,.string t.t,.int .i64 t.a,.int .i64 t.l,.int .i64 t.c,.int .i64 t.f] 37)) [⟨#[40]⟩] _ 1 _ (by first|rfl|simp only [World.size_alloc]) rfl rfl (by show 1<=1000;decide) HB.out.size).mono ?_;rintro e w1 ⟨c1,rfl,hA,hb⟩;have HA1:Hid (RF g W.heap.size w1 (wdV 6 (.slice (some ⟨c1,0,none⟩) 1 1)) (.wd 6 [⟨#[40]⟩])):=hA;replace HB:Hid (Below W.heap.size W w1):=HB.out.trans (hb.mono HB.out.size);clear hA hb
 go_wp2_with fail
 refine (aB g W.heap.size w1 [⟨#[59]⟩] _ 1 _ (by first|rfl|simp only [World.size_alloc]) rfl rfl (by show 1<=1000;decide) HB.out.size).mono ?_;rintro e w2 ⟨c2,rfl,hA,hb⟩;replace HA1:Hid (RF g W.heap.size w2 (wdV 6 (.slice (some ⟨c1,0,none⟩) 1 1)) (.wd 6 [⟨#[40]⟩])):=RF.up HA1.out hb;have HA2:Hid (RF g W.heap.size w2 (wdV 6 (.slice (some ⟨c2,0,none⟩) 1 1)) (.wd 6 [⟨#[59]⟩])):=hA;replace HB:Hid (Below W.heap.size W w2):=HB.out.trans (hb.mono HB.out.size);clear hA hb
 go_wp2_with fail
 refine (cK (g:=g) (lo:=W.heap.size) (W:=w2) [wdV 6 (.slice (some ⟨c2,0,none⟩) 1 1),mtV g 252] 2 [.wd 6 [⟨#[59]⟩],.mt .param] ⟨_,_,_,rfl⟩ (by simp) (.cons (HA2.out) (.cons (.mt .param) (.nil))) rfl HB.out.size _ (by first|rfl|simp only [World.size_alloc])).mono ?_;rintro e w3 ⟨p3,q3,rfl,hA,hb⟩;replace HA1:Hid (RF g W.heap.size w3 (wdV 6 (.slice (some ⟨c1,0,none⟩) 1 1)) (.wd 6 [⟨#[40]⟩])):=RF.up HA1.out hb;replace HA2:Hid (RF g W.heap.size w3 (wdV 6 (.slice (some ⟨c2,0,none⟩) 1 1)) (.wd 6 [⟨#[59]⟩])):=RF.up HA2.out hb;have HA3:Hid (RI g W.heap.size w3 (agV g (rwV p3 q3)) (.again (.row [.wd 6 [⟨#[59]⟩],.mt .param]))):=hA;replace HB:Hid (Below W.heap.size W w3):=HB.out.trans (hb.mono HB.out.size);clear hA hb
 go_wp2_with fail
 refine (aB g W.heap.size w3 [⟨#[41]⟩] _ 1 _ (by first|rfl|simp only [World.size_alloc]) rfl rfl (by show 1<=1000;decide) HB.out.size).mono ?_;rintro e w4 ⟨c4,rfl,hA,hb⟩;replace HA1:Hid (RF g W.heap.size w4 (wdV 6 (.slice (some ⟨c1,0,none⟩) 1 1)) (.wd 6 [⟨#[40]⟩])):=RF.up HA1.out hb;replace HA2:Hid (RF g W.heap.size w4 (wdV 6 (.slice (some ⟨c2,0,none⟩) 1 1)) (.wd 6 [⟨#[59]⟩])):=RF.up HA2.out hb;replace HA3:Hid (RI g W.heap.size w4 (agV g (rwV p3 q3)) (.again (.row [.wd 6 [⟨#[59]⟩],.mt .param]))):=RI.up HA3.out hb;have HA4:Hid (RF g W.heap.size w4 (wdV 6 (.slice (some ⟨c4,0,none⟩) 1 1)) (.wd 6 [⟨#[41]⟩])):=hA;replace HB:Hid (Below W.heap.size W w4):=HB.out.trans (hb.mono HB.out.size);clear hA hb
 go_wp2_with fail
 refine (aC HP.out.1 HB.out 6 [wdV 6 (.slice (some ⟨c1,0,none⟩) 1 1),mtV g 252,agV g (rwV p3 q3),wdV 6 (.slice (some ⟨c4,0,none⟩) 1 1)] 4 [.fl (.wd 6 [⟨#[40]⟩]),.fl (.mt .param),.again (.row [.wd 6 [⟨#[59]⟩],.mt .param]),.fl (.wd 6 [⟨#[41]⟩])] (.cons (.fl HA1.out) (.cons (.fl (.mt .param)) (.cons HA3.out (.cons (.fl HA4.out) (.nil))))) rfl (by show 4<=1000;decide) HP.out.2.1 HP.out.2.2.1 HP.out.2.2.2.1 HP.out.2.2.2.2 _ (by first|rfl|simp only [World.size_alloc])).mono ?_;rintro e w' ⟨rfl,hG⟩;have HG:Hid (aq g D vs vt W w' (n+1) ([.fl (.wd 6 [⟨#[40]⟩]),.fl (.mt .param),.again (.row [.wd 6 [⟨#[59]⟩],.mt .param]),.fl (.wd 6 [⟨#[41]⟩])]++.lv 6 :: K) (E++[⟨1,6,tv0⟩])):=hG;clear hG
 go_wp2_with fail
 go_ret
 exact ⟨rfl,HG.out⟩
theorem vf {D:Nat->Prop}(h:Psz g D W n K E vs vt) (t:Tv):Da 252 #[pt g,t.v] W fun e w'=>bi g D vs vt W n K E e w' (M.row t .param):=by
 have hmf:=mkfn;have HP:Hid (Psz g D W n K E vs vt):=h;have HB:Hid (Db W (W.alloc (.cells #[.int .u8 t.k,.string t.t,.int .i64 t.a,.int .i64 t.l,.int .i64 t.c,.int .i64 t.f] 37))):=ai _ _;clear h
 dsimp only [Tv.v,M.row,bi]
 go_enter Tryz.func252,Tryz.ntmps252
 go_wp2_with fail
 refine (aC HP.out.1 HB.out 7 [mtV g 219] 1 [.fl (.mt .typed)] (.cons (.fl (.mt .typed)) (.nil)) rfl (by show 1<=1000;decide) HP.out.2.1 HP.out.2.2.1 HP.out.2.2.2.1 HP.out.2.2.2.2 _ (by first|rfl|simp only [World.size_alloc])).mono ?_;rintro e w' ⟨rfl,hG⟩;have HG:Hid (aq g D vs vt W w' (n+1) ([.fl (.mt .typed)]++.lv 7 :: K) (E++[⟨1,7,tv0⟩])):=hG;clear hG
 go_wp2_with fail
 go_ret
 exact ⟨rfl,HG.out⟩
theorem t7 {D:Nat->Prop}(h:Psz g D W n K E vs vt) (t:Tv):Da 219 #[pt g,t.v] W fun e w'=>bi g D vs vt W n K E e w' (M.row t .typed):=by
 have hmf:=mkfn;have HP:Hid (Psz g D W n K E vs vt):=h;have HB:Hid (Below W.heap.size W (W.alloc (.cells #[.int .u8 t.k,.string t.t,.int .i64 t.a,.int .i64 t.l,.int .i64 t.c,.int .i64 t.f] 37))):=ai _ _;clear h
 dsimp only [Tv.v,M.row,bi]
 go_enter Tryz.func219,Tryz.ntmps219
 go_wp2_with fail
 refine (aB g W.heap.size (W.alloc (.cells #[.int .u8 t.k,.string t.t,.int .i64 t.a,.int .i64 t.l,.int .i64 t.c,.int .i64 t.f] 37)) [⟨#[44]⟩] _ 1 _ (by first|rfl|simp only [World.size_alloc]) rfl rfl (by show 1<=1000;decide) HB.out.size).mono ?_;rintro e w1 ⟨c1,rfl,hA,hb⟩;have HA1:Hid (RF g W.heap.size w1 (wdV 6 (.slice (some ⟨c1,0,none⟩) 1 1)) (.wd 6 [⟨#[44]⟩])):=hA;replace HB:Hid (Below W.heap.size W w1):=HB.out.trans (hb.mono HB.out.size);clear hA hb
 go_wp2_with fail
 refine (cK (g:=g) (lo:=W.heap.size) (W:=w1) [wdV 6 (.slice (some ⟨c1,0,none⟩) 1 1),nmV] 2 [.wd 6 [⟨#[44]⟩],.nm] ⟨_,_,_,rfl⟩ (by simp) (.cons (HA1.out) (.cons (.nm) (.nil))) rfl HB.out.size _ (by first|rfl|simp only [World.size_alloc])).mono ?_;rintro e w2 ⟨p2,q2,rfl,hA,hb⟩;replace HA1:Hid (RF g W.heap.size w2 (wdV 6 (.slice (some ⟨c1,0,none⟩) 1 1)) (.wd 6 [⟨#[44]⟩])):=RF.up HA1.out hb;have HA2:Hid (RI g W.heap.size w2 (agV g (rwV p2 q2)) (.again (.row [.wd 6 [⟨#[44]⟩],.nm]))):=hA;replace HB:Hid (Below W.heap.size W w2):=HB.out.trans (hb.mono HB.out.size);clear hA hb
 go_wp2_with fail
 refine (aB g W.heap.size w2 [⟨#[58]⟩] _ 1 _ (by first|rfl|simp only [World.size_alloc]) rfl rfl (by show 1<=1000;decide) HB.out.size).mono ?_;rintro e w3 ⟨c3,rfl,hA,hb⟩;replace HA1:Hid (RF g W.heap.size w3 (wdV 6 (.slice (some ⟨c1,0,none⟩) 1 1)) (.wd 6 [⟨#[44]⟩])):=RF.up HA1.out hb;replace HA2:Hid (RI g W.heap.size w3 (agV g (rwV p2 q2)) (.again (.row [.wd 6 [⟨#[44]⟩],.nm]))):=RI.up HA2.out hb;have HA3:Hid (RF g W.heap.size w3 (wdV 6 (.slice (some ⟨c3,0,none⟩) 1 1)) (.wd 6 [⟨#[58]⟩])):=hA;replace HB:Hid (Below W.heap.size W w3):=HB.out.trans (hb.mono HB.out.size);clear hA hb
 go_wp2_with fail
 refine (fY HP.out.1 HB.out [nmV,agV g (rwV p2 q2),wdV 6 (.slice (some ⟨c3,0,none⟩) 1 1),mtV g 224] 4 [.fl (.nm),.again (.row [.wd 6 [⟨#[44]⟩],.nm]),.fl (.wd 6 [⟨#[58]⟩]),.fl (.mt .kind)] (.cons (.fl (.nm)) (.cons HA2.out (.cons (.fl HA3.out) (.cons (.fl (.mt .kind)) (.nil))))) rfl (by show 4<=1000;decide) HP.out.2.2.2.1 _ (by first|rfl|simp only [World.size_alloc])).mono ?_;rintro e w' ⟨rfl,hG⟩;have HG:Hid (aq g D vs vt W w' n ([.fl (.nm),.again (.row [.wd 6 [⟨#[44]⟩],.nm]),.fl (.wd 6 [⟨#[58]⟩]),.fl (.mt .kind)]++K) E):=hG;clear hG
 go_wp2_with fail
 go_ret
 exact ⟨rfl,HG.out⟩
theorem sJ {D:Nat->Prop}(h:Psz g D W n K E vs vt) (t:Tv):Da 240 #[pt g,t.v] W fun e w'=>bi g D vs vt W n K E e w' (M.row t .member):=by
 have hmf:=mkfn;have HP:Hid (Psz g D W n K E vs vt):=h;have HB:Hid (Db W (W.alloc (.cells #[.int .u8 t.k,.string t.t,.int .i64 t.a,.int .i64 t.l,.int .i64 t.c,.int .i64 t.f] 37))):=ai _ _;clear h
 dsimp only [Tv.v,M.row,bi]
 go_enter Tryz.func240,Tryz.ntmps240
 go_wp2_with fail
 refine (aC HP.out.1 HB.out 11 [mtV g 219] 1 [.fl (.mt .typed)] (.cons (.fl (.mt .typed)) (.nil)) rfl (by show 1<=1000;decide) HP.out.2.1 HP.out.2.2.1 HP.out.2.2.2.1 HP.out.2.2.2.2 _ (by first|rfl|simp only [World.size_alloc])).mono ?_;rintro e w' ⟨rfl,hG⟩;have HG:Hid (aq g D vs vt W w' (n+1) ([.fl (.mt .typed)]++.lv 11 :: K) (E++[⟨1,11,tv0⟩])):=hG;clear hG
 go_wp2_with fail
 go_ret
 exact ⟨rfl,HG.out⟩
theorem zn {D:Nat->Prop}(h:Psz g D W n K E vs vt) (t:Tv):Da 151 #[pt g,t.v] W fun e w'=>bi g D vs vt W n K E e w' (M.row t .body):=by
 have hmf:=mkfn;have HP:Hid (Psz g D W n K E vs vt):=h;have HB:Hid (Below W.heap.size W (W.alloc (.cells #[.int .u8 t.k,.string t.t,.int .i64 t.a,.int .i64 t.l,.int .i64 t.c,.int .i64 t.f] 37))):=ai _ _;clear h
 dsimp only [Tv.v,M.row,bi]
 go_enter Tryz.func151,Tryz.ntmps151
 go_wp2_with fail
 refine (aB g W.heap.size (W.alloc (.cells #[.int .u8 t.k,.string t.t,.int .i64 t.a,.int .i64 t.l,.int .i64 t.c,.int .i64 t.f] 37)) [⟨#[59]⟩] _ 1 _ (by first|rfl|simp only [World.size_alloc]) rfl rfl (by show 1<=1000;decide) HB.out.size).mono ?_;rintro e w1 ⟨c1,rfl,hA,hb⟩;have HA1:Hid (RF g W.heap.size w1 (wdV 6 (.slice (some ⟨c1,0,none⟩) 1 1)) (.wd 6 [⟨#[59]⟩])):=hA;replace HB:Hid (Below W.heap.size W w1):=HB.out.trans (hb.mono HB.out.size);clear hA hb
 go_wp2_with fail
 refine (cK (g:=g) (lo:=W.heap.size) (W:=w1) [wdV 6 (.slice (some ⟨c1,0,none⟩) 1 1),mtV g 192] 2 [.wd 6 [⟨#[59]⟩],.mt .statement] ⟨_,_,_,rfl⟩ (by simp) (.cons (HA1.out) (.cons (.mt .statement) (.nil))) rfl HB.out.size _ (by first|rfl|simp only [World.size_alloc])).mono ?_;rintro e w2 ⟨p2,q2,rfl,hA,hb⟩;replace HA1:Hid (RF g W.heap.size w2 (wdV 6 (.slice (some ⟨c1,0,none⟩) 1 1)) (.wd 6 [⟨#[59]⟩])):=RF.up HA1.out hb;have HA2:Hid (RI g W.heap.size w2 (agV g (rwV p2 q2)) (.again (.row [.wd 6 [⟨#[59]⟩],.mt .statement]))):=hA;replace HB:Hid (Below W.heap.size W w2):=HB.out.trans (hb.mono HB.out.size);clear hA hb
 go_wp2_with fail
 refine (aC HP.out.1 HB.out 12 [mtV g 192,agV g (rwV p2 q2)] 2 [.fl (.mt .statement),.again (.row [.wd 6 [⟨#[59]⟩],.mt .statement])] (.cons (.fl (.mt .statement)) (.cons HA2.out (.nil))) rfl (by show 2<=1000;decide) HP.out.2.1 HP.out.2.2.1 HP.out.2.2.2.1 HP.out.2.2.2.2 _ (by first|rfl|simp only [World.size_alloc])).mono ?_;rintro e w' ⟨rfl,hG⟩;have HG:Hid (aq g D vs vt W w' (n+1) ([.fl (.mt .statement),.again (.row [.wd 6 [⟨#[59]⟩],.mt .statement])]++.lv 12 :: K) (E++[⟨1,12,tv0⟩])):=hG;clear hG
 go_wp2_with fail
 go_ret
 exact ⟨rfl,HG.out⟩
theorem yV {D:Nat->Prop}(h:Psz g D W n K E vs vt) (t:Tv):Da 220 #[pt g,t.v] W fun e w'=>bi g D vs vt W n K E e w' (M.row t .expr):=by
 have hmf:=mkfn;have HP:Hid (Psz g D W n K E vs vt):=h;have HB:Hid (Below W.heap.size W (W.alloc (.cells #[.int .u8 t.k,.string t.t,.int .i64 t.a,.int .i64 t.l,.int .i64 t.c,.int .i64 t.f] 37))):=ai _ _;clear h
 dsimp only [Tv.v,M.row,bi]
 go_enter Tryz.func220,Tryz.ntmps220
 go_wp2_with fail
 refine (bj g W.heap.size (W.alloc (.cells #[.int .u8 t.k,.string t.t,.int .i64 t.a,.int .i64 t.l,.int .i64 t.c,.int .i64 t.f] 37)) [⟨#[97,110,100]⟩,⟨#[111,114]⟩] _ 2 _ (by first|rfl|simp only [World.size_alloc]) rfl rfl (by show 2<=1000;decide) HB.out.size).mono ?_;rintro e w1 ⟨c1,rfl,hA,hb⟩;have HA1:Hid (RF g W.heap.size w1 (wdV 2 (.slice (some ⟨c1,0,none⟩) 2 2)) (.wd 2 [⟨#[97,110,100]⟩,⟨#[111,114]⟩])):=hA;replace HB:Hid (Below W.heap.size W w1):=HB.out.trans (hb.mono HB.out.size);clear hA hb
 go_wp2_with fail
 refine (cK (g:=g) (lo:=W.heap.size) (W:=w1) [wdV 2 (.slice (some ⟨c1,0,none⟩) 2 2),mtV g 238] 2 [.wd 2 [⟨#[97,110,100]⟩,⟨#[111,114]⟩],.mt .rel] ⟨_,_,_,rfl⟩ (by simp) (.cons (HA1.out) (.cons (.mt .rel) (.nil))) rfl HB.out.size _ (by first|rfl|simp only [World.size_alloc])).mono ?_;rintro e w2 ⟨p2,q2,rfl,hA,hb⟩;replace HA1:Hid (RF g W.heap.size w2 (wdV 2 (.slice (some ⟨c1,0,none⟩) 2 2)) (.wd 2 [⟨#[97,110,100]⟩,⟨#[111,114]⟩])):=RF.up HA1.out hb;have HA2:Hid (RI g W.heap.size w2 (agV g (rwV p2 q2)) (.again (.row [.wd 2 [⟨#[97,110,100]⟩,⟨#[111,114]⟩],.mt .rel]))):=hA;replace HB:Hid (Below W.heap.size W w2):=HB.out.trans (hb.mono HB.out.size);clear hA hb
 go_wp2_with fail
 refine (aC HP.out.1 HB.out 21 [mtV g 238,agV g (rwV p2 q2)] 2 [.fl (.mt .rel),.again (.row [.wd 2 [⟨#[97,110,100]⟩,⟨#[111,114]⟩],.mt .rel])] (.cons (.fl (.mt .rel)) (.cons HA2.out (.nil))) rfl (by show 2<=1000;decide) HP.out.2.1 HP.out.2.2.1 HP.out.2.2.2.1 HP.out.2.2.2.2 _ (by first|rfl|simp only [World.size_alloc])).mono ?_;rintro e w' ⟨rfl,hG⟩;have HG:Hid (aq g D vs vt W w' (n+1) ([.fl (.mt .rel),.again (.row [.wd 2 [⟨#[97,110,100]⟩,⟨#[111,114]⟩],.mt .rel])]++.lv 21 :: K) (E++[⟨1,21,tv0⟩])):=hG;clear hG
 go_wp2_with fail
 go_ret
 exact ⟨rfl,HG.out⟩
theorem AI {D:Nat->Prop}(h:Psz g D W n K E vs vt) (t:Tv):Da 238 #[pt g,t.v] W fun e w'=>bi g D vs vt W n K E e w' (M.row t .rel):=by
 have hmf:=mkfn;have HP:Hid (Psz g D W n K E vs vt):=h;have HB:Hid (Below W.heap.size W (W.alloc (.cells #[.int .u8 t.k,.string t.t,.int .i64 t.a,.int .i64 t.l,.int .i64 t.c,.int .i64 t.f] 37))):=ai _ _;clear h
 dsimp only [Tv.v,M.row,bi]
 go_enter Tryz.func238,Tryz.ntmps238
 go_wp2_with fail
 refine (aB g W.heap.size (W.alloc (.cells #[.int .u8 t.k,.string t.t,.int .i64 t.a,.int .i64 t.l,.int .i64 t.c,.int .i64 t.f] 37)) [⟨#[61]⟩,⟨#[35]⟩,⟨#[60]⟩,⟨#[60,61]⟩,⟨#[62]⟩,⟨#[62,61]⟩] _ 6 _ (by first|rfl|simp only [World.size_alloc]) rfl rfl (by show 6<=1000;decide) HB.out.size).mono ?_;rintro e w1 ⟨c1,rfl,hA,hb⟩;have HA1:Hid (RF g W.heap.size w1 (wdV 6 (.slice (some ⟨c1,0,none⟩) 6 6)) (.wd 6 [⟨#[61]⟩,⟨#[35]⟩,⟨#[60]⟩,⟨#[60,61]⟩,⟨#[62]⟩,⟨#[62,61]⟩])):=hA;replace HB:Hid (Below W.heap.size W w1):=HB.out.trans (hb.mono HB.out.size);clear hA hb
 go_wp2_with fail
 refine (fG (g:=g) (lo:=W.heap.size) (W:=w1) [wdV 6 (.slice (some ⟨c1,0,none⟩) 6 6),mtV g 251] 2 [.wd 6 [⟨#[61]⟩,⟨#[35]⟩,⟨#[60]⟩,⟨#[60,61]⟩,⟨#[62]⟩,⟨#[62,61]⟩],.mt .sum] ⟨_,_,_,rfl⟩ (by simp) (.cons (HA1.out) (.cons (.mt .sum) (.nil))) rfl HB.out.size _ (by first|rfl|simp only [World.size_alloc])).mono ?_;rintro e w2 ⟨p2,q2,rfl,hA,hb⟩;replace HA1:Hid (RF g W.heap.size w2 (wdV 6 (.slice (some ⟨c1,0,none⟩) 6 6)) (.wd 6 [⟨#[61]⟩,⟨#[35]⟩,⟨#[60]⟩,⟨#[60,61]⟩,⟨#[62]⟩,⟨#[62,61]⟩])):=RF.up HA1.out hb;have HA2:Hid (RI g W.heap.size w2 (ocV g (rwV p2 q2)) (.once (.row [.wd 6 [⟨#[61]⟩,⟨#[35]⟩,⟨#[60]⟩,⟨#[60,61]⟩,⟨#[62]⟩,⟨#[62,61]⟩],.mt .sum]))):=hA;replace HB:Hid (Below W.heap.size W w2):=HB.out.trans (hb.mono HB.out.size);clear hA hb
 go_wp2_with fail
 refine (aC HP.out.1 HB.out 22 [mtV g 251,ocV g (rwV p2 q2)] 2 [.fl (.mt .sum),.once (.row [.wd 6 [⟨#[61]⟩,⟨#[35]⟩,⟨#[60]⟩,⟨#[60,61]⟩,⟨#[62]⟩,⟨#[62,61]⟩],.mt .sum])] (.cons (.fl (.mt .sum)) (.cons HA2.out (.nil))) rfl (by show 2<=1000;decide) HP.out.2.1 HP.out.2.2.1 HP.out.2.2.2.1 HP.out.2.2.2.2 _ (by first|rfl|simp only [World.size_alloc])).mono ?_;rintro e w' ⟨rfl,hG⟩;have HG:Hid (aq g D vs vt W w' (n+1) ([.fl (.mt .sum),.once (.row [.wd 6 [⟨#[61]⟩,⟨#[35]⟩,⟨#[60]⟩,⟨#[60,61]⟩,⟨#[62]⟩,⟨#[62,61]⟩],.mt .sum])]++.lv 22 :: K) (E++[⟨1,22,tv0⟩])):=hG;clear hG
 go_wp2_with fail
 go_ret
 exact ⟨rfl,HG.out⟩
theorem Ap {D:Nat->Prop}(h:Psz g D W n K E vs vt) (t:Tv):Da 251 #[pt g,t.v] W fun e w'=>bi g D vs vt W n K E e w' (M.row t .sum):=by
 have hmf:=mkfn;have HP:Hid (Psz g D W n K E vs vt):=h;have HB:Hid (Below W.heap.size W (W.alloc (.cells #[.int .u8 t.k,.string t.t,.int .i64 t.a,.int .i64 t.l,.int .i64 t.c,.int .i64 t.f] 37))):=ai _ _;clear h
 dsimp only [Tv.v,M.row,bi]
 go_enter Tryz.func251,Tryz.ntmps251
 go_wp2_with fail
 refine (aB g W.heap.size (W.alloc (.cells #[.int .u8 t.k,.string t.t,.int .i64 t.a,.int .i64 t.l,.int .i64 t.c,.int .i64 t.f] 37)) [⟨#[43]⟩,⟨#[45]⟩] _ 2 _ (by first|rfl|simp only [World.size_alloc]) rfl rfl (by show 2<=1000;decide) HB.out.size).mono ?_;rintro e w1 ⟨c1,rfl,hA,hb⟩;have HA1:Hid (RF g W.heap.size w1 (wdV 6 (.slice (some ⟨c1,0,none⟩) 2 2)) (.wd 6 [⟨#[43]⟩,⟨#[45]⟩])):=hA;replace HB:Hid (Below W.heap.size W w1):=HB.out.trans (hb.mono HB.out.size);clear hA hb
 go_wp2_with fail
 refine (cK (g:=g) (lo:=W.heap.size) (W:=w1) [wdV 6 (.slice (some ⟨c1,0,none⟩) 2 2),mtV g 260] 2 [.wd 6 [⟨#[43]⟩,⟨#[45]⟩],.mt .term] ⟨_,_,_,rfl⟩ (by simp) (.cons (HA1.out) (.cons (.mt .term) (.nil))) rfl HB.out.size _ (by first|rfl|simp only [World.size_alloc])).mono ?_;rintro e w2 ⟨p2,q2,rfl,hA,hb⟩;replace HA1:Hid (RF g W.heap.size w2 (wdV 6 (.slice (some ⟨c1,0,none⟩) 2 2)) (.wd 6 [⟨#[43]⟩,⟨#[45]⟩])):=RF.up HA1.out hb;have HA2:Hid (RI g W.heap.size w2 (agV g (rwV p2 q2)) (.again (.row [.wd 6 [⟨#[43]⟩,⟨#[45]⟩],.mt .term]))):=hA;replace HB:Hid (Below W.heap.size W w2):=HB.out.trans (hb.mono HB.out.size);clear hA hb
 go_wp2_with fail
 refine (aC HP.out.1 HB.out 23 [mtV g 260,agV g (rwV p2 q2)] 2 [.fl (.mt .term),.again (.row [.wd 6 [⟨#[43]⟩,⟨#[45]⟩],.mt .term])] (.cons (.fl (.mt .term)) (.cons HA2.out (.nil))) rfl (by show 2<=1000;decide) HP.out.2.1 HP.out.2.2.1 HP.out.2.2.2.1 HP.out.2.2.2.2 _ (by first|rfl|simp only [World.size_alloc])).mono ?_;rintro e w' ⟨rfl,hG⟩;have HG:Hid (aq g D vs vt W w' (n+1) ([.fl (.mt .term),.again (.row [.wd 6 [⟨#[43]⟩,⟨#[45]⟩],.mt .term])]++.lv 23 :: K) (E++[⟨1,23,tv0⟩])):=hG;clear hG
 go_wp2_with fail
 go_ret
 exact ⟨rfl,HG.out⟩
theorem xq {D:Nat->Prop}(h:Psz g D W n K E vs vt) (t:Tv):Da 260 #[pt g,t.v] W fun e w'=>bi g D vs vt W n K E e w' (M.row t .term):=by
 have hmf:=mkfn;have HP:Hid (Psz g D W n K E vs vt):=h;have HB:Hid (Below W.heap.size W (W.alloc (.cells #[.int .u8 t.k,.string t.t,.int .i64 t.a,.int .i64 t.l,.int .i64 t.c,.int .i64 t.f] 37))):=ai _ _;clear h
 dsimp only [Tv.v,M.row,bi]
 go_enter Tryz.func260,Tryz.ntmps260
 go_wp2_with fail
 refine (aB g W.heap.size (W.alloc (.cells #[.int .u8 t.k,.string t.t,.int .i64 t.a,.int .i64 t.l,.int .i64 t.c,.int .i64 t.f] 37)) [⟨#[42]⟩,⟨#[47]⟩,⟨#[37]⟩] _ 3 _ (by first|rfl|simp only [World.size_alloc]) rfl rfl (by show 3<=1000;decide) HB.out.size).mono ?_;rintro e w1 ⟨c1,rfl,hA,hb⟩;have HA1:Hid (RF g W.heap.size w1 (wdV 6 (.slice (some ⟨c1,0,none⟩) 3 3)) (.wd 6 [⟨#[42]⟩,⟨#[47]⟩,⟨#[37]⟩])):=hA;replace HB:Hid (Below W.heap.size W w1):=HB.out.trans (hb.mono HB.out.size);clear hA hb
 go_wp2_with fail
 refine (cK (g:=g) (lo:=W.heap.size) (W:=w1) [wdV 6 (.slice (some ⟨c1,0,none⟩) 3 3),mtV g 264] 2 [.wd 6 [⟨#[42]⟩,⟨#[47]⟩,⟨#[37]⟩],.mt .factor] ⟨_,_,_,rfl⟩ (by simp) (.cons (HA1.out) (.cons (.mt .factor) (.nil))) rfl HB.out.size _ (by first|rfl|simp only [World.size_alloc])).mono ?_;rintro e w2 ⟨p2,q2,rfl,hA,hb⟩;replace HA1:Hid (RF g W.heap.size w2 (wdV 6 (.slice (some ⟨c1,0,none⟩) 3 3)) (.wd 6 [⟨#[42]⟩,⟨#[47]⟩,⟨#[37]⟩])):=RF.up HA1.out hb;have HA2:Hid (RI g W.heap.size w2 (agV g (rwV p2 q2)) (.again (.row [.wd 6 [⟨#[42]⟩,⟨#[47]⟩,⟨#[37]⟩],.mt .factor]))):=hA;replace HB:Hid (Below W.heap.size W w2):=HB.out.trans (hb.mono HB.out.size);clear hA hb
 go_wp2_with fail
 refine (aC HP.out.1 HB.out 24 [mtV g 264,agV g (rwV p2 q2)] 2 [.fl (.mt .factor),.again (.row [.wd 6 [⟨#[42]⟩,⟨#[47]⟩,⟨#[37]⟩],.mt .factor])] (.cons (.fl (.mt .factor)) (.cons HA2.out (.nil))) rfl (by show 2<=1000;decide) HP.out.2.1 HP.out.2.2.1 HP.out.2.2.2.1 HP.out.2.2.2.2 _ (by first|rfl|simp only [World.size_alloc])).mono ?_;rintro e w' ⟨rfl,hG⟩;have HG:Hid (aq g D vs vt W w' (n+1) ([.fl (.mt .factor),.again (.row [.wd 6 [⟨#[42]⟩,⟨#[47]⟩,⟨#[37]⟩],.mt .factor])]++.lv 24 :: K) (E++[⟨1,24,tv0⟩])):=hG;clear hG
 go_wp2_with fail
 go_ret
 exact ⟨rfl,HG.out⟩
theorem sF {D:Nat->Prop}(h:Psz g D W n K E vs vt) (t:Tv):Da 225 #[pt g,t.v] W fun e w'=>bi g D vs vt W n K E e w' (M.row t .object):=by
 have hmf:=mkfn;have HP:Hid (Psz g D W n K E vs vt):=h;have HB:Hid (Db W (W.alloc (.cells #[.int .u8 t.k,.string t.t,.int .i64 t.a,.int .i64 t.l,.int .i64 t.c,.int .i64 t.f] 37))):=ai _ _;clear h
 dsimp only [Tv.v,M.row,bi]
 go_enter Tryz.func225,Tryz.ntmps225
 go_wp2_with fail
 refine (aC HP.out.1 HB.out 28 [nmV,agV g (mtV g 241)] 2 [.fl (.nm),.again (.fn .detail)] (.cons (.fl (.nm)) (.cons (.again (.fn .detail)) (.nil))) rfl (by show 2<=1000;decide) HP.out.2.1 HP.out.2.2.1 HP.out.2.2.2.1 HP.out.2.2.2.2 _ (by first|rfl|simp only [World.size_alloc])).mono ?_;rintro e w' ⟨rfl,hG⟩;have HG:Hid (aq g D vs vt W w' (n+1) ([.fl (.nm),.again (.fn .detail)]++.lv 28 :: K) (E++[⟨1,28,tv0⟩])):=hG;clear hG
 go_wp2_with fail
 go_ret
 exact ⟨rfl,HG.out⟩
theorem vP {D:Nat->Prop}(h:Psz g D W n K E vs vt) (t:Tv):Da 253 #[pt g,t.v] W fun e w'=>bi g D vs vt W n K E e w' (M.row t .index):=by
 have hmf:=mkfn;have HP:Hid (Psz g D W n K E vs vt):=h;have HB:Hid (Db W (W.alloc (.cells #[.int .u8 t.k,.string t.t,.int .i64 t.a,.int .i64 t.l,.int .i64 t.c,.int .i64 t.f] 37))):=ai _ _;clear h
 dsimp only [Tv.v,M.row,bi]
 go_enter Tryz.func253,Tryz.ntmps253
 go_wp2_with fail
 refine (aB g W.heap.size (W.alloc (.cells #[.int .u8 t.k,.string t.t,.int .i64 t.a,.int .i64 t.l,.int .i64 t.c,.int .i64 t.f] 37)) [⟨#[91]⟩] _ 1 _ (by first|rfl|simp only [World.size_alloc]) rfl rfl (by show 1<=1000;decide) HB.out.size).mono ?_;rintro e w1 ⟨c1,rfl,hA,hb⟩;have HA1:Hid (RF g W.heap.size w1 (wdV 6 (.slice (some ⟨c1,0,none⟩) 1 1)) (.wd 6 [⟨#[91]⟩])):=hA;replace HB:Hid (Db W w1):=HB.out.trans (hb.mono HB.out.size);clear hA hb
 go_wp2_with fail
 refine (aB g W.heap.size w1 [⟨#[93]⟩] _ 1 _ (by first|rfl|simp only [World.size_alloc]) rfl rfl (by show 1<=1000;decide) HB.out.size).mono ?_;rintro e w2 ⟨c2,rfl,hA,hb⟩;replace HA1:Hid (RF g W.heap.size w2 (wdV 6 (.slice (some ⟨c1,0,none⟩) 1 1)) (.wd 6 [⟨#[91]⟩])):=RF.up HA1.out hb;have HA2:Hid (RF g W.heap.size w2 (wdV 6 (.slice (some ⟨c2,0,none⟩) 1 1)) (.wd 6 [⟨#[93]⟩])):=hA;replace HB:Hid (Db W w2):=HB.out.trans (hb.mono HB.out.size);clear hA hb
 go_wp2_with fail
 refine (aC HP.out.1 HB.out 29 [wdV 6 (.slice (some ⟨c1,0,none⟩) 1 1),mtV g 261,wdV 6 (.slice (some ⟨c2,0,none⟩) 1 1)] 3 [.fl (.wd 6 [⟨#[91]⟩]),.fl (.mt .list),.fl (.wd 6 [⟨#[93]⟩])] (.cons (.fl HA1.out) (.cons (.fl (.mt .list)) (.cons (.fl HA2.out) (.nil)))) rfl (by show 3<=1000;decide) HP.out.2.1 HP.out.2.2.1 HP.out.2.2.2.1 HP.out.2.2.2.2 _ (by first|rfl|simp only [World.size_alloc])).mono ?_;rintro e w' ⟨rfl,hG⟩;have HG:Hid (aq g D vs vt W w' (n+1) ([.fl (.wd 6 [⟨#[91]⟩]),.fl (.mt .list),.fl (.wd 6 [⟨#[93]⟩])]++.lv 29 :: K) (E++[⟨1,29,tv0⟩])):=hG;clear hG
 go_wp2_with fail
 go_ret
 exact ⟨rfl,HG.out⟩
theorem lm {D:Nat->Prop}(h:Psz g D W n K E vs vt) (t:Tv):Da 254 #[pt g,t.v] W fun e w'=>bi g D vs vt W n K E e w' (M.row t .selection):=by
 have hmf:=mkfn;have HP:Hid (Psz g D W n K E vs vt):=h;have HB:Hid (Db W (W.alloc (.cells #[.int .u8 t.k,.string t.t,.int .i64 t.a,.int .i64 t.l,.int .i64 t.c,.int .i64 t.f] 37))):=ai _ _;clear h
 dsimp only [Tv.v,M.row,bi]
 go_enter Tryz.func254,Tryz.ntmps254
 go_wp2_with fail
 refine (aB g W.heap.size (W.alloc (.cells #[.int .u8 t.k,.string t.t,.int .i64 t.a,.int .i64 t.l,.int .i64 t.c,.int .i64 t.f] 37)) [⟨#[46]⟩] _ 1 _ (by first|rfl|simp only [World.size_alloc]) rfl rfl (by show 1<=1000;decide) HB.out.size).mono ?_;rintro e w1 ⟨c1,rfl,hA,hb⟩;have HA1:Hid (RF g W.heap.size w1 (wdV 6 (.slice (some ⟨c1,0,none⟩) 1 1)) (.wd 6 [⟨#[46]⟩])):=hA;replace HB:Hid (Db W w1):=HB.out.trans (hb.mono HB.out.size);clear hA hb
 go_wp2_with fail
 refine (aC HP.out.1 HB.out 30 [wdV 6 (.slice (some ⟨c1,0,none⟩) 1 1),nmV] 2 [.fl (.wd 6 [⟨#[46]⟩]),.fl (.nm)] (.cons (.fl HA1.out) (.cons (.fl (.nm)) (.nil))) rfl (by show 2<=1000;decide) HP.out.2.1 HP.out.2.2.1 HP.out.2.2.2.1 HP.out.2.2.2.2 _ (by first|rfl|simp only [World.size_alloc])).mono ?_;rintro e w' ⟨rfl,hG⟩;have HG:Hid (aq g D vs vt W w' (n+1) ([.fl (.wd 6 [⟨#[46]⟩]),.fl (.nm)]++.lv 30 :: K) (E++[⟨1,30,tv0⟩])):=hG;clear hG
 go_wp2_with fail
 go_ret
 exact ⟨rfl,HG.out⟩
theorem zy {D:Nat->Prop}(h:Psz g D W n K E vs vt) (t:Tv):Da 255 #[pt g,t.v] W fun e w'=>bi g D vs vt W n K E e w' (M.row t .args):=by
 have hmf:=mkfn;have HP:Hid (Psz g D W n K E vs vt):=h;have HB:Hid (Below W.heap.size W (W.alloc (.cells #[.int .u8 t.k,.string t.t,.int .i64 t.a,.int .i64 t.l,.int .i64 t.c,.int .i64 t.f] 37))):=ai _ _;clear h
 dsimp only [Tv.v,M.row,bi]
 go_enter Tryz.func255,Tryz.ntmps255
 go_wp2_with fail
 refine (aB g W.heap.size (W.alloc (.cells #[.int .u8 t.k,.string t.t,.int .i64 t.a,.int .i64 t.l,.int .i64 t.c,.int .i64 t.f] 37)) [⟨#[40]⟩] _ 1 _ (by first|rfl|simp only [World.size_alloc]) rfl rfl (by show 1<=1000;decide) HB.out.size).mono ?_;rintro e w1 ⟨c1,rfl,hA,hb⟩;have HA1:Hid (RF g W.heap.size w1 (wdV 6 (.slice (some ⟨c1,0,none⟩) 1 1)) (.wd 6 [⟨#[40]⟩])):=hA;replace HB:Hid (Below W.heap.size W w1):=HB.out.trans (hb.mono HB.out.size);clear hA hb
 go_wp2_with fail
 refine (kM (g:=g) (lo:=W.heap.size) w1 .list _ rfl HB.out.size).mono ?_;rintro e w2 ⟨p2,rfl,hA,hb⟩;replace HA1:Hid (RF g W.heap.size w2 (wdV 6 (.slice (some ⟨c1,0,none⟩) 1 1)) (.wd 6 [⟨#[40]⟩])):=RF.up HA1.out hb;have HA2:Hid (RI g W.heap.size w2 (ocV g (exV p2)) (.once (.ex .list))):=hA;replace HB:Hid (Below W.heap.size W w2):=HB.out.trans (hb.mono HB.out.size);clear hA hb
 go_wp2_with fail
 refine (aB g W.heap.size w2 [⟨#[41]⟩] _ 1 _ (by first|rfl|simp only [World.size_alloc]) rfl rfl (by show 1<=1000;decide) HB.out.size).mono ?_;rintro e w3 ⟨c3,rfl,hA,hb⟩;replace HA1:Hid (RF g W.heap.size w3 (wdV 6 (.slice (some ⟨c1,0,none⟩) 1 1)) (.wd 6 [⟨#[40]⟩])):=RF.up HA1.out hb;replace HA2:Hid (RI g W.heap.size w3 (ocV g (exV p2)) (.once (.ex .list))):=RI.up HA2.out hb;have HA3:Hid (RF g W.heap.size w3 (wdV 6 (.slice (some ⟨c3,0,none⟩) 1 1)) (.wd 6 [⟨#[41]⟩])):=hA;replace HB:Hid (Below W.heap.size W w3):=HB.out.trans (hb.mono HB.out.size);clear hA hb
 go_wp2_with fail
 refine (aC HP.out.1 HB.out 31 [wdV 6 (.slice (some ⟨c1,0,none⟩) 1 1),ocV g (exV p2),wdV 6 (.slice (some ⟨c3,0,none⟩) 1 1)] 3 [.fl (.wd 6 [⟨#[40]⟩]),.once (.ex .list),.fl (.wd 6 [⟨#[41]⟩])] (.cons (.fl HA1.out) (.cons HA2.out (.cons (.fl HA3.out) (.nil)))) rfl (by show 3<=1000;decide) HP.out.2.1 HP.out.2.2.1 HP.out.2.2.2.1 HP.out.2.2.2.2 _ (by first|rfl|simp only [World.size_alloc])).mono ?_;rintro e w' ⟨rfl,hG⟩;have HG:Hid (aq g D vs vt W w' (n+1) ([.fl (.wd 6 [⟨#[40]⟩]),.once (.ex .list),.fl (.wd 6 [⟨#[41]⟩])]++.lv 31 :: K) (E++[⟨1,31,tv0⟩])):=hG;clear hG
 go_wp2_with fail
 go_ret
 exact ⟨rfl,HG.out⟩
theorem yB {D:Nat->Prop}(h:Psz g D W n K E vs vt) (t:Tv):Da 261 #[pt g,t.v] W fun e w'=>bi g D vs vt W n K E e w' (M.row t .list):=by
 have hmf:=mkfn;have HP:Hid (Psz g D W n K E vs vt):=h;have HB:Hid (Below W.heap.size W (W.alloc (.cells #[.int .u8 t.k,.string t.t,.int .i64 t.a,.int .i64 t.l,.int .i64 t.c,.int .i64 t.f] 37))):=ai _ _;clear h
 dsimp only [Tv.v,M.row,bi]
 go_enter Tryz.func261,Tryz.ntmps261
 go_wp2_with fail
 refine (aB g W.heap.size (W.alloc (.cells #[.int .u8 t.k,.string t.t,.int .i64 t.a,.int .i64 t.l,.int .i64 t.c,.int .i64 t.f] 37)) [⟨#[44]⟩] _ 1 _ (by first|rfl|simp only [World.size_alloc]) rfl rfl (by show 1<=1000;decide) HB.out.size).mono ?_;rintro e w1 ⟨c1,rfl,hA,hb⟩;have HA1:Hid (RF g W.heap.size w1 (wdV 6 (.slice (some ⟨c1,0,none⟩) 1 1)) (.wd 6 [⟨#[44]⟩])):=hA;replace HB:Hid (Below W.heap.size W w1):=HB.out.trans (hb.mono HB.out.size);clear hA hb
 go_wp2_with fail
 refine (cK (g:=g) (lo:=W.heap.size) (W:=w1) [wdV 6 (.slice (some ⟨c1,0,none⟩) 1 1),mtV g 220] 2 [.wd 6 [⟨#[44]⟩],.mt .expr] ⟨_,_,_,rfl⟩ (by simp) (.cons (HA1.out) (.cons (.mt .expr) (.nil))) rfl HB.out.size _ (by first|rfl|simp only [World.size_alloc])).mono ?_;rintro e w2 ⟨p2,q2,rfl,hA,hb⟩;replace HA1:Hid (RF g W.heap.size w2 (wdV 6 (.slice (some ⟨c1,0,none⟩) 1 1)) (.wd 6 [⟨#[44]⟩])):=RF.up HA1.out hb;have HA2:Hid (RI g W.heap.size w2 (agV g (rwV p2 q2)) (.again (.row [.wd 6 [⟨#[44]⟩],.mt .expr]))):=hA;replace HB:Hid (Below W.heap.size W w2):=HB.out.trans (hb.mono HB.out.size);clear hA hb
 go_wp2_with fail
 refine (fY HP.out.1 HB.out [mtV g 220,agV g (rwV p2 q2)] 2 [.fl (.mt .expr),.again (.row [.wd 6 [⟨#[44]⟩],.mt .expr])] (.cons (.fl (.mt .expr)) (.cons HA2.out (.nil))) rfl (by show 2<=1000;decide) HP.out.2.2.2.1 _ (by first|rfl|simp only [World.size_alloc])).mono ?_;rintro e w' ⟨rfl,hG⟩;have HG:Hid (aq g D vs vt W w' n ([.fl (.mt .expr),.again (.row [.wd 6 [⟨#[44]⟩],.mt .expr])]++K) E):=hG;clear hG
 go_wp2_with fail
 go_ret
 exact ⟨rfl,HG.out⟩
theorem lE {D:Nat->Prop}(h:Psz g D W n K E vs vt) (t:Tv):Da 191 #[pt g,t.v] W fun e w'=>bi g D vs vt W n K E e w' (M.row t .procedure):=by
 have hmf:=mkfn;have HP:Hid (Psz g D W n K E vs vt):=h;have HB:Hid (Below W.heap.size W (W.alloc (.cells #[.int .u8 t.k,.string t.t,.int .i64 t.a,.int .i64 t.l,.int .i64 t.c,.int .i64 t.f] 37))):=ai _ _;clear h
 dsimp only [Tv.v,M.row,bi]
 go_enter Tryz.func191,Tryz.ntmps191
 go_wp2_with fail
 refine (aB g W.heap.size (W.alloc (.cells #[.int .u8 t.k,.string t.t,.int .i64 t.a,.int .i64 t.l,.int .i64 t.c,.int .i64 t.f] 37)) [⟨#[58]⟩] _ 1 _ (by first|rfl|simp only [World.size_alloc]) rfl rfl (by show 1<=1000;decide) HB.out.size).mono ?_;rintro e w1 ⟨c1,rfl,hA,hb⟩;have HA1:Hid (RF g W.heap.size w1 (wdV 6 (.slice (some ⟨c1,0,none⟩) 1 1)) (.wd 6 [⟨#[58]⟩])):=hA;replace HB:Hid (Below W.heap.size W w1):=HB.out.trans (hb.mono HB.out.size);clear hA hb
 go_wp2_with fail
 refine (fG (g:=g) (lo:=W.heap.size) (W:=w1) [wdV 6 (.slice (some ⟨c1,0,none⟩) 1 1),mtV g 224] 2 [.wd 6 [⟨#[58]⟩],.mt .kind] ⟨_,_,_,rfl⟩ (by simp) (.cons (HA1.out) (.cons (.mt .kind) (.nil))) rfl HB.out.size _ (by first|rfl|simp only [World.size_alloc])).mono ?_;rintro e w2 ⟨p2,q2,rfl,hA,hb⟩;replace HA1:Hid (RF g W.heap.size w2 (wdV 6 (.slice (some ⟨c1,0,none⟩) 1 1)) (.wd 6 [⟨#[58]⟩])):=RF.up HA1.out hb;have HA2:Hid (RI g W.heap.size w2 (ocV g (rwV p2 q2)) (.once (.row [.wd 6 [⟨#[58]⟩],.mt .kind]))):=hA;replace HB:Hid (Below W.heap.size W w2):=HB.out.trans (hb.mono HB.out.size);clear hA hb
 go_wp2_with fail
 refine (bj g W.heap.size w2 [⟨#[112,114,111,99]⟩] _ 1 _ (by first|rfl|simp only [World.size_alloc]) rfl rfl (by show 1<=1000;decide) HB.out.size).mono ?_;rintro e w3 ⟨c3,rfl,hA,hb⟩;replace HA1:Hid (RF g W.heap.size w3 (wdV 6 (.slice (some ⟨c1,0,none⟩) 1 1)) (.wd 6 [⟨#[58]⟩])):=RF.up HA1.out hb;replace HA2:Hid (RI g W.heap.size w3 (ocV g (rwV p2 q2)) (.once (.row [.wd 6 [⟨#[58]⟩],.mt .kind]))):=RI.up HA2.out hb;have HA3:Hid (RF g W.heap.size w3 (wdV 2 (.slice (some ⟨c3,0,none⟩) 1 1)) (.wd 2 [⟨#[112,114,111,99]⟩])):=hA;replace HB:Hid (Below W.heap.size W w3):=HB.out.trans (hb.mono HB.out.size);clear hA hb
 go_wp2_with fail
 refine (aB g W.heap.size w3 [⟨#[59]⟩] _ 1 _ (by first|rfl|simp only [World.size_alloc]) rfl rfl (by show 1<=1000;decide) HB.out.size).mono ?_;rintro e w4 ⟨c4,rfl,hA,hb⟩;replace HA1:Hid (RF g W.heap.size w4 (wdV 6 (.slice (some ⟨c1,0,none⟩) 1 1)) (.wd 6 [⟨#[58]⟩])):=RF.up HA1.out hb;replace HA2:Hid (RI g W.heap.size w4 (ocV g (rwV p2 q2)) (.once (.row [.wd 6 [⟨#[58]⟩],.mt .kind]))):=RI.up HA2.out hb;replace HA3:Hid (RF g W.heap.size w4 (wdV 2 (.slice (some ⟨c3,0,none⟩) 1 1)) (.wd 2 [⟨#[112,114,111,99]⟩])):=RF.up HA3.out hb;have HA4:Hid (RF g W.heap.size w4 (wdV 6 (.slice (some ⟨c4,0,none⟩) 1 1)) (.wd 6 [⟨#[59]⟩])):=hA;replace HB:Hid (Below W.heap.size W w4):=HB.out.trans (hb.mono HB.out.size);clear hA hb
 go_wp2_with fail
 refine (aB g W.heap.size w4 [⟨#[59]⟩] _ 1 _ (by first|rfl|simp only [World.size_alloc]) rfl rfl (by show 1<=1000;decide) HB.out.size).mono ?_;rintro e w5 ⟨c5,rfl,hA,hb⟩;replace HA1:Hid (RF g W.heap.size w5 (wdV 6 (.slice (some ⟨c1,0,none⟩) 1 1)) (.wd 6 [⟨#[58]⟩])):=RF.up HA1.out hb;replace HA2:Hid (RI g W.heap.size w5 (ocV g (rwV p2 q2)) (.once (.row [.wd 6 [⟨#[58]⟩],.mt .kind]))):=RI.up HA2.out hb;replace HA3:Hid (RF g W.heap.size w5 (wdV 2 (.slice (some ⟨c3,0,none⟩) 1 1)) (.wd 2 [⟨#[112,114,111,99]⟩])):=RF.up HA3.out hb;replace HA4:Hid (RF g W.heap.size w5 (wdV 6 (.slice (some ⟨c4,0,none⟩) 1 1)) (.wd 6 [⟨#[59]⟩])):=RF.up HA4.out hb;have HA5:Hid (RF g W.heap.size w5 (wdV 6 (.slice (some ⟨c5,0,none⟩) 1 1)) (.wd 6 [⟨#[59]⟩])):=hA;replace HB:Hid (Below W.heap.size W w5):=HB.out.trans (hb.mono HB.out.size);clear hA hb
 go_wp2_with fail
 refine (aC HP.out.1 HB.out 5 [wdV 2 (.slice (some ⟨c3,0,none⟩) 1 1),nmV,ocV g (mtV g 221),ocV g (rwV p2 q2),wdV 6 (.slice (some ⟨c4,0,none⟩) 1 1),mtV g 98,wdV 6 (.slice (some ⟨c5,0,none⟩) 1 1)] 7 [.fl (.wd 2 [⟨#[112,114,111,99]⟩]),.fl (.nm),.once (.fn .bracket),.once (.row [.wd 6 [⟨#[58]⟩],.mt .kind]),.fl (.wd 6 [⟨#[59]⟩]),.fl (.mt .block),.fl (.wd 6 [⟨#[59]⟩])] (.cons (.fl HA3.out) (.cons (.fl (.nm)) (.cons (.once (.fn .bracket)) (.cons HA2.out (.cons (.fl HA4.out) (.cons (.fl (.mt .block)) (.cons (.fl HA5.out) (.nil)))))))) rfl (by show 7<=1000;decide) HP.out.2.1 HP.out.2.2.1 HP.out.2.2.2.1 HP.out.2.2.2.2 _ (by first|rfl|simp only [World.size_alloc])).mono ?_;rintro e w' ⟨rfl,hG⟩;have HG:Hid (aq g D vs vt W w' (n+1) ([.fl (.wd 2 [⟨#[112,114,111,99]⟩]),.fl (.nm),.once (.fn .bracket),.once (.row [.wd 6 [⟨#[58]⟩],.mt .kind]),.fl (.wd 6 [⟨#[59]⟩]),.fl (.mt .block),.fl (.wd 6 [⟨#[59]⟩])]++.lv 5 :: K) (E++[⟨1,5,tv0⟩])):=hG;clear hG
 go_wp2_with fail
 go_ret
 exact ⟨rfl,HG.out⟩
end Go.Proofs.YtpdlohfdjiaegaaGreatDoor
