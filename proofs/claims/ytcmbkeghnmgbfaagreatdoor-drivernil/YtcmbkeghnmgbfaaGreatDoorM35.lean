import Derived.Test.YtcmbkeghnmgbfaaGreatDoorM34
set_option linter.all false
set_option maxHeartbeats 1000000
namespace Go.Proofs.YtcmbkeghnmgbfaaGreatDoor
open Go.Proofs.Tryz
open Go.RowKit
variable {g:Nat}{W:World}{n:Int}{K:List It}{E:List Ev}{vs vt:Value}
theorem Cl {D:Nat->Prop}(h:eG g D W n K E vs vt) (t:Tv):Kb 96 #[pt g,t.v] W fun e w'=>bq g D vs vt W n K E e w' (M.row t .block):=by
 have aa:=mkfn;have H:=ku h;have u:Hid (Kc W (W.alloc (.cells #[.int .u8 t.k,.string t.t,.int .i64 t.a,.int .i64 t.l,.int .i64 t.c,.int .i64 t.f] 76))):=aq _ _;clear h
 dsimp only[Tv.v,M.row,bq]
 go_enter func96,ntmps96
 go_wp2_with fail
 refine(br g W.heap.size (W.alloc (.cells #[.int .u8 t.k,.string t.t,.int .i64 t.a,.int .i64 t.l,.int .i64 t.c,.int .i64 t.f] 76)) [⟨#[98,101,103,105,110]⟩] _ 1 _ (by first|rfl|simp only[Eq]) rfl rfl (by show 1<=1000;decide) u.out.size).mono ?_;rintro e J⟨c1,rfl,I,G⟩;have F:=ku I;replace u:Hid (Kc W J):=u.out.trans (G.mono u.out.size);clear I G
 go_wp2_with fail
 refine(br g W.heap.size J [⟨#[101,110,100]⟩] _ 1 _ (by first|rfl|simp only[Eq]) rfl rfl (by show 1<=1000;decide) u.out.size).mono ?_;rintro e w2⟨c2,rfl,I,G⟩;replace F:Hid (RF g W.heap.size w2 (aF 2 (.slice (some ⟨c1,0,none⟩) 1 1)) (.wd 2 [⟨#[98,101,103,105,110]⟩])):=RF.up F.out G;have O:=ku I;replace u:Hid (Kc W w2):=u.out.trans (G.mono u.out.size);clear I G
 go_wp2_with fail
 refine(aJ H.out.1 u.out 2 [io g (cO g 139),aF 2 (.slice (some ⟨c1,0,none⟩) 1 1),cO g 141,aF 2 (.slice (some ⟨c2,0,none⟩) 1 1)] 4 [.again (.fn .declaration),.fl (.wd 2 [⟨#[98,101,103,105,110]⟩]),.fl (.mt .body),.fl (.wd 2 [⟨#[101,110,100]⟩])] (.cons (.again (.fn .declaration)) (.cons (.fl F.out) (.cons (.fl (.mt .body)) (.cons (.fl O.out) (.nil))))) rfl (by show 4<=1000;decide) H.out.2.1 H.out.2.2.1 H.out.2.2.2.1 H.out.2.2.2.2 _ (by first|rfl|simp only[Eq])).mono ?_;rintro e w'⟨rfl,hG⟩;have HG:=ku hG;clear hG
 go_wp2_with fail
 go_ret
 exact⟨rfl,HG.out⟩
theorem nM {D:Nat->Prop}(h:eG g D W n K E vs vt) (t:Tv):Kb 176 #[pt g,t.v] W fun e w'=>bq g D vs vt W n K E e w' (M.row t .variables):=by
 have aa:=mkfn;have H:=ku h;have u:Hid (Kc W (W.alloc (.cells #[.int .u8 t.k,.string t.t,.int .i64 t.a,.int .i64 t.l,.int .i64 t.c,.int .i64 t.f] 76))):=aq _ _;clear h
 dsimp only[Tv.v,M.row,bq]
 go_enter func176,ntmps176
 go_wp2_with fail
 refine(br g W.heap.size (W.alloc (.cells #[.int .u8 t.k,.string t.t,.int .i64 t.a,.int .i64 t.l,.int .i64 t.c,.int .i64 t.f] 76)) [⟨#[118,97,114]⟩] _ 1 _ (by first|rfl|simp only[Eq]) rfl rfl (by show 1<=1000;decide) u.out.size).mono ?_;rintro e J⟨c1,rfl,I,G⟩;have F:=ku I;replace u:Hid (Kc W J):=u.out.trans (G.mono u.out.size);clear I G
 go_wp2_with fail
 refine(aI g W.heap.size J [⟨#[59]⟩] _ 1 _ (by first|rfl|simp only[Eq]) rfl rfl (by show 1<=1000;decide) u.out.size).mono ?_;rintro e w2⟨c2,rfl,I,G⟩;replace F:Hid (RF g W.heap.size w2 (aF 2 (.slice (some ⟨c1,0,none⟩) 1 1)) (.wd 2 [⟨#[118,97,114]⟩])):=RF.up F.out G;have O:=ku I;replace u:Hid (Kc W w2):=u.out.trans (G.mono u.out.size);clear I G
 go_wp2_with fail
 refine(aJ H.out.1 u.out 3 [aF 2 (.slice (some ⟨c1,0,none⟩) 1 1),cO g 234,aF 6 (.slice (some ⟨c2,0,none⟩) 1 1)] 3 [.fl (.wd 2 [⟨#[118,97,114]⟩]),.fl (.mt .typed),.fl (.wd 6 [⟨#[59]⟩])] (.cons (.fl F.out) (.cons (.fl (.mt .typed)) (.cons (.fl O.out) (.nil)))) rfl (by show 3<=1000;decide) H.out.2.1 H.out.2.2.1 H.out.2.2.2.1 H.out.2.2.2.2 _ (by first|rfl|simp only[Eq])).mono ?_;rintro e w'⟨rfl,hG⟩;have HG:=ku hG;clear hG
 go_wp2_with fail
 go_ret
 exact⟨rfl,HG.out⟩
theorem o6 {D:Nat->Prop}(h:eG g D W n K E vs vt) (t:Tv):Kb 177 #[pt g,t.v] W fun e w'=>bq g D vs vt W n K E e w' (M.row t .constants):=by
 have ab:=mkfn;have J:=ku h;have u:Hid (Kc W (W.alloc (.cells #[.int .u8 t.k,.string t.t,.int .i64 t.a,.int .i64 t.l,.int .i64 t.c,.int .i64 t.f] 76))):=aq _ _;clear h
 dsimp only[Tv.v,M.row,bq]
 go_enter func177,ntmps177
 go_wp2_with fail
 refine(br g W.heap.size (W.alloc (.cells #[.int .u8 t.k,.string t.t,.int .i64 t.a,.int .i64 t.l,.int .i64 t.c,.int .i64 t.f] 76)) [⟨#[99,111,110,115,116]⟩] _ 1 _ (by first|rfl|simp only[Eq]) rfl rfl (by show 1<=1000;decide) u.out.size).mono ?_;rintro e w1⟨c1,rfl,H,F⟩;have G:=ku H;replace u:Hid (Kc W w1):=u.out.trans (F.mono u.out.size);clear H F
 go_wp2_with fail
 refine(aI g W.heap.size w1 [⟨#[61]⟩] _ 1 _ (by first|rfl|simp only[Eq]) rfl rfl (by show 1<=1000;decide) u.out.size).mono ?_;rintro e w2⟨c2,rfl,H,F⟩;replace G:Hid (RF g W.heap.size w2 (aF 2 (.slice (some ⟨c1,0,none⟩) 1 1)) (.wd 2 [⟨#[99,111,110,115,116]⟩])):=RF.up G.out F;have I:=ku H;replace u:Hid (Kc W w2):=u.out.trans (F.mono u.out.size);clear H F
 go_wp2_with fail
 refine(aI g W.heap.size w2 [⟨#[59]⟩] _ 1 _ (by first|rfl|simp only[Eq]) rfl rfl (by show 1<=1000;decide) u.out.size).mono ?_;rintro e O⟨c3,rfl,H,F⟩;replace G:Hid (RF g W.heap.size O (aF 2 (.slice (some ⟨c1,0,none⟩) 1 1)) (.wd 2 [⟨#[99,111,110,115,116]⟩])):=RF.up G.out F;replace I:Hid (RF g W.heap.size O (aF 6 (.slice (some ⟨c2,0,none⟩) 1 1)) (.wd 6 [⟨#[61]⟩])):=RF.up I.out F;have aa:=ku H;replace u:Hid (Kc W O):=u.out.trans (F.mono u.out.size);clear H F
 go_wp2_with fail
 refine(aJ J.out.1 u.out 4 [aF 2 (.slice (some ⟨c1,0,none⟩) 1 1),CF,aF 6 (.slice (some ⟨c2,0,none⟩) 1 1),cO g 235,aF 6 (.slice (some ⟨c3,0,none⟩) 1 1)] 5 [.fl (.wd 2 [⟨#[99,111,110,115,116]⟩]),.fl (.nm),.fl (.wd 6 [⟨#[61]⟩]),.fl (.mt .expr),.fl (.wd 6 [⟨#[59]⟩])] (.cons (.fl G.out) (.cons (.fl (.nm)) (.cons (.fl I.out) (.cons (.fl (.mt .expr)) (.cons (.fl aa.out) (.nil)))))) rfl (by show 5<=1000;decide) J.out.2.1 J.out.2.2.1 J.out.2.2.2.1 J.out.2.2.2.2 _ (by first|rfl|simp only[Eq])).mono ?_;rintro e w'⟨rfl,hG⟩;have HG:=ku hG;clear hG
 go_wp2_with fail
 go_ret
 exact⟨rfl,HG.out⟩
theorem xt {D:Nat->Prop}(h:eG g D W n K E vs vt) (t:Tv):Kb 278 #[pt g,t.v] W fun e w'=>bq g D vs vt W n K E e w' (M.row t .params):=by
 have ab:=mkfn;have O:=ku h;have u:Hid (Below W.heap.size W (W.alloc (.cells #[.int .u8 t.k,.string t.t,.int .i64 t.a,.int .i64 t.l,.int .i64 t.c,.int .i64 t.f] 76))):=aq _ _;clear h
 dsimp only[Tv.v,M.row,bq]
 go_enter func278,ntmps278
 go_wp2_with fail
 refine(aI g W.heap.size (W.alloc (.cells #[.int .u8 t.k,.string t.t,.int .i64 t.a,.int .i64 t.l,.int .i64 t.c,.int .i64 t.f] 76)) [⟨#[40]⟩] _ 1 _ (by first|rfl|simp only[Eq]) rfl rfl (by show 1<=1000;decide) u.out.size).mono ?_;rintro e w1⟨c1,rfl,H,F⟩;have G:=ku H;replace u:Hid (Below W.heap.size W w1):=u.out.trans (F.mono u.out.size);clear H F
 go_wp2_with fail
 refine(aI g W.heap.size w1 [⟨#[59]⟩] _ 1 _ (by first|rfl|simp only[Eq]) rfl rfl (by show 1<=1000;decide) u.out.size).mono ?_;rintro e w2⟨c2,rfl,H,F⟩;replace G:Hid (RF g W.heap.size w2 (aF 6 (.slice (some ⟨c1,0,none⟩) 1 1)) (.wd 6 [⟨#[40]⟩])):=RF.up G.out F;have I:=ku H;replace u:Hid (Below W.heap.size W w2):=u.out.trans (F.mono u.out.size);clear H F
 go_wp2_with fail
 refine(cR (g:=g) (lo:=W.heap.size) (W:=w2) [aF 6 (.slice (some ⟨c2,0,none⟩) 1 1),cO g 297] 2 [.wd 6 [⟨#[59]⟩],.mt .param] ⟨_,_,_,rfl⟩ (by simp) (.cons (I.out) (.cons (.mt .param) (.nil))) rfl u.out.size _ (by first|rfl|simp only[Eq])).mono ?_;rintro e w3⟨p3,q3,rfl,H,F⟩;replace G:Hid (RF g W.heap.size w3 (aF 6 (.slice (some ⟨c1,0,none⟩) 1 1)) (.wd 6 [⟨#[40]⟩])):=RF.up G.out F;replace I:Hid (RF g W.heap.size w3 (aF 6 (.slice (some ⟨c2,0,none⟩) 1 1)) (.wd 6 [⟨#[59]⟩])):=RF.up I.out F;have J:=ku H;replace u:Hid (Below W.heap.size W w3):=u.out.trans (F.mono u.out.size);clear H F
 go_wp2_with fail
 refine(aI g W.heap.size w3 [⟨#[41]⟩] _ 1 _ (by first|rfl|simp only[Eq]) rfl rfl (by show 1<=1000;decide) u.out.size).mono ?_;rintro e w4⟨c4,rfl,H,F⟩;replace G:Hid (RF g W.heap.size w4 (aF 6 (.slice (some ⟨c1,0,none⟩) 1 1)) (.wd 6 [⟨#[40]⟩])):=RF.up G.out F;replace I:Hid (RF g W.heap.size w4 (aF 6 (.slice (some ⟨c2,0,none⟩) 1 1)) (.wd 6 [⟨#[59]⟩])):=RF.up I.out F;replace J:Hid (RI g W.heap.size w4 (io g (eS p3 q3)) (.again (.row [.wd 6 [⟨#[59]⟩],.mt .param]))):=RI.up J.out F;have aa:=ku H;replace u:Hid (Below W.heap.size W w4):=u.out.trans (F.mono u.out.size);clear H F
 go_wp2_with fail
 refine(aJ O.out.1 u.out 6 [aF 6 (.slice (some ⟨c1,0,none⟩) 1 1),cO g 297,io g (eS p3 q3),aF 6 (.slice (some ⟨c4,0,none⟩) 1 1)] 4 [.fl (.wd 6 [⟨#[40]⟩]),.fl (.mt .param),.again (.row [.wd 6 [⟨#[59]⟩],.mt .param]),.fl (.wd 6 [⟨#[41]⟩])] (.cons (.fl G.out) (.cons (.fl (.mt .param)) (.cons J.out (.cons (.fl aa.out) (.nil))))) rfl (by show 4<=1000;decide) O.out.2.1 O.out.2.2.1 O.out.2.2.2.1 O.out.2.2.2.2 _ (by first|rfl|simp only[Eq])).mono ?_;rintro e w'⟨rfl,hG⟩;have HG:=ku hG;clear hG
 go_wp2_with fail
 go_ret
 exact⟨rfl,HG.out⟩
theorem AA {D:Nat->Prop}(h:eG g D W n K E vs vt) (t:Tv):Kb 297 #[pt g,t.v] W fun e w'=>bq g D vs vt W n K E e w' (M.row t .param):=by
 have I:=mkfn;have u:=ku h;have G:Hid (Kc W (W.alloc (.cells #[.int .u8 t.k,.string t.t,.int .i64 t.a,.int .i64 t.l,.int .i64 t.c,.int .i64 t.f] 76))):=aq _ _;clear h
 dsimp only[Tv.v,M.row,bq]
 go_enter func297,ntmps297
 go_wp2_with fail
 refine(aJ u.out.1 G.out 7 [cO g 234] 1 [.fl (.mt .typed)] (.cons (.fl (.mt .typed)) (.nil)) rfl (by show 1<=1000;decide) u.out.2.1 u.out.2.2.1 u.out.2.2.2.1 u.out.2.2.2.2 _ (by first|rfl|simp only[Eq])).mono ?_;rintro e w'⟨rfl,F⟩;have H:=ku F;clear F
 go_wp2_with fail
 go_ret
 exact⟨rfl,H.out⟩
theorem zh {D:Nat->Prop}(h:eG g D W n K E vs vt) (t:Tv):Kb 234 #[pt g,t.v] W fun e w'=>bq g D vs vt W n K E e w' (M.row t .typed):=by
 have ab:=mkfn;have HP:=ku h;have u:Hid (Below W.heap.size W (W.alloc (.cells #[.int .u8 t.k,.string t.t,.int .i64 t.a,.int .i64 t.l,.int .i64 t.c,.int .i64 t.f] 76))):=aq _ _;clear h
 dsimp only[Tv.v,M.row,bq]
 go_enter func234,ntmps234
 go_wp2_with fail
 refine(aI g W.heap.size (W.alloc (.cells #[.int .u8 t.k,.string t.t,.int .i64 t.a,.int .i64 t.l,.int .i64 t.c,.int .i64 t.f] 76)) [⟨#[44]⟩] _ 1 _ (by first|rfl|simp only[Eq]) rfl rfl (by show 1<=1000;decide) u.out.size).mono ?_;rintro e w1⟨c1,rfl,H,F⟩;have G:=ku H;replace u:Hid (Below W.heap.size W w1):=u.out.trans (F.mono u.out.size);clear H F
 go_wp2_with fail
 refine(cR (g:=g) (lo:=W.heap.size) (W:=w1) [aF 6 (.slice (some ⟨c1,0,none⟩) 1 1),CF] 2 [.wd 6 [⟨#[44]⟩],.nm] ⟨_,_,_,rfl⟩ (by simp) (.cons (G.out) (.cons (.nm) (.nil))) rfl u.out.size _ (by first|rfl|simp only[Eq])).mono ?_;rintro e w2⟨O,q2,rfl,H,F⟩;replace G:Hid (RF g W.heap.size w2 (aF 6 (.slice (some ⟨c1,0,none⟩) 1 1)) (.wd 6 [⟨#[44]⟩])):=RF.up G.out F;have I:=ku H;replace u:Hid (Below W.heap.size W w2):=u.out.trans (F.mono u.out.size);clear H F
 go_wp2_with fail
 refine(aI g W.heap.size w2 [⟨#[58]⟩] _ 1 _ (by first|rfl|simp only[Eq]) rfl rfl (by show 1<=1000;decide) u.out.size).mono ?_;rintro e J⟨c3,rfl,H,F⟩;replace G:Hid (RF g W.heap.size J (aF 6 (.slice (some ⟨c1,0,none⟩) 1 1)) (.wd 6 [⟨#[44]⟩])):=RF.up G.out F;replace I:Hid (RI g W.heap.size J (io g (eS O q2)) (.again (.row [.wd 6 [⟨#[44]⟩],.nm]))):=RI.up I.out F;have aa:=ku H;replace u:Hid (Below W.heap.size W J):=u.out.trans (F.mono u.out.size);clear H F
 go_wp2_with fail
 refine(il HP.out.1 u.out [CF,io g (eS O q2),aF 6 (.slice (some ⟨c3,0,none⟩) 1 1),cO g 239] 4 [.fl (.nm),.again (.row [.wd 6 [⟨#[44]⟩],.nm]),.fl (.wd 6 [⟨#[58]⟩]),.fl (.mt .kind)] (.cons (.fl (.nm)) (.cons I.out (.cons (.fl aa.out) (.cons (.fl (.mt .kind)) (.nil))))) rfl (by show 4<=1000;decide) HP.out.2.2.2.1 _ (by first|rfl|simp only[Eq])).mono ?_;rintro e w'⟨rfl,hG⟩;have HG:=ku hG;clear hG
 go_wp2_with fail
 go_ret
 exact⟨rfl,HG.out⟩
theorem xw {D:Nat->Prop}(h:eG g D W n K E vs vt) (t:Tv):Kb 279 #[pt g,t.v] W fun e w'=>bq g D vs vt W n K E e w' (M.row t .member):=by
 have I:=mkfn;have u:=ku h;have G:Hid (Kc W (W.alloc (.cells #[.int .u8 t.k,.string t.t,.int .i64 t.a,.int .i64 t.l,.int .i64 t.c,.int .i64 t.f] 76))):=aq _ _;clear h
 dsimp only[Tv.v,M.row,bq]
 go_enter func279,ntmps279
 go_wp2_with fail
 refine(aJ u.out.1 G.out 11 [cO g 234] 1 [.fl (.mt .typed)] (.cons (.fl (.mt .typed)) (.nil)) rfl (by show 1<=1000;decide) u.out.2.1 u.out.2.2.1 u.out.2.2.2.1 u.out.2.2.2.2 _ (by first|rfl|simp only[Eq])).mono ?_;rintro e w'⟨rfl,F⟩;have H:=ku F;clear F
 go_wp2_with fail
 go_ret
 exact⟨rfl,H.out⟩
theorem Fi {D:Nat->Prop}(h:eG g D W n K E vs vt) (t:Tv):Kb 141 #[pt g,t.v] W fun e w'=>bq g D vs vt W n K E e w' (M.row t .body):=by
 have aa:=mkfn;have H:=ku h;have u:Hid (Below W.heap.size W (W.alloc (.cells #[.int .u8 t.k,.string t.t,.int .i64 t.a,.int .i64 t.l,.int .i64 t.c,.int .i64 t.f] 76))):=aq _ _;clear h
 dsimp only[Tv.v,M.row,bq]
 go_enter func141,ntmps141
 go_wp2_with fail
 refine(aI g W.heap.size (W.alloc (.cells #[.int .u8 t.k,.string t.t,.int .i64 t.a,.int .i64 t.l,.int .i64 t.c,.int .i64 t.f] 76)) [⟨#[59]⟩] _ 1 _ (by first|rfl|simp only[Eq]) rfl rfl (by show 1<=1000;decide) u.out.size).mono ?_;rintro e J⟨c1,rfl,I,G⟩;have F:=ku I;replace u:Hid (Below W.heap.size W J):=u.out.trans (G.mono u.out.size);clear I G
 go_wp2_with fail
 refine(cR (g:=g) (lo:=W.heap.size) (W:=J) [aF 6 (.slice (some ⟨c1,0,none⟩) 1 1),cO g 179] 2 [.wd 6 [⟨#[59]⟩],.mt .statement] ⟨_,_,_,rfl⟩ (by simp) (.cons (F.out) (.cons (.mt .statement) (.nil))) rfl u.out.size _ (by first|rfl|simp only[Eq])).mono ?_;rintro e w2⟨p2,q2,rfl,I,G⟩;replace F:Hid (RF g W.heap.size w2 (aF 6 (.slice (some ⟨c1,0,none⟩) 1 1)) (.wd 6 [⟨#[59]⟩])):=RF.up F.out G;have O:=ku I;replace u:Hid (Below W.heap.size W w2):=u.out.trans (G.mono u.out.size);clear I G
 go_wp2_with fail
 refine(aJ H.out.1 u.out 12 [cO g 179,io g (eS p2 q2)] 2 [.fl (.mt .statement),.again (.row [.wd 6 [⟨#[59]⟩],.mt .statement])] (.cons (.fl (.mt .statement)) (.cons O.out (.nil))) rfl (by show 2<=1000;decide) H.out.2.1 H.out.2.2.1 H.out.2.2.2.1 H.out.2.2.2.2 _ (by first|rfl|simp only[Eq])).mono ?_;rintro e w'⟨rfl,hG⟩;have HG:=ku hG;clear hG
 go_wp2_with fail
 go_ret
 exact⟨rfl,HG.out⟩
theorem EK {D:Nat->Prop}(h:eG g D W n K E vs vt) (t:Tv):Kb 235 #[pt g,t.v] W fun e w'=>bq g D vs vt W n K E e w' (M.row t .expr):=by
 have aa:=mkfn;have H:=ku h;have u:Hid (Below W.heap.size W (W.alloc (.cells #[.int .u8 t.k,.string t.t,.int .i64 t.a,.int .i64 t.l,.int .i64 t.c,.int .i64 t.f] 76))):=aq _ _;clear h
 dsimp only[Tv.v,M.row,bq]
 go_enter func235,ntmps235
 go_wp2_with fail
 refine(br g W.heap.size (W.alloc (.cells #[.int .u8 t.k,.string t.t,.int .i64 t.a,.int .i64 t.l,.int .i64 t.c,.int .i64 t.f] 76)) [⟨#[97,110,100]⟩,⟨#[111,114]⟩] _ 2 _ (by first|rfl|simp only[Eq]) rfl rfl (by show 2<=1000;decide) u.out.size).mono ?_;rintro e J⟨c1,rfl,I,G⟩;have F:=ku I;replace u:Hid (Below W.heap.size W J):=u.out.trans (G.mono u.out.size);clear I G
 go_wp2_with fail
 refine(cR (g:=g) (lo:=W.heap.size) (W:=J) [aF 2 (.slice (some ⟨c1,0,none⟩) 2 2),cO g 277] 2 [.wd 2 [⟨#[97,110,100]⟩,⟨#[111,114]⟩],.mt .rel] ⟨_,_,_,rfl⟩ (by simp) (.cons (F.out) (.cons (.mt .rel) (.nil))) rfl u.out.size _ (by first|rfl|simp only[Eq])).mono ?_;rintro e w2⟨p2,q2,rfl,I,G⟩;replace F:Hid (RF g W.heap.size w2 (aF 2 (.slice (some ⟨c1,0,none⟩) 2 2)) (.wd 2 [⟨#[97,110,100]⟩,⟨#[111,114]⟩])):=RF.up F.out G;have O:=ku I;replace u:Hid (Below W.heap.size W w2):=u.out.trans (G.mono u.out.size);clear I G
 go_wp2_with fail
 refine(aJ H.out.1 u.out 21 [cO g 277,io g (eS p2 q2)] 2 [.fl (.mt .rel),.again (.row [.wd 2 [⟨#[97,110,100]⟩,⟨#[111,114]⟩],.mt .rel])] (.cons (.fl (.mt .rel)) (.cons O.out (.nil))) rfl (by show 2<=1000;decide) H.out.2.1 H.out.2.2.1 H.out.2.2.2.1 H.out.2.2.2.2 _ (by first|rfl|simp only[Eq])).mono ?_;rintro e w'⟨rfl,hG⟩;have HG:=ku hG;clear hG
 go_wp2_with fail
 go_ret
 exact⟨rfl,HG.out⟩
theorem GH {D:Nat->Prop}(h:eG g D W n K E vs vt) (t:Tv):Kb 277 #[pt g,t.v] W fun e w'=>bq g D vs vt W n K E e w' (M.row t .rel):=by
 have aa:=mkfn;have H:=ku h;have u:Hid (Below W.heap.size W (W.alloc (.cells #[.int .u8 t.k,.string t.t,.int .i64 t.a,.int .i64 t.l,.int .i64 t.c,.int .i64 t.f] 76))):=aq _ _;clear h
 dsimp only[Tv.v,M.row,bq]
 go_enter func277,ntmps277
 go_wp2_with fail
 refine(aI g W.heap.size (W.alloc (.cells #[.int .u8 t.k,.string t.t,.int .i64 t.a,.int .i64 t.l,.int .i64 t.c,.int .i64 t.f] 76)) [⟨#[61]⟩,⟨#[35]⟩,⟨#[60]⟩,⟨#[60,61]⟩,⟨#[62]⟩,⟨#[62,61]⟩] _ 6 _ (by first|rfl|simp only[Eq]) rfl rfl (by show 6<=1000;decide) u.out.size).mono ?_;rintro e J⟨c1,rfl,I,G⟩;have F:=ku I;replace u:Hid (Below W.heap.size W J):=u.out.trans (G.mono u.out.size);clear I G
 go_wp2_with fail
 refine(gH (g:=g) (lo:=W.heap.size) (W:=J) [aF 6 (.slice (some ⟨c1,0,none⟩) 6 6),cO g 296] 2 [.wd 6 [⟨#[61]⟩,⟨#[35]⟩,⟨#[60]⟩,⟨#[60,61]⟩,⟨#[62]⟩,⟨#[62,61]⟩],.mt .sum] ⟨_,_,_,rfl⟩ (by simp) (.cons (F.out) (.cons (.mt .sum) (.nil))) rfl u.out.size _ (by first|rfl|simp only[Eq])).mono ?_;rintro e w2⟨p2,q2,rfl,I,G⟩;replace F:Hid (RF g W.heap.size w2 (aF 6 (.slice (some ⟨c1,0,none⟩) 6 6)) (.wd 6 [⟨#[61]⟩,⟨#[35]⟩,⟨#[60]⟩,⟨#[60,61]⟩,⟨#[62]⟩,⟨#[62,61]⟩])):=RF.up F.out G;have O:=ku I;replace u:Hid (Below W.heap.size W w2):=u.out.trans (G.mono u.out.size);clear I G
 go_wp2_with fail
 refine(aJ H.out.1 u.out 22 [cO g 296,km g (eS p2 q2)] 2 [.fl (.mt .sum),.once (.row [.wd 6 [⟨#[61]⟩,⟨#[35]⟩,⟨#[60]⟩,⟨#[60,61]⟩,⟨#[62]⟩,⟨#[62,61]⟩],.mt .sum])] (.cons (.fl (.mt .sum)) (.cons O.out (.nil))) rfl (by show 2<=1000;decide) H.out.2.1 H.out.2.2.1 H.out.2.2.2.1 H.out.2.2.2.2 _ (by first|rfl|simp only[Eq])).mono ?_;rintro e w'⟨rfl,hG⟩;have HG:=ku hG;clear hG
 go_wp2_with fail
 go_ret
 exact⟨rfl,HG.out⟩
theorem Gv {D:Nat->Prop}(h:eG g D W n K E vs vt) (t:Tv):Kb 296 #[pt g,t.v] W fun e w'=>bq g D vs vt W n K E e w' (M.row t .sum):=by
 have aa:=mkfn;have H:=ku h;have u:Hid (Below W.heap.size W (W.alloc (.cells #[.int .u8 t.k,.string t.t,.int .i64 t.a,.int .i64 t.l,.int .i64 t.c,.int .i64 t.f] 76))):=aq _ _;clear h
 dsimp only[Tv.v,M.row,bq]
 go_enter func296,ntmps296
 go_wp2_with fail
 refine(aI g W.heap.size (W.alloc (.cells #[.int .u8 t.k,.string t.t,.int .i64 t.a,.int .i64 t.l,.int .i64 t.c,.int .i64 t.f] 76)) [⟨#[43]⟩,⟨#[45]⟩] _ 2 _ (by first|rfl|simp only[Eq]) rfl rfl (by show 2<=1000;decide) u.out.size).mono ?_;rintro e J⟨c1,rfl,I,G⟩;have F:=ku I;replace u:Hid (Below W.heap.size W J):=u.out.trans (G.mono u.out.size);clear I G
 go_wp2_with fail
 refine(cR (g:=g) (lo:=W.heap.size) (W:=J) [aF 6 (.slice (some ⟨c1,0,none⟩) 2 2),cO g 305] 2 [.wd 6 [⟨#[43]⟩,⟨#[45]⟩],.mt .term] ⟨_,_,_,rfl⟩ (by simp) (.cons (F.out) (.cons (.mt .term) (.nil))) rfl u.out.size _ (by first|rfl|simp only[Eq])).mono ?_;rintro e w2⟨p2,q2,rfl,I,G⟩;replace F:Hid (RF g W.heap.size w2 (aF 6 (.slice (some ⟨c1,0,none⟩) 2 2)) (.wd 6 [⟨#[43]⟩,⟨#[45]⟩])):=RF.up F.out G;have O:=ku I;replace u:Hid (Below W.heap.size W w2):=u.out.trans (G.mono u.out.size);clear I G
 go_wp2_with fail
 refine(aJ H.out.1 u.out 23 [cO g 305,io g (eS p2 q2)] 2 [.fl (.mt .term),.again (.row [.wd 6 [⟨#[43]⟩,⟨#[45]⟩],.mt .term])] (.cons (.fl (.mt .term)) (.cons O.out (.nil))) rfl (by show 2<=1000;decide) H.out.2.1 H.out.2.2.1 H.out.2.2.2.1 H.out.2.2.2.2 _ (by first|rfl|simp only[Eq])).mono ?_;rintro e w'⟨rfl,hG⟩;have HG:=ku hG;clear hG
 go_wp2_with fail
 go_ret
 exact⟨rfl,HG.out⟩
theorem Dm {D:Nat->Prop}(h:eG g D W n K E vs vt) (t:Tv):Kb 305 #[pt g,t.v] W fun e w'=>bq g D vs vt W n K E e w' (M.row t .term):=by
 have aa:=mkfn;have H:=ku h;have u:Hid (Below W.heap.size W (W.alloc (.cells #[.int .u8 t.k,.string t.t,.int .i64 t.a,.int .i64 t.l,.int .i64 t.c,.int .i64 t.f] 76))):=aq _ _;clear h
 dsimp only[Tv.v,M.row,bq]
 go_enter func305,ntmps305
 go_wp2_with fail
 refine(aI g W.heap.size (W.alloc (.cells #[.int .u8 t.k,.string t.t,.int .i64 t.a,.int .i64 t.l,.int .i64 t.c,.int .i64 t.f] 76)) [⟨#[42]⟩,⟨#[47]⟩,⟨#[37]⟩] _ 3 _ (by first|rfl|simp only[Eq]) rfl rfl (by show 3<=1000;decide) u.out.size).mono ?_;rintro e J⟨c1,rfl,I,G⟩;have F:=ku I;replace u:Hid (Below W.heap.size W J):=u.out.trans (G.mono u.out.size);clear I G
 go_wp2_with fail
 refine(cR (g:=g) (lo:=W.heap.size) (W:=J) [aF 6 (.slice (some ⟨c1,0,none⟩) 3 3),cO g 309] 2 [.wd 6 [⟨#[42]⟩,⟨#[47]⟩,⟨#[37]⟩],.mt .factor] ⟨_,_,_,rfl⟩ (by simp) (.cons (F.out) (.cons (.mt .factor) (.nil))) rfl u.out.size _ (by first|rfl|simp only[Eq])).mono ?_;rintro e w2⟨p2,q2,rfl,I,G⟩;replace F:Hid (RF g W.heap.size w2 (aF 6 (.slice (some ⟨c1,0,none⟩) 3 3)) (.wd 6 [⟨#[42]⟩,⟨#[47]⟩,⟨#[37]⟩])):=RF.up F.out G;have O:=ku I;replace u:Hid (Below W.heap.size W w2):=u.out.trans (G.mono u.out.size);clear I G
 go_wp2_with fail
 refine(aJ H.out.1 u.out 24 [cO g 309,io g (eS p2 q2)] 2 [.fl (.mt .factor),.again (.row [.wd 6 [⟨#[42]⟩,⟨#[47]⟩,⟨#[37]⟩],.mt .factor])] (.cons (.fl (.mt .factor)) (.cons O.out (.nil))) rfl (by show 2<=1000;decide) H.out.2.1 H.out.2.2.1 H.out.2.2.2.1 H.out.2.2.2.2 _ (by first|rfl|simp only[Eq])).mono ?_;rintro e w'⟨rfl,hG⟩;have HG:=ku hG;clear hG
 go_wp2_with fail
 go_ret
 exact⟨rfl,HG.out⟩
theorem xv {D:Nat->Prop}(h:eG g D W n K E vs vt) (t:Tv):Kb 240 #[pt g,t.v] W fun e w'=>bq g D vs vt W n K E e w' (M.row t .object):=by
 have I:=mkfn;have u:=ku h;have G:Hid (Kc W (W.alloc (.cells #[.int .u8 t.k,.string t.t,.int .i64 t.a,.int .i64 t.l,.int .i64 t.c,.int .i64 t.f] 76))):=aq _ _;clear h
 dsimp only[Tv.v,M.row,bq]
 go_enter func240,ntmps240
 go_wp2_with fail
 refine(aJ u.out.1 G.out 28 [CF,io g (cO g 280)] 2 [.fl (.nm),.again (.fn .detail)] (.cons (.fl (.nm)) (.cons (.again (.fn .detail)) (.nil))) rfl (by show 2<=1000;decide) u.out.2.1 u.out.2.2.1 u.out.2.2.2.1 u.out.2.2.2.2 _ (by first|rfl|simp only[Eq])).mono ?_;rintro e w'⟨rfl,F⟩;have H:=ku F;clear F
 go_wp2_with fail
 go_ret
 exact⟨rfl,H.out⟩
theorem A9 {D:Nat->Prop}(h:eG g D W n K E vs vt) (t:Tv):Kb 298 #[pt g,t.v] W fun e w'=>bq g D vs vt W n K E e w' (M.row t .index):=by
 have aa:=mkfn;have H:=ku h;have u:Hid (Kc W (W.alloc (.cells #[.int .u8 t.k,.string t.t,.int .i64 t.a,.int .i64 t.l,.int .i64 t.c,.int .i64 t.f] 76))):=aq _ _;clear h
 dsimp only[Tv.v,M.row,bq]
 go_enter func298,ntmps298
 go_wp2_with fail
 refine(aI g W.heap.size (W.alloc (.cells #[.int .u8 t.k,.string t.t,.int .i64 t.a,.int .i64 t.l,.int .i64 t.c,.int .i64 t.f] 76)) [⟨#[91]⟩] _ 1 _ (by first|rfl|simp only[Eq]) rfl rfl (by show 1<=1000;decide) u.out.size).mono ?_;rintro e J⟨c1,rfl,I,G⟩;have F:=ku I;replace u:Hid (Kc W J):=u.out.trans (G.mono u.out.size);clear I G
 go_wp2_with fail
 refine(aI g W.heap.size J [⟨#[93]⟩] _ 1 _ (by first|rfl|simp only[Eq]) rfl rfl (by show 1<=1000;decide) u.out.size).mono ?_;rintro e w2⟨c2,rfl,I,G⟩;replace F:Hid (RF g W.heap.size w2 (aF 6 (.slice (some ⟨c1,0,none⟩) 1 1)) (.wd 6 [⟨#[91]⟩])):=RF.up F.out G;have O:=ku I;replace u:Hid (Kc W w2):=u.out.trans (G.mono u.out.size);clear I G
 go_wp2_with fail
 refine(aJ H.out.1 u.out 29 [aF 6 (.slice (some ⟨c1,0,none⟩) 1 1),cO g 306,aF 6 (.slice (some ⟨c2,0,none⟩) 1 1)] 3 [.fl (.wd 6 [⟨#[91]⟩]),.fl (.mt .list),.fl (.wd 6 [⟨#[93]⟩])] (.cons (.fl F.out) (.cons (.fl (.mt .list)) (.cons (.fl O.out) (.nil)))) rfl (by show 3<=1000;decide) H.out.2.1 H.out.2.2.1 H.out.2.2.2.1 H.out.2.2.2.2 _ (by first|rfl|simp only[Eq])).mono ?_;rintro e w'⟨rfl,hG⟩;have HG:=ku hG;clear hG
 go_wp2_with fail
 go_ret
 exact⟨rfl,HG.out⟩
theorem nX {D:Nat->Prop}(h:eG g D W n K E vs vt) (t:Tv):Kb 299 #[pt g,t.v] W fun e w'=>bq g D vs vt W n K E e w' (M.row t .selection):=by
 have aa:=mkfn;have F:=ku h;have u:Hid (Kc W (W.alloc (.cells #[.int .u8 t.k,.string t.t,.int .i64 t.a,.int .i64 t.l,.int .i64 t.c,.int .i64 t.f] 76))):=aq _ _;clear h
 dsimp only[Tv.v,M.row,bq]
 go_enter func299,ntmps299
 go_wp2_with fail
 refine(aI g W.heap.size (W.alloc (.cells #[.int .u8 t.k,.string t.t,.int .i64 t.a,.int .i64 t.l,.int .i64 t.c,.int .i64 t.f] 76)) [⟨#[46]⟩] _ 1 _ (by first|rfl|simp only[Eq]) rfl rfl (by show 1<=1000;decide) u.out.size).mono ?_;rintro e O⟨c1,rfl,H,J⟩;have G:=ku H;replace u:Hid (Kc W O):=u.out.trans (J.mono u.out.size);clear H J
 go_wp2_with fail
 refine(aJ F.out.1 u.out 30 [aF 6 (.slice (some ⟨c1,0,none⟩) 1 1),CF] 2 [.fl (.wd 6 [⟨#[46]⟩]),.fl (.nm)] (.cons (.fl G.out) (.cons (.fl (.nm)) (.nil))) rfl (by show 2<=1000;decide) F.out.2.1 F.out.2.2.1 F.out.2.2.2.1 F.out.2.2.2.2 _ (by first|rfl|simp only[Eq])).mono ?_;rintro e w'⟨rfl,I⟩;have HG:=ku I;clear I
 go_wp2_with fail
 go_ret
 exact⟨rfl,HG.out⟩
theorem Fv {D:Nat->Prop}(h:eG g D W n K E vs vt) (t:Tv):Kb 300 #[pt g,t.v] W fun e w'=>bq g D vs vt W n K E e w' (M.row t .args):=by
 have ab:=mkfn;have J:=ku h;have u:Hid (Below W.heap.size W (W.alloc (.cells #[.int .u8 t.k,.string t.t,.int .i64 t.a,.int .i64 t.l,.int .i64 t.c,.int .i64 t.f] 76))):=aq _ _;clear h
 dsimp only[Tv.v,M.row,bq]
 go_enter func300,ntmps300
 go_wp2_with fail
 refine(aI g W.heap.size (W.alloc (.cells #[.int .u8 t.k,.string t.t,.int .i64 t.a,.int .i64 t.l,.int .i64 t.c,.int .i64 t.f] 76)) [⟨#[40]⟩] _ 1 _ (by first|rfl|simp only[Eq]) rfl rfl (by show 1<=1000;decide) u.out.size).mono ?_;rintro e w1⟨c1,rfl,H,F⟩;have G:=ku H;replace u:Hid (Below W.heap.size W w1):=u.out.trans (F.mono u.out.size);clear H F
 go_wp2_with fail
 refine(m9 (g:=g) (lo:=W.heap.size) w1 .list _ rfl u.out.size).mono ?_;rintro e w2⟨p2,rfl,H,F⟩;replace G:Hid (RF g W.heap.size w2 (aF 6 (.slice (some ⟨c1,0,none⟩) 1 1)) (.wd 6 [⟨#[40]⟩])):=RF.up G.out F;have I:=ku H;replace u:Hid (Below W.heap.size W w2):=u.out.trans (F.mono u.out.size);clear H F
 go_wp2_with fail
 refine(aI g W.heap.size w2 [⟨#[41]⟩] _ 1 _ (by first|rfl|simp only[Eq]) rfl rfl (by show 1<=1000;decide) u.out.size).mono ?_;rintro e O⟨c3,rfl,H,F⟩;replace G:Hid (RF g W.heap.size O (aF 6 (.slice (some ⟨c1,0,none⟩) 1 1)) (.wd 6 [⟨#[40]⟩])):=RF.up G.out F;replace I:Hid (RI g W.heap.size O (km g (EL p2)) (.once (.ex .list))):=RI.up I.out F;have aa:=ku H;replace u:Hid (Below W.heap.size W O):=u.out.trans (F.mono u.out.size);clear H F
 go_wp2_with fail
 refine(aJ J.out.1 u.out 31 [aF 6 (.slice (some ⟨c1,0,none⟩) 1 1),km g (EL p2),aF 6 (.slice (some ⟨c3,0,none⟩) 1 1)] 3 [.fl (.wd 6 [⟨#[40]⟩]),.once (.ex .list),.fl (.wd 6 [⟨#[41]⟩])] (.cons (.fl G.out) (.cons I.out (.cons (.fl aa.out) (.nil)))) rfl (by show 3<=1000;decide) J.out.2.1 J.out.2.2.1 J.out.2.2.2.1 J.out.2.2.2.2 _ (by first|rfl|simp only[Eq])).mono ?_;rintro e w'⟨rfl,hG⟩;have HG:=ku hG;clear hG
 go_wp2_with fail
 go_ret
 exact⟨rfl,HG.out⟩
theorem Ei {D:Nat->Prop}(h:eG g D W n K E vs vt) (t:Tv):Kb 306 #[pt g,t.v] W fun e w'=>bq g D vs vt W n K E e w' (M.row t .list):=by
 have aa:=mkfn;have O:=ku h;have u:Hid (Below W.heap.size W (W.alloc (.cells #[.int .u8 t.k,.string t.t,.int .i64 t.a,.int .i64 t.l,.int .i64 t.c,.int .i64 t.f] 76))):=aq _ _;clear h
 dsimp only[Tv.v,M.row,bq]
 go_enter func306,ntmps306
 go_wp2_with fail
 refine(aI g W.heap.size (W.alloc (.cells #[.int .u8 t.k,.string t.t,.int .i64 t.a,.int .i64 t.l,.int .i64 t.c,.int .i64 t.f] 76)) [⟨#[44]⟩] _ 1 _ (by first|rfl|simp only[Eq]) rfl rfl (by show 1<=1000;decide) u.out.size).mono ?_;rintro e I⟨c1,rfl,H,G⟩;have F:=ku H;replace u:Hid (Below W.heap.size W I):=u.out.trans (G.mono u.out.size);clear H G
 go_wp2_with fail
 refine(cR (g:=g) (lo:=W.heap.size) (W:=I) [aF 6 (.slice (some ⟨c1,0,none⟩) 1 1),cO g 235] 2 [.wd 6 [⟨#[44]⟩],.mt .expr] ⟨_,_,_,rfl⟩ (by simp) (.cons (F.out) (.cons (.mt .expr) (.nil))) rfl u.out.size _ (by first|rfl|simp only[Eq])).mono ?_;rintro e w2⟨p2,q2,rfl,H,G⟩;replace F:Hid (RF g W.heap.size w2 (aF 6 (.slice (some ⟨c1,0,none⟩) 1 1)) (.wd 6 [⟨#[44]⟩])):=RF.up F.out G;have J:=ku H;replace u:Hid (Below W.heap.size W w2):=u.out.trans (G.mono u.out.size);clear H G
 go_wp2_with fail
 refine(il O.out.1 u.out [cO g 235,io g (eS p2 q2)] 2 [.fl (.mt .expr),.again (.row [.wd 6 [⟨#[44]⟩],.mt .expr])] (.cons (.fl (.mt .expr)) (.cons J.out (.nil))) rfl (by show 2<=1000;decide) O.out.2.2.2.1 _ (by first|rfl|simp only[Eq])).mono ?_;rintro e w'⟨rfl,hG⟩;have HG:=ku hG;clear hG
 go_wp2_with fail
 go_ret
 exact⟨rfl,HG.out⟩
theorem ol {D:Nat->Prop}(h:eG g D W n K E vs vt) (t:Tv):Kb 178 #[pt g,t.v] W fun e w'=>bq g D vs vt W n K E e w' (M.row t .procedure):=by
 have ab:=mkfn;have HP:=ku h;have F:Hid (Below W.heap.size W (W.alloc (.cells #[.int .u8 t.k,.string t.t,.int .i64 t.a,.int .i64 t.l,.int .i64 t.c,.int .i64 t.f] 76))):=aq _ _;clear h
 dsimp only[Tv.v,M.row,bq]
 go_enter func178,ntmps178
 go_wp2_with fail
 refine(aI g W.heap.size (W.alloc (.cells #[.int .u8 t.k,.string t.t,.int .i64 t.a,.int .i64 t.l,.int .i64 t.c,.int .i64 t.f] 76)) [⟨#[58]⟩] _ 1 _ (by first|rfl|simp only[Eq]) rfl rfl (by show 1<=1000;decide) F.out.size).mono ?_;rintro e w1⟨c1,rfl,I,u⟩;have G:=ku I;replace F:Hid (Below W.heap.size W w1):=F.out.trans (u.mono F.out.size);clear I u
 go_wp2_with fail
 refine(gH (g:=g) (lo:=W.heap.size) (W:=w1) [aF 6 (.slice (some ⟨c1,0,none⟩) 1 1),cO g 239] 2 [.wd 6 [⟨#[58]⟩],.mt .kind] ⟨_,_,_,rfl⟩ (by simp) (.cons (G.out) (.cons (.mt .kind) (.nil))) rfl F.out.size _ (by first|rfl|simp only[Eq])).mono ?_;rintro e w2⟨p2,q2,rfl,I,u⟩;replace G:Hid (RF g W.heap.size w2 (aF 6 (.slice (some ⟨c1,0,none⟩) 1 1)) (.wd 6 [⟨#[58]⟩])):=RF.up G.out u;have H:=ku I;replace F:Hid (Below W.heap.size W w2):=F.out.trans (u.mono F.out.size);clear I u
 go_wp2_with fail
 refine(br g W.heap.size w2 [⟨#[112,114,111,99]⟩] _ 1 _ (by first|rfl|simp only[Eq]) rfl rfl (by show 1<=1000;decide) F.out.size).mono ?_;rintro e w3⟨c3,rfl,I,u⟩;replace G:Hid (RF g W.heap.size w3 (aF 6 (.slice (some ⟨c1,0,none⟩) 1 1)) (.wd 6 [⟨#[58]⟩])):=RF.up G.out u;replace H:Hid (RI g W.heap.size w3 (km g (eS p2 q2)) (.once (.row [.wd 6 [⟨#[58]⟩],.mt .kind]))):=RI.up H.out u;have J:=ku I;replace F:Hid (Below W.heap.size W w3):=F.out.trans (u.mono F.out.size);clear I u
 go_wp2_with fail
 refine(aI g W.heap.size w3 [⟨#[59]⟩] _ 1 _ (by first|rfl|simp only[Eq]) rfl rfl (by show 1<=1000;decide) F.out.size).mono ?_;rintro e w4⟨c4,rfl,I,u⟩;replace G:Hid (RF g W.heap.size w4 (aF 6 (.slice (some ⟨c1,0,none⟩) 1 1)) (.wd 6 [⟨#[58]⟩])):=RF.up G.out u;replace H:Hid (RI g W.heap.size w4 (km g (eS p2 q2)) (.once (.row [.wd 6 [⟨#[58]⟩],.mt .kind]))):=RI.up H.out u;replace J:Hid (RF g W.heap.size w4 (aF 2 (.slice (some ⟨c3,0,none⟩) 1 1)) (.wd 2 [⟨#[112,114,111,99]⟩])):=RF.up J.out u;have O:=ku I;replace F:Hid (Below W.heap.size W w4):=F.out.trans (u.mono F.out.size);clear I u
 go_wp2_with fail
 refine(aI g W.heap.size w4 [⟨#[59]⟩] _ 1 _ (by first|rfl|simp only[Eq]) rfl rfl (by show 1<=1000;decide) F.out.size).mono ?_;rintro e w5⟨c5,rfl,I,u⟩;replace G:Hid (RF g W.heap.size w5 (aF 6 (.slice (some ⟨c1,0,none⟩) 1 1)) (.wd 6 [⟨#[58]⟩])):=RF.up G.out u;replace H:Hid (RI g W.heap.size w5 (km g (eS p2 q2)) (.once (.row [.wd 6 [⟨#[58]⟩],.mt .kind]))):=RI.up H.out u;replace J:Hid (RF g W.heap.size w5 (aF 2 (.slice (some ⟨c3,0,none⟩) 1 1)) (.wd 2 [⟨#[112,114,111,99]⟩])):=RF.up J.out u;replace O:Hid (RF g W.heap.size w5 (aF 6 (.slice (some ⟨c4,0,none⟩) 1 1)) (.wd 6 [⟨#[59]⟩])):=RF.up O.out u;have aa:=ku I;replace F:Hid (Below W.heap.size W w5):=F.out.trans (u.mono F.out.size);clear I u
 go_wp2_with fail
 refine(aJ HP.out.1 F.out 5 [aF 2 (.slice (some ⟨c3,0,none⟩) 1 1),CF,km g (cO g 236),km g (eS p2 q2),aF 6 (.slice (some ⟨c4,0,none⟩) 1 1),cO g 96,aF 6 (.slice (some ⟨c5,0,none⟩) 1 1)] 7 [.fl (.wd 2 [⟨#[112,114,111,99]⟩]),.fl (.nm),.once (.fn .bracket),.once (.row [.wd 6 [⟨#[58]⟩],.mt .kind]),.fl (.wd 6 [⟨#[59]⟩]),.fl (.mt .block),.fl (.wd 6 [⟨#[59]⟩])] (.cons (.fl J.out) (.cons (.fl (.nm)) (.cons (.once (.fn .bracket)) (.cons H.out (.cons (.fl O.out) (.cons (.fl (.mt .block)) (.cons (.fl aa.out) (.nil)))))))) rfl (by show 7<=1000;decide) HP.out.2.1 HP.out.2.2.1 HP.out.2.2.2.1 HP.out.2.2.2.2 _ (by first|rfl|simp only[Eq])).mono ?_;rintro e w'⟨rfl,hG⟩;have HG:=ku hG;clear hG
 go_wp2_with fail
 go_ret
 exact⟨rfl,HG.out⟩
