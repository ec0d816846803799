import Derived.Test.YtcmbkeghnmgbfaaGreatDoorM35
set_option linter.all false
set_option maxHeartbeats 2000000
namespace Go.Proofs.YtcmbkeghnmgbfaaGreatDoor
open Go.Proofs.Tryz
open Go.RowKit
variable {g:Nat}{W:World}{n:Int}{K:List It}{E:List Ev}{vs vt:Value}
theorem wE {D:Nat->Prop}(h:eG g D W n K E vs vt) (s:ByteArray):Kb 241 #[pt g,.string s] W fun e w'=>bq g D vs vt W n K E e w' (bM s):=by
 have ae:=mkfn;have M:=ku h;have G:Hid (Below W.heap.size W W):=gt _ _;clear h;obtain⟨R,hR⟩:∃R,bM s=R:=⟨_,rfl⟩;have HR:=ku hR;rw[hR];clear hR
 go_enter func241,ntmps241
 go_wp2_with fail
 refine(br g W.heap.size W [s] _ 1 _ (by first|rfl|simp only[Eq]) rfl rfl (by show 1<=1000;decide) G.out.size).mono ?_;rintro e w1⟨c1,rfl,J,u⟩;have F:=ku J;replace G:Hid (Below W.heap.size W w1):=G.out.trans (u.mono G.out.size);clear J u
 go_wp2_with fail
 refine(br g W.heap.size w1 [⟨#[101,110,100]⟩] _ 1 _ (by first|rfl|simp only[Eq]) rfl rfl (by show 1<=1000;decide) G.out.size).mono ?_;rintro e w2⟨c2,rfl,J,u⟩;replace F:Hid (RF g W.heap.size w2 (aF 2 (.slice (some ⟨c1,0,none⟩) 1 1)) (.wd 2 [s])):=RF.up F.out u;have H:=ku J;replace G:Hid (Below W.heap.size W w2):=G.out.trans (u.mono G.out.size);clear J u
 by_cases h:(s.toList==[115,107,105,112])=true
 ·have hR:R=.op 13 [.fl (.wd 2 [s])]:=by rw[<-HR.out];simp[bM,h]
  subst hR;clear HR
  go_wp2_with fail
  refine(aJ M.out.1 G.out 13 [aF 2 (.slice (some ⟨c1,0,none⟩) 1 1)] 1 [.fl (.wd 2 [s])] (.cons (.fl F.out) (.nil)) rfl (by show 1<=1000;decide) M.out.2.1 M.out.2.2.1 M.out.2.2.2.1 M.out.2.2.2.2 _ (by first|rfl|simp only[Eq])).mono ?_;rintro e w'⟨rfl,hG⟩;have HG:=ku hG;clear hG
  go_wp2_with fail
  go_ret
  exact⟨rfl,HG.out⟩
 have n1:(s.toList==[115,107,105,112])=false:=by simpa using h
 clear h
 by_cases h:(s.toList==[105,102])=true
 ·have hR:R=.op 15 [.fl (.wd 2 [s]),.fl (.mt .expr),.fl (.wd 2 [⟨#[116,104,101,110]⟩]),.fl (.mt .body),.again (.row [.wd 2 [⟨#[101,108,105,102]⟩],.mt .expr,.wd 2 [⟨#[116,104,101,110]⟩],.mt .body]),.once (.row [.wd 2 [⟨#[101,108,115,101]⟩],.mt .body]),.fl (.wd 2 [⟨#[101,110,100]⟩])]:=by rw[<-HR.out];simp[bM,h,n1]
  subst hR;clear HR
  go_wp2_with fail
  refine(br g W.heap.size w2 [⟨#[101,108,105,102]⟩] _ 1 _ (by first|rfl|simp only[Eq]) rfl rfl (by show 1<=1000;decide) G.out.size).mono ?_;rintro e w3⟨c3,rfl,J,u⟩;replace F:Hid (RF g W.heap.size w3 (aF 2 (.slice (some ⟨c1,0,none⟩) 1 1)) (.wd 2 [s])):=RF.up F.out u;replace H:Hid (RF g W.heap.size w3 (aF 2 (.slice (some ⟨c2,0,none⟩) 1 1)) (.wd 2 [⟨#[101,110,100]⟩])):=RF.up H.out u;have I:=ku J;replace G:Hid (Below W.heap.size W w3):=G.out.trans (u.mono G.out.size);clear J u
  go_wp2_with fail
  refine(br g W.heap.size w3 [⟨#[116,104,101,110]⟩] _ 1 _ (by first|rfl|simp only[Eq]) rfl rfl (by show 1<=1000;decide) G.out.size).mono ?_;rintro e w4⟨c4,rfl,J,u⟩;replace F:Hid (RF g W.heap.size w4 (aF 2 (.slice (some ⟨c1,0,none⟩) 1 1)) (.wd 2 [s])):=RF.up F.out u;replace H:Hid (RF g W.heap.size w4 (aF 2 (.slice (some ⟨c2,0,none⟩) 1 1)) (.wd 2 [⟨#[101,110,100]⟩])):=RF.up H.out u;replace I:Hid (RF g W.heap.size w4 (aF 2 (.slice (some ⟨c3,0,none⟩) 1 1)) (.wd 2 [⟨#[101,108,105,102]⟩])):=RF.up I.out u;have O:=ku J;replace G:Hid (Below W.heap.size W w4):=G.out.trans (u.mono G.out.size);clear J u
  go_wp2_with fail
  refine(cR (g:=g) (lo:=W.heap.size) (W:=w4) [aF 2 (.slice (some ⟨c3,0,none⟩) 1 1),cO g 235,aF 2 (.slice (some ⟨c4,0,none⟩) 1 1),cO g 141] 4 [.wd 2 [⟨#[101,108,105,102]⟩],.mt .expr,.wd 2 [⟨#[116,104,101,110]⟩],.mt .body] ⟨_,_,_,rfl⟩ (by simp) (.cons (I.out) (.cons (.mt .expr) (.cons (O.out) (.cons (.mt .body) (.nil))))) rfl G.out.size _ (by first|rfl|simp only[Eq])).mono ?_;rintro e w5⟨p5,q5,rfl,J,u⟩;replace F:Hid (RF g W.heap.size w5 (aF 2 (.slice (some ⟨c1,0,none⟩) 1 1)) (.wd 2 [s])):=RF.up F.out u;replace H:Hid (RF g W.heap.size w5 (aF 2 (.slice (some ⟨c2,0,none⟩) 1 1)) (.wd 2 [⟨#[101,110,100]⟩])):=RF.up H.out u;replace I:Hid (RF g W.heap.size w5 (aF 2 (.slice (some ⟨c3,0,none⟩) 1 1)) (.wd 2 [⟨#[101,108,105,102]⟩])):=RF.up I.out u;replace O:Hid (RF g W.heap.size w5 (aF 2 (.slice (some ⟨c4,0,none⟩) 1 1)) (.wd 2 [⟨#[116,104,101,110]⟩])):=RF.up O.out u;have aa:=ku J;replace G:Hid (Below W.heap.size W w5):=G.out.trans (u.mono G.out.size);clear J u
  go_wp2_with fail
  refine(br g W.heap.size w5 [⟨#[116,104,101,110]⟩] _ 1 _ (by first|rfl|simp only[Eq]) rfl rfl (by show 1<=1000;decide) G.out.size).mono ?_;rintro e w6⟨c6,rfl,J,u⟩;replace F:Hid (RF g W.heap.size w6 (aF 2 (.slice (some ⟨c1,0,none⟩) 1 1)) (.wd 2 [s])):=RF.up F.out u;replace H:Hid (RF g W.heap.size w6 (aF 2 (.slice (some ⟨c2,0,none⟩) 1 1)) (.wd 2 [⟨#[101,110,100]⟩])):=RF.up H.out u;replace I:Hid (RF g W.heap.size w6 (aF 2 (.slice (some ⟨c3,0,none⟩) 1 1)) (.wd 2 [⟨#[101,108,105,102]⟩])):=RF.up I.out u;replace O:Hid (RF g W.heap.size w6 (aF 2 (.slice (some ⟨c4,0,none⟩) 1 1)) (.wd 2 [⟨#[116,104,101,110]⟩])):=RF.up O.out u;replace aa:Hid (RI g W.heap.size w6 (io g (eS p5 q5)) (.again (.row [.wd 2 [⟨#[101,108,105,102]⟩],.mt .expr,.wd 2 [⟨#[116,104,101,110]⟩],.mt .body]))):=RI.up aa.out u;have ab:=ku J;replace G:Hid (Below W.heap.size W w6):=G.out.trans (u.mono G.out.size);clear J u
  go_wp2_with fail
  refine(br g W.heap.size w6 [⟨#[101,108,115,101]⟩] _ 1 _ (by first|rfl|simp only[Eq]) rfl rfl (by show 1<=1000;decide) G.out.size).mono ?_;rintro e w7⟨c7,rfl,J,u⟩;replace F:Hid (RF g W.heap.size w7 (aF 2 (.slice (some ⟨c1,0,none⟩) 1 1)) (.wd 2 [s])):=RF.up F.out u;replace H:Hid (RF g W.heap.size w7 (aF 2 (.slice (some ⟨c2,0,none⟩) 1 1)) (.wd 2 [⟨#[101,110,100]⟩])):=RF.up H.out u;replace I:Hid (RF g W.heap.size w7 (aF 2 (.slice (some ⟨c3,0,none⟩) 1 1)) (.wd 2 [⟨#[101,108,105,102]⟩])):=RF.up I.out u;replace O:Hid (RF g W.heap.size w7 (aF 2 (.slice (some ⟨c4,0,none⟩) 1 1)) (.wd 2 [⟨#[116,104,101,110]⟩])):=RF.up O.out u;replace aa:Hid (RI g W.heap.size w7 (io g (eS p5 q5)) (.again (.row [.wd 2 [⟨#[101,108,105,102]⟩],.mt .expr,.wd 2 [⟨#[116,104,101,110]⟩],.mt .body]))):=RI.up aa.out u;replace ab:Hid (RF g W.heap.size w7 (aF 2 (.slice (some ⟨c6,0,none⟩) 1 1)) (.wd 2 [⟨#[116,104,101,110]⟩])):=RF.up ab.out u;have ac:=ku J;replace G:Hid (Below W.heap.size W w7):=G.out.trans (u.mono G.out.size);clear J u
  go_wp2_with fail
  refine(gH (g:=g) (lo:=W.heap.size) (W:=w7) [aF 2 (.slice (some ⟨c7,0,none⟩) 1 1),cO g 141] 2 [.wd 2 [⟨#[101,108,115,101]⟩],.mt .body] ⟨_,_,_,rfl⟩ (by simp) (.cons (ac.out) (.cons (.mt .body) (.nil))) rfl G.out.size _ (by first|rfl|simp only[Eq])).mono ?_;rintro e w8⟨p8,q8,rfl,J,u⟩;replace F:Hid (RF g W.heap.size w8 (aF 2 (.slice (some ⟨c1,0,none⟩) 1 1)) (.wd 2 [s])):=RF.up F.out u;replace H:Hid (RF g W.heap.size w8 (aF 2 (.slice (some ⟨c2,0,none⟩) 1 1)) (.wd 2 [⟨#[101,110,100]⟩])):=RF.up H.out u;replace I:Hid (RF g W.heap.size w8 (aF 2 (.slice (some ⟨c3,0,none⟩) 1 1)) (.wd 2 [⟨#[101,108,105,102]⟩])):=RF.up I.out u;replace O:Hid (RF g W.heap.size w8 (aF 2 (.slice (some ⟨c4,0,none⟩) 1 1)) (.wd 2 [⟨#[116,104,101,110]⟩])):=RF.up O.out u;replace aa:Hid (RI g W.heap.size w8 (io g (eS p5 q5)) (.again (.row [.wd 2 [⟨#[101,108,105,102]⟩],.mt .expr,.wd 2 [⟨#[116,104,101,110]⟩],.mt .body]))):=RI.up aa.out u;replace ab:Hid (RF g W.heap.size w8 (aF 2 (.slice (some ⟨c6,0,none⟩) 1 1)) (.wd 2 [⟨#[116,104,101,110]⟩])):=RF.up ab.out u;replace ac:Hid (RF g W.heap.size w8 (aF 2 (.slice (some ⟨c7,0,none⟩) 1 1)) (.wd 2 [⟨#[101,108,115,101]⟩])):=RF.up ac.out u;have ad:=ku J;replace G:Hid (Below W.heap.size W w8):=G.out.trans (u.mono G.out.size);clear J u
  go_wp2_with fail
  refine(aJ M.out.1 G.out 15 [aF 2 (.slice (some ⟨c1,0,none⟩) 1 1),cO g 235,aF 2 (.slice (some ⟨c6,0,none⟩) 1 1),cO g 141,io g (eS p5 q5),km g (eS p8 q8),aF 2 (.slice (some ⟨c2,0,none⟩) 1 1)] 7 [.fl (.wd 2 [s]),.fl (.mt .expr),.fl (.wd 2 [⟨#[116,104,101,110]⟩]),.fl (.mt .body),.again (.row [.wd 2 [⟨#[101,108,105,102]⟩],.mt .expr,.wd 2 [⟨#[116,104,101,110]⟩],.mt .body]),.once (.row [.wd 2 [⟨#[101,108,115,101]⟩],.mt .body]),.fl (.wd 2 [⟨#[101,110,100]⟩])] (.cons (.fl F.out) (.cons (.fl (.mt .expr)) (.cons (.fl ab.out) (.cons (.fl (.mt .body)) (.cons aa.out (.cons ad.out (.cons (.fl H.out) (.nil)))))))) rfl (by show 7<=1000;decide) M.out.2.1 M.out.2.2.1 M.out.2.2.2.1 M.out.2.2.2.2 _ (by first|rfl|simp only[Eq])).mono ?_;rintro e w'⟨rfl,hG⟩;have HG:=ku hG;clear hG
  go_wp2_with fail
  go_ret
  exact⟨rfl,HG.out⟩
 have n2:(s.toList==[105,102])=false:=by simpa using h
 clear h
 by_cases h:(s.toList==[119,104,105,108,101])=true
 ·have hR:R=.op 16 [.fl (.wd 2 [s]),.fl (.mt .expr),.fl (.wd 2 [⟨#[100,111]⟩]),.fl (.mt .body),.fl (.wd 2 [⟨#[101,110,100]⟩])]:=by rw[<-HR.out];simp[bM,h,n1,n2]
  subst hR;clear HR
  go_wp2_with fail
  refine(br g W.heap.size w2 [⟨#[100,111]⟩] _ 1 _ (by first|rfl|simp only[Eq]) rfl rfl (by show 1<=1000;decide) G.out.size).mono ?_;rintro e w3⟨c3,rfl,J,u⟩;replace F:Hid (RF g W.heap.size w3 (aF 2 (.slice (some ⟨c1,0,none⟩) 1 1)) (.wd 2 [s])):=RF.up F.out u;replace H:Hid (RF g W.heap.size w3 (aF 2 (.slice (some ⟨c2,0,none⟩) 1 1)) (.wd 2 [⟨#[101,110,100]⟩])):=RF.up H.out u;have I:=ku J;replace G:Hid (Below W.heap.size W w3):=G.out.trans (u.mono G.out.size);clear J u
  go_wp2_with fail
  refine(aJ M.out.1 G.out 16 [aF 2 (.slice (some ⟨c1,0,none⟩) 1 1),cO g 235,aF 2 (.slice (some ⟨c3,0,none⟩) 1 1),cO g 141,aF 2 (.slice (some ⟨c2,0,none⟩) 1 1)] 5 [.fl (.wd 2 [s]),.fl (.mt .expr),.fl (.wd 2 [⟨#[100,111]⟩]),.fl (.mt .body),.fl (.wd 2 [⟨#[101,110,100]⟩])] (.cons (.fl F.out) (.cons (.fl (.mt .expr)) (.cons (.fl I.out) (.cons (.fl (.mt .body)) (.cons (.fl H.out) (.nil)))))) rfl (by show 5<=1000;decide) M.out.2.1 M.out.2.2.1 M.out.2.2.2.1 M.out.2.2.2.2 _ (by first|rfl|simp only[Eq])).mono ?_;rintro e w'⟨rfl,hG⟩;have HG:=ku hG;clear hG
  go_wp2_with fail
  go_ret
  exact⟨rfl,HG.out⟩
 have n3:(s.toList==[119,104,105,108,101])=false:=by simpa using h
 clear h
 by_cases h:(s.toList==[102,111,114])=true
 ·have hR:R=.op 17 [.fl (.wd 2 [s]),.fl (.nm),.fl (.wd 6 [⟨#[58,61]⟩]),.fl (.mt .expr),.fl (.wd 2 [⟨#[116,111]⟩]),.fl (.mt .expr),.fl (.wd 2 [⟨#[100,111]⟩]),.fl (.mt .body),.fl (.wd 2 [⟨#[101,110,100]⟩])]:=by rw[<-HR.out];simp[bM,h,n1,n2,n3]
  subst hR;clear HR
  go_wp2_with fail
  refine(aI g W.heap.size w2 [⟨#[58,61]⟩] _ 1 _ (by first|rfl|simp only[Eq]) rfl rfl (by show 1<=1000;decide) G.out.size).mono ?_;rintro e w3⟨c3,rfl,J,u⟩;replace F:Hid (RF g W.heap.size w3 (aF 2 (.slice (some ⟨c1,0,none⟩) 1 1)) (.wd 2 [s])):=RF.up F.out u;replace H:Hid (RF g W.heap.size w3 (aF 2 (.slice (some ⟨c2,0,none⟩) 1 1)) (.wd 2 [⟨#[101,110,100]⟩])):=RF.up H.out u;have I:=ku J;replace G:Hid (Below W.heap.size W w3):=G.out.trans (u.mono G.out.size);clear J u
  go_wp2_with fail
  refine(br g W.heap.size w3 [⟨#[116,111]⟩] _ 1 _ (by first|rfl|simp only[Eq]) rfl rfl (by show 1<=1000;decide) G.out.size).mono ?_;rintro e w4⟨c4,rfl,J,u⟩;replace F:Hid (RF g W.heap.size w4 (aF 2 (.slice (some ⟨c1,0,none⟩) 1 1)) (.wd 2 [s])):=RF.up F.out u;replace H:Hid (RF g W.heap.size w4 (aF 2 (.slice (some ⟨c2,0,none⟩) 1 1)) (.wd 2 [⟨#[101,110,100]⟩])):=RF.up H.out u;replace I:Hid (RF g W.heap.size w4 (aF 6 (.slice (some ⟨c3,0,none⟩) 1 1)) (.wd 6 [⟨#[58,61]⟩])):=RF.up I.out u;have O:=ku J;replace G:Hid (Below W.heap.size W w4):=G.out.trans (u.mono G.out.size);clear J u
  go_wp2_with fail
  refine(br g W.heap.size w4 [⟨#[100,111]⟩] _ 1 _ (by first|rfl|simp only[Eq]) rfl rfl (by show 1<=1000;decide) G.out.size).mono ?_;rintro e w5⟨c5,rfl,J,u⟩;replace F:Hid (RF g W.heap.size w5 (aF 2 (.slice (some ⟨c1,0,none⟩) 1 1)) (.wd 2 [s])):=RF.up F.out u;replace H:Hid (RF g W.heap.size w5 (aF 2 (.slice (some ⟨c2,0,none⟩) 1 1)) (.wd 2 [⟨#[101,110,100]⟩])):=RF.up H.out u;replace I:Hid (RF g W.heap.size w5 (aF 6 (.slice (some ⟨c3,0,none⟩) 1 1)) (.wd 6 [⟨#[58,61]⟩])):=RF.up I.out u;replace O:Hid (RF g W.heap.size w5 (aF 2 (.slice (some ⟨c4,0,none⟩) 1 1)) (.wd 2 [⟨#[116,111]⟩])):=RF.up O.out u;have aa:=ku J;replace G:Hid (Below W.heap.size W w5):=G.out.trans (u.mono G.out.size);clear J u
  go_wp2_with fail
  refine(aJ M.out.1 G.out 17 [aF 2 (.slice (some ⟨c1,0,none⟩) 1 1),CF,aF 6 (.slice (some ⟨c3,0,none⟩) 1 1),cO g 235,aF 2 (.slice (some ⟨c4,0,none⟩) 1 1),cO g 235,aF 2 (.slice (some ⟨c5,0,none⟩) 1 1),cO g 141,aF 2 (.slice (some ⟨c2,0,none⟩) 1 1)] 9 [.fl (.wd 2 [s]),.fl (.nm),.fl (.wd 6 [⟨#[58,61]⟩]),.fl (.mt .expr),.fl (.wd 2 [⟨#[116,111]⟩]),.fl (.mt .expr),.fl (.wd 2 [⟨#[100,111]⟩]),.fl (.mt .body),.fl (.wd 2 [⟨#[101,110,100]⟩])] (.cons (.fl F.out) (.cons (.fl (.nm)) (.cons (.fl I.out) (.cons (.fl (.mt .expr)) (.cons (.fl O.out) (.cons (.fl (.mt .expr)) (.cons (.fl aa.out) (.cons (.fl (.mt .body)) (.cons (.fl H.out) (.nil)))))))))) rfl (by show 9<=1000;decide) M.out.2.1 M.out.2.2.1 M.out.2.2.2.1 M.out.2.2.2.2 _ (by first|rfl|simp only[Eq])).mono ?_;rintro e w'⟨rfl,hG⟩;have HG:=ku hG;clear hG
  go_wp2_with fail
  go_ret
  exact⟨rfl,HG.out⟩
 have n4:(s.toList==[102,111,114])=false:=by simpa using h
 clear h
 by_cases h:(s.toList==[114,101,112,101,97,116])=true
 ·have hR:R=.op 18 [.fl (.wd 2 [s]),.fl (.mt .body),.fl (.wd 2 [⟨#[117,110,116,105,108]⟩]),.fl (.mt .expr)]:=by rw[<-HR.out];simp[bM,h,n1,n2,n3,n4]
  subst hR;clear HR
  go_wp2_with fail
  refine(br g W.heap.size w2 [⟨#[117,110,116,105,108]⟩] _ 1 _ (by first|rfl|simp only[Eq]) rfl rfl (by show 1<=1000;decide) G.out.size).mono ?_;rintro e w3⟨c3,rfl,J,u⟩;replace F:Hid (RF g W.heap.size w3 (aF 2 (.slice (some ⟨c1,0,none⟩) 1 1)) (.wd 2 [s])):=RF.up F.out u;replace H:Hid (RF g W.heap.size w3 (aF 2 (.slice (some ⟨c2,0,none⟩) 1 1)) (.wd 2 [⟨#[101,110,100]⟩])):=RF.up H.out u;have I:=ku J;replace G:Hid (Below W.heap.size W w3):=G.out.trans (u.mono G.out.size);clear J u
  go_wp2_with fail
  refine(aJ M.out.1 G.out 18 [aF 2 (.slice (some ⟨c1,0,none⟩) 1 1),cO g 141,aF 2 (.slice (some ⟨c3,0,none⟩) 1 1),cO g 235] 4 [.fl (.wd 2 [s]),.fl (.mt .body),.fl (.wd 2 [⟨#[117,110,116,105,108]⟩]),.fl (.mt .expr)] (.cons (.fl F.out) (.cons (.fl (.mt .body)) (.cons (.fl I.out) (.cons (.fl (.mt .expr)) (.nil))))) rfl (by show 4<=1000;decide) M.out.2.1 M.out.2.2.1 M.out.2.2.2.1 M.out.2.2.2.2 _ (by first|rfl|simp only[Eq])).mono ?_;rintro e w'⟨rfl,hG⟩;have HG:=ku hG;clear hG
  go_wp2_with fail
  go_ret
  exact⟨rfl,HG.out⟩
 have n5:(s.toList==[114,101,112,101,97,116])=false:=by simpa using h
 clear h
 by_cases h:(s.toList==[114,101,116,117,114,110])=true
 ·have hR:R=.op 19 [.fl (.wd 2 [s]),.once (.ex .expr)]:=by rw[<-HR.out];simp[bM,h,n1,n2,n3,n4,n5]
  subst hR;clear HR
  go_wp2_with fail
  refine(m9 (g:=g) (lo:=W.heap.size) w2 .expr _ rfl G.out.size).mono ?_;rintro e w3⟨p3,rfl,J,u⟩;replace F:Hid (RF g W.heap.size w3 (aF 2 (.slice (some ⟨c1,0,none⟩) 1 1)) (.wd 2 [s])):=RF.up F.out u;replace H:Hid (RF g W.heap.size w3 (aF 2 (.slice (some ⟨c2,0,none⟩) 1 1)) (.wd 2 [⟨#[101,110,100]⟩])):=RF.up H.out u;have I:=ku J;replace G:Hid (Below W.heap.size W w3):=G.out.trans (u.mono G.out.size);clear J u
  go_wp2_with fail
  refine(aJ M.out.1 G.out 19 [aF 2 (.slice (some ⟨c1,0,none⟩) 1 1),km g (EL p3)] 2 [.fl (.wd 2 [s]),.once (.ex .expr)] (.cons (.fl F.out) (.cons I.out (.nil))) rfl (by show 2<=1000;decide) M.out.2.1 M.out.2.2.1 M.out.2.2.2.1 M.out.2.2.2.2 _ (by first|rfl|simp only[Eq])).mono ?_;rintro e w'⟨rfl,hG⟩;have HG:=ku hG;clear hG
  go_wp2_with fail
  go_ret
  exact⟨rfl,HG.out⟩
 have n6:(s.toList==[114,101,116,117,114,110])=false:=by simpa using h
 clear h
 by_cases h:(s.toList==[98,101,103,105,110])=true
 ·have hR:R=.op 20 [.fl (.wd 2 [s]),.fl (.mt .body),.fl (.wd 2 [⟨#[101,110,100]⟩])]:=by rw[<-HR.out];simp[bM,h,n1,n2,n3,n4,n5,n6]
  subst hR;clear HR
  go_wp2_with fail
  refine(aJ M.out.1 G.out 20 [aF 2 (.slice (some ⟨c1,0,none⟩) 1 1),cO g 141,aF 2 (.slice (some ⟨c2,0,none⟩) 1 1)] 3 [.fl (.wd 2 [s]),.fl (.mt .body),.fl (.wd 2 [⟨#[101,110,100]⟩])] (.cons (.fl F.out) (.cons (.fl (.mt .body)) (.cons (.fl H.out) (.nil)))) rfl (by show 3<=1000;decide) M.out.2.1 M.out.2.2.1 M.out.2.2.2.1 M.out.2.2.2.2 _ (by first|rfl|simp only[Eq])).mono ?_;rintro e w'⟨rfl,hG⟩;have HG:=ku hG;clear hG
  go_wp2_with fail
  go_ret
  exact⟨rfl,HG.out⟩
 have n7:(s.toList==[98,101,103,105,110])=false:=by simpa using h
 clear h;have hR:R=.ref:=by rw[<-HR.out];simp[bM,n1,n2,n3,n4,n5,n6,n7]
 subst hR;clear HR
 go_wp2_with fail
 go_ret
 exact⟨rfl,G.out⟩
theorem Em {D:Nat->Prop}(h:eG g D W n K E vs vt) (t:Tv):Kb 239 #[pt g,t.v] W fun e w'=>bq g D vs vt W n K E e w' (M.row t .kind):=by
 have ac:=mkfn;have O:=ku h;have F:Hid (Below W.heap.size W (W.alloc (.cells #[.int .u8 t.k,.string t.t,.int .i64 t.a,.int .i64 t.l,.int .i64 t.c,.int .i64 t.f] 76))):=aq _ _;clear h;obtain⟨R,hR⟩:∃R,M.row t .kind=R:=⟨_,rfl⟩;have HR:=ku hR;rw[hR];clear hR
 dsimp only[Tv.v]at *
 by_cases h:(t.k==1)=true
 ·have hR:R=.op 8 [.fl (.nm)]:=by rw[<-HR.out];simp[M.row,Tv.is,h]
  rw[hR];clear hR HR
  dsimp only[bq]
  go_enter func239,ntmps239
  go_wp2_with fail
  refine(aJ O.out.1 F.out 8 [CF] 1 [.fl (.nm)] (.cons (.fl (.nm)) (.nil)) rfl (by show 1<=1000;decide) O.out.2.1 O.out.2.2.1 O.out.2.2.2.1 O.out.2.2.2.2 _ (by first|rfl|simp only[Eq])).mono ?_;rintro e w'⟨rfl,hG⟩;have HG:=ku hG;clear hG
  go_wp2_with fail
  go_ret
  exact⟨rfl,HG.out⟩
 have n1:(t.k==1)=false:=by simpa using h
 clear h
 by_cases h:(t.t.toList==[97,114,114,97,121])=true
 ·have hR:R=.op 9 [.fl (.wd 2 [⟨#[97,114,114,97,121]⟩]),.fl (.wd 6 [⟨#[91]⟩]),.fl (.mt .expr),.fl (.wd 6 [⟨#[46,46]⟩]),.fl (.mt .expr),.fl (.wd 6 [⟨#[93]⟩]),.fl (.wd 2 [⟨#[111,102]⟩]),.fl (.mt .kind)]:=by rw[<-HR.out];simp[M.row,Tv.is,h,n1]
  rw[hR];clear hR HR
  dsimp only[bq]
  go_enter func239,ntmps239
  go_wp2_with fail
  refine(br g W.heap.size (W.alloc (.cells #[.int .u8 t.k,.string t.t,.int .i64 t.a,.int .i64 t.l,.int .i64 t.c,.int .i64 t.f] 76)) [⟨#[97,114,114,97,121]⟩] _ 1 _ (by first|rfl|simp only[Eq]) rfl rfl (by show 1<=1000;decide) F.out.size).mono ?_;rintro e w1⟨c1,rfl,I,u⟩;have G:=ku I;replace F:Hid (Below W.heap.size W w1):=F.out.trans (u.mono F.out.size);clear I u
  go_wp2_with fail
  refine(aI g W.heap.size w1 [⟨#[91]⟩] _ 1 _ (by first|rfl|simp only[Eq]) rfl rfl (by show 1<=1000;decide) F.out.size).mono ?_;rintro e w2⟨c2,rfl,I,u⟩;replace G:Hid (RF g W.heap.size w2 (aF 2 (.slice (some ⟨c1,0,none⟩) 1 1)) (.wd 2 [⟨#[97,114,114,97,121]⟩])):=RF.up G.out u;have H:=ku I;replace F:Hid (Below W.heap.size W w2):=F.out.trans (u.mono F.out.size);clear I u
  go_wp2_with fail
  refine(aI g W.heap.size w2 [⟨#[46,46]⟩] _ 1 _ (by first|rfl|simp only[Eq]) rfl rfl (by show 1<=1000;decide) F.out.size).mono ?_;rintro e w3⟨c3,rfl,I,u⟩;replace G:Hid (RF g W.heap.size w3 (aF 2 (.slice (some ⟨c1,0,none⟩) 1 1)) (.wd 2 [⟨#[97,114,114,97,121]⟩])):=RF.up G.out u;replace H:Hid (RF g W.heap.size w3 (aF 6 (.slice (some ⟨c2,0,none⟩) 1 1)) (.wd 6 [⟨#[91]⟩])):=RF.up H.out u;have J:=ku I;replace F:Hid (Below W.heap.size W w3):=F.out.trans (u.mono F.out.size);clear I u
  go_wp2_with fail
  refine(aI g W.heap.size w3 [⟨#[93]⟩] _ 1 _ (by first|rfl|simp only[Eq]) rfl rfl (by show 1<=1000;decide) F.out.size).mono ?_;rintro e w4⟨c4,rfl,I,u⟩;replace G:Hid (RF g W.heap.size w4 (aF 2 (.slice (some ⟨c1,0,none⟩) 1 1)) (.wd 2 [⟨#[97,114,114,97,121]⟩])):=RF.up G.out u;replace H:Hid (RF g W.heap.size w4 (aF 6 (.slice (some ⟨c2,0,none⟩) 1 1)) (.wd 6 [⟨#[91]⟩])):=RF.up H.out u;replace J:Hid (RF g W.heap.size w4 (aF 6 (.slice (some ⟨c3,0,none⟩) 1 1)) (.wd 6 [⟨#[46,46]⟩])):=RF.up J.out u;have aa:=ku I;replace F:Hid (Below W.heap.size W w4):=F.out.trans (u.mono F.out.size);clear I u
  go_wp2_with fail
  refine(br g W.heap.size w4 [⟨#[111,102]⟩] _ 1 _ (by first|rfl|simp only[Eq]) rfl rfl (by show 1<=1000;decide) F.out.size).mono ?_;rintro e w5⟨c5,rfl,I,u⟩;replace G:Hid (RF g W.heap.size w5 (aF 2 (.slice (some ⟨c1,0,none⟩) 1 1)) (.wd 2 [⟨#[97,114,114,97,121]⟩])):=RF.up G.out u;replace H:Hid (RF g W.heap.size w5 (aF 6 (.slice (some ⟨c2,0,none⟩) 1 1)) (.wd 6 [⟨#[91]⟩])):=RF.up H.out u;replace J:Hid (RF g W.heap.size w5 (aF 6 (.slice (some ⟨c3,0,none⟩) 1 1)) (.wd 6 [⟨#[46,46]⟩])):=RF.up J.out u;replace aa:Hid (RF g W.heap.size w5 (aF 6 (.slice (some ⟨c4,0,none⟩) 1 1)) (.wd 6 [⟨#[93]⟩])):=RF.up aa.out u;have ab:=ku I;replace F:Hid (Below W.heap.size W w5):=F.out.trans (u.mono F.out.size);clear I u
  go_wp2_with fail
  refine(aJ O.out.1 F.out 9 [aF 2 (.slice (some ⟨c1,0,none⟩) 1 1),aF 6 (.slice (some ⟨c2,0,none⟩) 1 1),cO g 235,aF 6 (.slice (some ⟨c3,0,none⟩) 1 1),cO g 235,aF 6 (.slice (some ⟨c4,0,none⟩) 1 1),aF 2 (.slice (some ⟨c5,0,none⟩) 1 1),cO g 239] 8 [.fl (.wd 2 [⟨#[97,114,114,97,121]⟩]),.fl (.wd 6 [⟨#[91]⟩]),.fl (.mt .expr),.fl (.wd 6 [⟨#[46,46]⟩]),.fl (.mt .expr),.fl (.wd 6 [⟨#[93]⟩]),.fl (.wd 2 [⟨#[111,102]⟩]),.fl (.mt .kind)] (.cons (.fl G.out) (.cons (.fl H.out) (.cons (.fl (.mt .expr)) (.cons (.fl J.out) (.cons (.fl (.mt .expr)) (.cons (.fl aa.out) (.cons (.fl ab.out) (.cons (.fl (.mt .kind)) (.nil))))))))) rfl (by show 8<=1000;decide) O.out.2.1 O.out.2.2.1 O.out.2.2.2.1 O.out.2.2.2.2 _ (by first|rfl|simp only[Eq])).mono ?_;rintro e w'⟨rfl,hG⟩;have HG:=ku hG;clear hG
  go_wp2_with fail
  go_ret
  exact⟨rfl,HG.out⟩
 have n2:(t.t.toList==[97,114,114,97,121])=false:=by simpa using h
 clear h
 by_cases h:(t.t.toList==[114,101,99,111,114,100])=true
 ·have hR:R=.op 10 [.fl (.wd 2 [⟨#[114,101,99,111,114,100]⟩]),.fl (.mt .member),.again (.row [.wd 6 [⟨#[59]⟩],.mt .member]),.fl (.wd 2 [⟨#[101,110,100]⟩])]:=by rw[<-HR.out];simp[M.row,Tv.is,h,n1,n2]
  rw[hR];clear hR HR
  dsimp only[bq]
  go_enter func239,ntmps239
  go_wp2_with fail
  refine(br g W.heap.size (W.alloc (.cells #[.int .u8 t.k,.string t.t,.int .i64 t.a,.int .i64 t.l,.int .i64 t.c,.int .i64 t.f] 76)) [⟨#[114,101,99,111,114,100]⟩] _ 1 _ (by first|rfl|simp only[Eq]) rfl rfl (by show 1<=1000;decide) F.out.size).mono ?_;rintro e w1⟨c1,rfl,I,u⟩;have G:=ku I;replace F:Hid (Below W.heap.size W w1):=F.out.trans (u.mono F.out.size);clear I u
  go_wp2_with fail
  refine(aI g W.heap.size w1 [⟨#[59]⟩] _ 1 _ (by first|rfl|simp only[Eq]) rfl rfl (by show 1<=1000;decide) F.out.size).mono ?_;rintro e w2⟨c2,rfl,I,u⟩;replace G:Hid (RF g W.heap.size w2 (aF 2 (.slice (some ⟨c1,0,none⟩) 1 1)) (.wd 2 [⟨#[114,101,99,111,114,100]⟩])):=RF.up G.out u;have H:=ku I;replace F:Hid (Below W.heap.size W w2):=F.out.trans (u.mono F.out.size);clear I u
  go_wp2_with fail
  refine(cR (g:=g) (lo:=W.heap.size) (W:=w2) [aF 6 (.slice (some ⟨c2,0,none⟩) 1 1),cO g 279] 2 [.wd 6 [⟨#[59]⟩],.mt .member] ⟨_,_,_,rfl⟩ (by simp) (.cons (H.out) (.cons (.mt .member) (.nil))) rfl F.out.size _ (by first|rfl|simp only[Eq])).mono ?_;rintro e w3⟨p3,q3,rfl,I,u⟩;replace G:Hid (RF g W.heap.size w3 (aF 2 (.slice (some ⟨c1,0,none⟩) 1 1)) (.wd 2 [⟨#[114,101,99,111,114,100]⟩])):=RF.up G.out u;replace H:Hid (RF g W.heap.size w3 (aF 6 (.slice (some ⟨c2,0,none⟩) 1 1)) (.wd 6 [⟨#[59]⟩])):=RF.up H.out u;have J:=ku I;replace F:Hid (Below W.heap.size W w3):=F.out.trans (u.mono F.out.size);clear I u
  go_wp2_with fail
  refine(br g W.heap.size w3 [⟨#[101,110,100]⟩] _ 1 _ (by first|rfl|simp only[Eq]) rfl rfl (by show 1<=1000;decide) F.out.size).mono ?_;rintro e w4⟨c4,rfl,I,u⟩;replace G:Hid (RF g W.heap.size w4 (aF 2 (.slice (some ⟨c1,0,none⟩) 1 1)) (.wd 2 [⟨#[114,101,99,111,114,100]⟩])):=RF.up G.out u;replace H:Hid (RF g W.heap.size w4 (aF 6 (.slice (some ⟨c2,0,none⟩) 1 1)) (.wd 6 [⟨#[59]⟩])):=RF.up H.out u;replace J:Hid (RI g W.heap.size w4 (io g (eS p3 q3)) (.again (.row [.wd 6 [⟨#[59]⟩],.mt .member]))):=RI.up J.out u;have aa:=ku I;replace F:Hid (Below W.heap.size W w4):=F.out.trans (u.mono F.out.size);clear I u
  go_wp2_with fail
  refine(aJ O.out.1 F.out 10 [aF 2 (.slice (some ⟨c1,0,none⟩) 1 1),cO g 279,io g (eS p3 q3),aF 2 (.slice (some ⟨c4,0,none⟩) 1 1)] 4 [.fl (.wd 2 [⟨#[114,101,99,111,114,100]⟩]),.fl (.mt .member),.again (.row [.wd 6 [⟨#[59]⟩],.mt .member]),.fl (.wd 2 [⟨#[101,110,100]⟩])] (.cons (.fl G.out) (.cons (.fl (.mt .member)) (.cons J.out (.cons (.fl aa.out) (.nil))))) rfl (by show 4<=1000;decide) O.out.2.1 O.out.2.2.1 O.out.2.2.2.1 O.out.2.2.2.2 _ (by first|rfl|simp only[Eq])).mono ?_;rintro e w'⟨rfl,hG⟩;have HG:=ku hG;clear hG
  go_wp2_with fail
  go_ret
  exact⟨rfl,HG.out⟩
 have n3:(t.t.toList==[114,101,99,111,114,100])=false:=by simpa using h
 clear h;have hR:R=.ref:=by rw[<-HR.out];simp[M.row,Tv.is,n1,n2,n3]
 rw[hR];clear hR HR
 dsimp only[bq]
 go_enter func239,ntmps239
 go_wp2_with fail
 go_ret
 exact⟨rfl,F.out⟩
theorem yy {D:Nat->Prop}(h:eG g D W n K E vs vt) (t:Tv):Kb 309 #[pt g,t.v] W fun e w'=>bq g D vs vt W n K E e w' (M.row t .factor):=by
 have ab:=mkfn;have H:Hid (eG g D W n K E vs vt):=h;have u:Hid (Kc W (W.alloc (.cells #[.int .u8 t.k,.string t.t,.int .i64 t.a,.int .i64 t.l,.int .i64 t.c,.int .i64 t.f] 76))):=aq _ _;have HF:Hid (∀V,Kb 302 #[.agg #[.int .u8 t.k,.string t.t,.int .i64 t.a,.int .i64 t.l,.int .i64 t.c,.int .i64 t.f]] V fun r w'=>r=.returned (.int .u8 (dQ t))/\Kc V w'):=fun V=>jQ t V
 clear h;obtain⟨R,I⟩:∃R,M.row t .factor=R:=⟨_,rfl⟩;have HR:Hid (M.row t .factor=R):=I;rw[I];clear I
 dsimp only[Tv.v]at *
 have G:Hid (R=if dQ t==25 then .op 25 [.fl (.wd 6 [⟨#[45]⟩]),.fl (.mt .factor)]else if dQ t==26 then .op 26 [.fl (.wd 2 [⟨#[110,111,116]⟩]),.fl (.mt .factor)]else if dQ t==27 then .op 27 [.fl (.wd 6 [⟨#[40]⟩]),.fl (.mt .expr),.fl (.wd 6 [⟨#[41]⟩])]else if dQ t==32 then .op 32 [.fl (.cs)]else if dQ t==28 then .ex [.fl (.mt .object)]else .ref):=HR.out.symm;clear HR
 generalize dQ t=z at *
 by_cases h:(z==25)=true
 ·have hz:z=25:=by simpa using h
  subst hz;have I:R=.op 25 [.fl (.wd 6 [⟨#[45]⟩]),.fl (.mt .factor)]:=by rw[G.out];simp
  rw[I];clear I G h
  dsimp only[bq]
  go_enter func309,ntmps309
  go_wp2_with fail
  refine(HF.out _).mono ?_;rintro r w1⟨rfl,F⟩;replace u:Hid (Kc W w1):=u.out.trans (F.mono u.out.size);clear F
  go_wp2_with fail
  refine(aI g W.heap.size w1 [⟨#[45]⟩] _ 1 _ (by first|rfl|simp only[Eq]) rfl rfl (by show 1<=1000;decide) u.out.size).mono ?_;rintro e w2⟨c2,rfl,hA,F⟩;have J:Hid (RF g W.heap.size w2 (aF 6 (.slice (some ⟨c2,0,none⟩) 1 1)) (.wd 6 [⟨#[45]⟩])):=hA;replace u:Hid (Kc W w2):=u.out.trans (F.mono u.out.size);clear hA F
  go_wp2_with fail
  refine(aJ H.out.1 u.out 25 [aF 6 (.slice (some ⟨c2,0,none⟩) 1 1),cO g 309] 2 [.fl (.wd 6 [⟨#[45]⟩]),.fl (.mt .factor)] (.cons (.fl J.out) (.cons (.fl (.mt .factor)) (.nil))) rfl (by show 2<=1000;decide) H.out.2.1 H.out.2.2.1 H.out.2.2.2.1 H.out.2.2.2.2 _ (by first|rfl|simp only[Eq])).mono ?_;rintro e w'⟨rfl,O⟩;have HG:Hid (ay g D vs vt W w' (n+1) ([.fl (.wd 6 [⟨#[45]⟩]),.fl (.mt .factor)]++.lv 25 :: K) (E++[⟨1,25,cD⟩])):=O;clear O
  go_wp2_with fail
  go_ret
  exact⟨rfl,HG.out⟩
 have n1:(z==25)=false:=by simpa using h
 clear h
 by_cases h:(z==26)=true
 ·have hz:z=26:=by simpa using h
  subst hz;have I:R=.op 26 [.fl (.wd 2 [⟨#[110,111,116]⟩]),.fl (.mt .factor)]:=by rw[G.out];simp
  rw[I];clear I G h n1
  dsimp only[bq]
  go_enter func309,ntmps309
  go_wp2_with fail
  refine(HF.out _).mono ?_;rintro r w1⟨rfl,F⟩;replace u:Hid (Kc W w1):=u.out.trans (F.mono u.out.size);clear F
  go_wp2_with fail
  refine(br g W.heap.size w1 [⟨#[110,111,116]⟩] _ 1 _ (by first|rfl|simp only[Eq]) rfl rfl (by show 1<=1000;decide) u.out.size).mono ?_;rintro e w2⟨c2,rfl,hA,F⟩;have J:Hid (RF g W.heap.size w2 (aF 2 (.slice (some ⟨c2,0,none⟩) 1 1)) (.wd 2 [⟨#[110,111,116]⟩])):=hA;replace u:Hid (Kc W w2):=u.out.trans (F.mono u.out.size);clear hA F
  go_wp2_with fail
  refine(aJ H.out.1 u.out 26 [aF 2 (.slice (some ⟨c2,0,none⟩) 1 1),cO g 309] 2 [.fl (.wd 2 [⟨#[110,111,116]⟩]),.fl (.mt .factor)] (.cons (.fl J.out) (.cons (.fl (.mt .factor)) (.nil))) rfl (by show 2<=1000;decide) H.out.2.1 H.out.2.2.1 H.out.2.2.2.1 H.out.2.2.2.2 _ (by first|rfl|simp only[Eq])).mono ?_;rintro e w'⟨rfl,O⟩;have HG:Hid (ay g D vs vt W w' (n+1) ([.fl (.wd 2 [⟨#[110,111,116]⟩]),.fl (.mt .factor)]++.lv 26 :: K) (E++[⟨1,26,cD⟩])):=O;clear O
  go_wp2_with fail
  go_ret
  exact⟨rfl,HG.out⟩
 have n2:(z==26)=false:=by simpa using h
 clear h
 by_cases h:(z==27)=true
 ·have hz:z=27:=by simpa using h
  subst hz;have I:R=.op 27 [.fl (.wd 6 [⟨#[40]⟩]),.fl (.mt .expr),.fl (.wd 6 [⟨#[41]⟩])]:=by rw[G.out];simp
  rw[I];clear I G h n1 n2
  dsimp only[bq]
  go_enter func309,ntmps309
  go_wp2_with fail
  refine(HF.out _).mono ?_;rintro r w1⟨rfl,F⟩;replace u:Hid (Kc W w1):=u.out.trans (F.mono u.out.size);clear F
  go_wp2_with fail
  refine(aI g W.heap.size w1 [⟨#[40]⟩] _ 1 _ (by first|rfl|simp only[Eq]) rfl rfl (by show 1<=1000;decide) u.out.size).mono ?_;rintro e w2⟨c2,rfl,hA,F⟩;have J:Hid (RF g W.heap.size w2 (aF 6 (.slice (some ⟨c2,0,none⟩) 1 1)) (.wd 6 [⟨#[40]⟩])):=hA;replace u:Hid (Kc W w2):=u.out.trans (F.mono u.out.size);clear hA F
  go_wp2_with fail
  refine(aI g W.heap.size w2 [⟨#[41]⟩] _ 1 _ (by first|rfl|simp only[Eq]) rfl rfl (by show 1<=1000;decide) u.out.size).mono ?_;rintro e w3⟨c3,rfl,hA,F⟩;replace J:Hid (RF g W.heap.size w3 (aF 6 (.slice (some ⟨c2,0,none⟩) 1 1)) (.wd 6 [⟨#[40]⟩])):=RF.up J.out F;have aa:Hid (RF g W.heap.size w3 (aF 6 (.slice (some ⟨c3,0,none⟩) 1 1)) (.wd 6 [⟨#[41]⟩])):=hA;replace u:Hid (Kc W w3):=u.out.trans (F.mono u.out.size);clear hA F
  go_wp2_with fail
  refine(aJ H.out.1 u.out 27 [aF 6 (.slice (some ⟨c2,0,none⟩) 1 1),cO g 235,aF 6 (.slice (some ⟨c3,0,none⟩) 1 1)] 3 [.fl (.wd 6 [⟨#[40]⟩]),.fl (.mt .expr),.fl (.wd 6 [⟨#[41]⟩])] (.cons (.fl J.out) (.cons (.fl (.mt .expr)) (.cons (.fl aa.out) (.nil)))) rfl (by show 3<=1000;decide) H.out.2.1 H.out.2.2.1 H.out.2.2.2.1 H.out.2.2.2.2 _ (by first|rfl|simp only[Eq])).mono ?_;rintro e w'⟨rfl,O⟩;have HG:Hid (ay g D vs vt W w' (n+1) ([.fl (.wd 6 [⟨#[40]⟩]),.fl (.mt .expr),.fl (.wd 6 [⟨#[41]⟩])]++.lv 27 :: K) (E++[⟨1,27,cD⟩])):=O;clear O
  go_wp2_with fail
  go_ret
  exact⟨rfl,HG.out⟩
 have n3:(z==27)=false:=by simpa using h
 clear h
 by_cases h:(z==32)=true
 ·have hz:z=32:=by simpa using h
  subst hz;have I:R=.op 32 [.fl (.cs)]:=by rw[G.out];simp
  rw[I];clear I G h n1 n2 n3
  dsimp only[bq]
  go_enter func309,ntmps309
  go_wp2_with fail
  refine(HF.out _).mono ?_;rintro r w1⟨rfl,F⟩;replace u:Hid (Kc W w1):=u.out.trans (F.mono u.out.size);clear F
  go_wp2_with fail
  refine(aJ H.out.1 u.out 32 [J9] 1 [.fl (.cs)] (.cons (.fl (.cs)) (.nil)) rfl (by show 1<=1000;decide) H.out.2.1 H.out.2.2.1 H.out.2.2.2.1 H.out.2.2.2.2 _ (by first|rfl|simp only[Eq])).mono ?_;rintro e w'⟨rfl,O⟩;have HG:Hid (ay g D vs vt W w' (n+1) ([.fl (.cs)]++.lv 32 :: K) (E++[⟨1,32,cD⟩])):=O;clear O
  go_wp2_with fail
  go_ret
  exact⟨rfl,HG.out⟩
 have n4:(z==32)=false:=by simpa using h
 clear h
 by_cases h:(z==28)=true
 ·have hz:z=28:=by simpa using h
  subst hz;have I:R=.ex [.fl (.mt .object)]:=by rw[G.out];simp
  rw[I];clear I G h n1 n2 n3 n4
  dsimp only[bq]
  go_enter func309,ntmps309
  go_wp2_with fail
  refine(HF.out _).mono ?_;rintro r w1⟨rfl,F⟩;replace u:Hid (Kc W w1):=u.out.trans (F.mono u.out.size);clear F
  go_wp2_with fail
  refine(il H.out.1 u.out [cO g 240] 1 [.fl (.mt .object)] (.cons (.fl (.mt .object)) (.nil)) rfl (by show 1<=1000;decide) H.out.2.2.2.1 _ (by first|rfl|simp only[Eq])).mono ?_;rintro e w'⟨rfl,O⟩;have HG:Hid (ay g D vs vt W w' n ([.fl (.mt .object)]++K) E):=O;clear O
  go_wp2_with fail
  go_ret
  exact⟨rfl,HG.out⟩
 have n5:(z==28)=false:=by simpa using h
 clear h;have I:R=.ref:=by rw[G.out];simp only[n1,n2,n3,n4,n5,LP,KE]
 rw[I];clear I G
 dsimp only[bq]
 go_enter func309,ntmps309
 go_wp2_with fail
 refine(HF.out _).mono ?_;rintro r w1⟨rfl,F⟩;replace u:Hid (Kc W w1):=u.out.trans (F.mono u.out.size);clear F
 go_wp2_with fail
 go_ret
 exact⟨rfl,u.out⟩
theorem nS {D:Nat->Prop}(h:eG g D W n K E vs vt) (t:Tv):Kb 179 #[pt g,t.v] W fun e w'=>bq g D vs vt W n K E e w' (M.row t .statement):=by
 have ab:=mkfn;have J:=ku h;have u:Hid (Below W.heap.size W (W.alloc (.cells #[.int .u8 t.k,.string t.t,.int .i64 t.a,.int .i64 t.l,.int .i64 t.c,.int .i64 t.f] 76))):=aq _ _;clear h;obtain⟨R,G⟩:∃R,M.row t .statement=R:=⟨_,rfl⟩;have HR:=ku G;rw[G];clear G
 dsimp only[Tv.v]at *
 by_cases h:(t.k==1)=true
 ·have G:R=.op 14 [.fl (.mt .object),.once (.row [.wd 6 [⟨#[58,61]⟩],.mt .expr])]:=by rw[<-HR.out];simp[M.row,h]
  rw[G];clear G HR
  dsimp only[bq]
  go_enter func179,ntmps179
  go_wp2_with fail
  refine(aI g W.heap.size (W.alloc (.cells #[.int .u8 t.k,.string t.t,.int .i64 t.a,.int .i64 t.l,.int .i64 t.c,.int .i64 t.f] 76)) [⟨#[58,61]⟩] _ 1 _ (by first|rfl|simp only[Eq]) rfl rfl (by show 1<=1000;decide) u.out.size).mono ?_;rintro e w1⟨c1,rfl,F,H⟩;have O:=ku F;replace u:Hid (Below W.heap.size W w1):=u.out.trans (H.mono u.out.size);clear F H
  go_wp2_with fail
  refine(gH (g:=g) (lo:=W.heap.size) (W:=w1) [aF 6 (.slice (some ⟨c1,0,none⟩) 1 1),cO g 235] 2 [.wd 6 [⟨#[58,61]⟩],.mt .expr] ⟨_,_,_,rfl⟩ (by simp) (.cons (O.out) (.cons (.mt .expr) (.nil))) rfl u.out.size _ (by first|rfl|simp only[Eq])).mono ?_;rintro e w2⟨p2,q2,rfl,F,H⟩;replace O:Hid (RF g W.heap.size w2 (aF 6 (.slice (some ⟨c1,0,none⟩) 1 1)) (.wd 6 [⟨#[58,61]⟩])):=RF.up O.out H;have aa:=ku F;replace u:Hid (Below W.heap.size W w2):=u.out.trans (H.mono u.out.size);clear F H
  go_wp2_with fail
  refine(aJ J.out.1 u.out 14 [cO g 240,km g (eS p2 q2)] 2 [.fl (.mt .object),.once (.row [.wd 6 [⟨#[58,61]⟩],.mt .expr])] (.cons (.fl (.mt .object)) (.cons aa.out (.nil))) rfl (by show 2<=1000;decide) J.out.2.1 J.out.2.2.1 J.out.2.2.2.1 J.out.2.2.2.2 _ (by first|rfl|simp only[Eq])).mono ?_;rintro e w'⟨rfl,I⟩;have HG:=ku I;clear I
  go_wp2_with fail
  go_ret
  exact⟨rfl,HG.out⟩
 have n1:(t.k==1)=false:=by simpa using h
 have G:R=bM t.t:=by rw[<-HR.out];simp[M.row,n1]
 rw[G];clear G HR h;have HW:=ku (wE ⟨J.out.1.fresh u.out,J.out.2⟩ t.t)
 generalize bM t.t=R at *
 go_enter func179,ntmps179
 go_wp2_with fail
 refine HW.out.mono ?_;intro e w1 F;cases R with
 |ref=>
  obtain⟨rfl,H⟩:=F;replace u:Hid (Below W.heap.size W w1):=u.out.trans (H.mono u.out.size);clear H
  go_wp2_with fail
  go_ret
  exact⟨rfl,u.out⟩
 |ex r=>
  obtain⟨rfl,I⟩:=F;have HG:=show Hid _ from ay.fresh u.out I
  clear I
  go_wp2_with fail
  go_ret
  exact⟨rfl,HG.out⟩
 |op nd r=>
  obtain⟨rfl,I⟩:=F;have HG:=show Hid _ from ay.fresh u.out I
  clear I
  go_wp2_with fail
  go_ret
  exact⟨rfl,HG.out⟩
theorem ti {g:Nat}{D:Nat->Prop}{W:World}{n:Int}{K:List It}{E:List Ev}{vs vt:Value}(h:eG g D W n K E vs vt):Kb 58 #[pt g] W fun e w'=>bq g D vs vt W n K E e w' (.op 1 gY):=by
 have ab:=mkfn;have J:=ku h;have u:Hid (Kc W W):=gt _ _;clear h
 dsimp only[bq,gY]
 go_enter func58,ntmps58
 go_wp2_with fail
 refine(br g W.heap.size W [⟨#[112,114,111,103,114,97,109]⟩] _ 1 _ (by first|rfl|simp only[Eq]) rfl rfl (by show 1<=1000;decide) u.out.size).mono ?_;rintro e O⟨c1,rfl,H,F⟩;have G:=ku H;replace u:Hid (Kc W O):=u.out.trans (F.mono u.out.size);clear H F
 go_wp2_with fail
 refine(aI g W.heap.size O [⟨#[59]⟩] _ 1 _ (by first|rfl|simp only[Eq]) rfl rfl (by show 1<=1000;decide) u.out.size).mono ?_;rintro e w2⟨c2,rfl,H,F⟩;replace G:Hid (RF g W.heap.size w2 (aF 2 (.slice (some ⟨c1,0,none⟩) 1 1)) (.wd 2 [⟨#[112,114,111,103,114,97,109]⟩])):=RF.up G.out F;have I:=ku H;replace u:Hid (Kc W w2):=u.out.trans (F.mono u.out.size);clear H F
 go_wp2_with fail
 refine(aI g W.heap.size w2 [⟨#[46]⟩] _ 1 _ (by first|rfl|simp only[Eq]) rfl rfl (by show 1<=1000;decide) u.out.size).mono ?_;rintro e M⟨c3,rfl,H,F⟩;replace G:Hid (RF g W.heap.size M (aF 2 (.slice (some ⟨c1,0,none⟩) 1 1)) (.wd 2 [⟨#[112,114,111,103,114,97,109]⟩])):=RF.up G.out F;replace I:Hid (RF g W.heap.size M (aF 6 (.slice (some ⟨c2,0,none⟩) 1 1)) (.wd 6 [⟨#[59]⟩])):=RF.up I.out F;have aa:=ku H;replace u:Hid (Kc W M):=u.out.trans (F.mono u.out.size);clear H F
 go_wp2_with fail
 refine(aJ J.out.1 u.out 1 [aF 2 (.slice (some ⟨c1,0,none⟩) 1 1),CF,aF 6 (.slice (some ⟨c2,0,none⟩) 1 1),cO g 96,aF 6 (.slice (some ⟨c3,0,none⟩) 1 1)] 5 [.fl (.wd 2 [⟨#[112,114,111,103,114,97,109]⟩]),.fl (.nm),.fl (.wd 6 [⟨#[59]⟩]),.fl (.mt .block),.fl (.wd 6 [⟨#[46]⟩])] (.cons (.fl G.out) (.cons (.fl (.nm)) (.cons (.fl I.out) (.cons (.fl (.mt .block)) (.cons (.fl aa.out) (.nil)))))) rfl (by show 5<=1000;decide) J.out.2.1 J.out.2.2.1 J.out.2.2.2.1 J.out.2.2.2.2 _ (by first|rfl|simp only[Eq])).mono ?_;rintro e w'⟨rfl,hG⟩;have HG:=ku hG;clear hG
 go_wp2_with fail
 go_ret
 exact⟨rfl,HG.out⟩
