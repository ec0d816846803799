import Derived.Test.YtcmbkeghnmgbfaaGreatDoorM18
set_option linter.all false
set_option maxHeartbeats 1000000
set_option maxRecDepth 100000
namespace Go.Proofs.YtcmbkeghnmgbfaaGreatDoor.Lw
open Go.Proofs.Tryz
open Lx
open Go.RowKit
theorem oj {hd:nK}{B:Nat}{w0:World}{own:Nat->Nat}{W:World}{g gs n:Nat}{p:Pr}(h:cM hd B w0 own W g gs n p) {U:Nat}(O:Bp p U) (hU:U<=2147483647) (need:Nat) (aa:need<=1000000000000000) (hn:n<=4096) (m:Nat) (hm:m<=1000) :
  Kb 202 #[.pointer (some ⟨g,7,none⟩),.int .i64 m,.int .i64 need] W fun e w'=>e=.returned (.tuple #[])/\fT hd B w0 own W g gs n (if p.brk n need then p.endl else p.hold m) w':=by
 have M:=ku (jx h O hU need aa hn);have J:∀V,Kc W V->Sd own own W V:=fun V G k hk h0=>⟨G.block k hk,h0⟩
 have HH:Hid (∀V,Kc W V->Kb 201 #[.pointer (some ⟨g,7,none⟩),.int .i64 m] V fun e w'=>e=.returned (.tuple #[])/\fT hd B w0 own W g gs n (p.hold m) w'):=fun V G=>by
  refine(nr (h.below G) O hU m hm).mono ?_;rintro e w'⟨rfl,own',d1,d2,d3⟩;exact⟨rfl,own',d1,(J V G).trans G.size d2,Kh G.size d3⟩
 have HE:Hid (∀V,Kc W V->Kb 203 #[.pointer (some ⟨g,7,none⟩)] V fun e w'=>e=.returned (.tuple #[])/\fT hd B w0 own W g gs n p.endl w'):=fun V G=>by
  refine(nt (h.below G) O hU).mono ?_;rintro e w'⟨rfl,own',d1,d2,d3⟩;exact⟨rfl,own',d1,(J V G).trans G.size d2,Kh G.size d3⟩
 have HC:Hid (∀V,Kc W V->V.cell? ⟨g,10,none⟩=some (.bool p.bl.ev)/\V.cell? ⟨g,11,none⟩=some (.bool p.bl.ft)):=fun V G=>⟨(h.below G).c3,(h.below G).c4⟩
 unfold Pr.brk
 generalize p.fits n need=f at *
 generalize p.bl.ev=ev at *
 generalize p.bl.ft=ft at *
 clear h O J;cases ev
 ·cases f
  ·go_enter func202,ntmps202
   go_wp2_with fail
   refine M.out.mono ?_;rintro e I⟨rfl,u⟩;obtain⟨y1,y2⟩:=HC.out _ u;have F:=ku u;clear u
   go_wp2_with(go_at_call 203;refine(HE.out _ F.out).mono ?_;rintro e w2⟨rfl,H⟩)
   go_end0
   exact⟨rfl,H⟩
  ·go_enter func202,ntmps202
   go_wp2_with fail
   refine M.out.mono ?_;rintro e I⟨rfl,u⟩;obtain⟨y1,y2⟩:=HC.out _ u;have F:=ku u;clear u
   go_wp2_with(go_at_call 201;refine(HH.out _ F.out).mono ?_;rintro e w2⟨rfl,H⟩)
   go_end0
   exact⟨rfl,H⟩
 ·cases ft
  ·go_enter func202,ntmps202
   go_wp2_with fail
   refine M.out.mono ?_;rintro e I⟨rfl,u⟩;obtain⟨y1,y2⟩:=HC.out _ u;have F:=ku u;clear u
   go_wp2_with(go_at_call 203;refine(HE.out _ F.out).mono ?_;rintro e w2⟨rfl,H⟩)
   go_end0
   exact⟨rfl,H⟩
  ·go_enter func202,ntmps202
   go_wp2_with fail
   refine M.out.mono ?_;rintro e I⟨rfl,u⟩;obtain⟨y1,y2⟩:=HC.out _ u;have F:=ku u;clear u
   go_wp2_with(go_at_call 201;refine(HH.out _ F.out).mono ?_;rintro e w2⟨rfl,H⟩)
   go_end0
   exact⟨rfl,H⟩
theorem fO {hd:nK}{B:Nat}{w0:World}{own:Nat->Nat}{W:World}{g gs n:Nat}{p:Pr}(h:cM hd B w0 own W g gs n p) {U:Nat}(J:Bp p U) (hU:U<=2147483647) :
  Kb 204 #[.pointer (some ⟨g,7,none⟩)] W fun e w'=>e=.returned (.tuple #[])/\fT hd B w0 own W g gs n (if p.en then { p with sk:=p.sk.empty,en:=false }else p) w':=by
 have aa:=h.lt;have c6:=h.c6;have c1:=h.c1;have M:=J.out
 have O:Hid (Kb 262 #[.pointer (some ⟨gs,0,none⟩)] W fun e w'=>e=.returned (.int .i64 0)/\Hid (fT hd B w0 own W g gs n { p with sk:=p.sk.empty } w')/\w'.cell? ⟨g,13,none⟩=some (.bool p.en)/\w'.frozen? ⟨g,13,none⟩=false):=by
  refine(BI h.sk h.en (by omega) (by omega)).mono ?_;rintro e w'⟨rfl,ha⟩;obtain⟨own',u,G,F⟩:=h.sink ha;exact⟨rfl,⟨own',u,G,F⟩,u.c6,u.fz 13⟩
 have HE:Hid (fT hd B w0 own W g gs n p W):=⟨own,h,Sd.refl _ _,ge _⟩;clear h J;cases I:p.en
 ·rw[I]at c6
  go_enter func204,ntmps204
  go_wp2_with fail
  go_end0
  exact⟨rfl,HE.out⟩
 ·rw[I]at c6
  go_enter func204,ntmps204
  go_wp2_with fail
  refine O.out.mono ?_;rintro e w1⟨rfl,HP,y6,f6⟩
  go_wp2_with fail
  go_end0
  obtain⟨own',u,G,F⟩:=HP.out;have H:=u.sett false;exact⟨rfl,own',H.1,G.trans F H.2,Kh F (Kp.set _ g 13 (.bool false)).size⟩
theorem zq {hd:nK}{B:Nat}{w0:World}{own:Nat->Nat}{W:World}{g gs n:Nat}{p:Pr}(h:cM hd B w0 own W g gs n p) {U:Nat}(I:Bp p U) (J:U<=2147483647) :
  Kb 115 #[.pointer (some ⟨g,7,none⟩)] W fun e w'=>e=.returned (.string ⟨p.sk.out.toArray⟩)/\fT hd B w0 own W g gs n { p with sk:=p.sk.take } w':=by
 have u:=I.out
 have F:Hid (Kb 158 #[.pointer (some ⟨gs,0,none⟩)] W fun e w'=>e=.returned (.string ⟨p.sk.out.toArray⟩)/\fT hd B w0 own W g gs n { p with sk:=p.sk.take } w'):=by
  refine(Ds h.sk h.en (by omega) (by omega)).mono ?_;rintro e w'⟨rfl,H⟩;exact⟨rfl,h.sink H⟩
 have c1:=h.c1;clear h
 go_enter func115,ntmps115
 go_wp2_with(go_at_call 158;refine F.out.mono ?_;rintro e M⟨rfl,G⟩)
 go_ret
 exact⟨rfl,G⟩
theorem cM.box {hd:nK}{B:Nat}{w0:World}{own:Nat->Nat}{W:World}{g gs n:Nat}{p:Pr}(h:cM hd B w0 own W g gs n p) (o:Obj):cM hd B w0 own (W.alloc o) g gs n p/\(W.alloc o).heap[W.heap.size]?=some o/\own W.heap.size=0/\Sd own own W (W.alloc o)/\W.heap.size<=(W.alloc o).heap.size:=
 ⟨h.below ((gt _ _).alloc (ge _) _),am _ _,h.en.nf _ (ge _),fun k F u=>⟨Below.heap_alloc W o k F,u⟩,by rw[Eq];omega⟩
theorem fT.of {hd:nK}{B:Nat}{w0:World}{own:Nat->Nat}{W:World}{g gs n:Nat}{p:Pr}(h:cM hd B w0 own W g gs n p) (o:Obj) {u:Pr}{w':World}(I:fT hd B w0 own (W.alloc o) g gs n u w'):fT hd B w0 own W g gs n u w':=by
 obtain⟨own',F,G,H⟩:=I;obtain⟨_,_,_,b1,b2⟩:=h.box o;exact⟨own',F,b1.trans b2 G,Kh b2 H⟩
section
variable {hd:nK} {B:Nat} {w0:World} {own:Nat->Nat} {W:World} {g gs n:Nat} {p:Pr}
theorem yl (h:cM hd B w0 own W g gs n p) {U:Nat}(I:Bp p U) (hU:U<=2147483647) (need:Nat) (t:ByteArray) (ht:t.size<=65535) :
  Kb 155 #[.pointer (some ⟨g,7,none⟩),.agg #[.int .u8 1,.string t,.int .i64 0,.int .i64 0,.bool false],.int .i64 need] W fun e w'=>e=.returned (.tuple #[])/\fT hd B w0 own W g gs n { p with sk:=p.sk.text t,en:=false } w':=by
 have ab:=I.col;have ac:=I.out;have c1:=h.c1;have ad:=h.lt;obtain⟨W1,u⟩:∃W1,W.alloc (.cells #[.int .u8 1,.string t,.int .i64 0,.int .i64 0,.bool false] 151)=W1:=⟨_,rfl⟩;obtain⟨b1,b2,b3,b4,b5⟩:=h.box (.cells #[.int .u8 1,.string t,.int .i64 0,.int .i64 0,.bool false] 151);rw[u]at b1 b2 b4 b5;have x1:W1.cell? ⟨W.heap.size,1,none⟩=some (.string t):=aa b2 rfl;have M:=b1.c1
 have HB:Hid (∀V,V=W1.drew->Kb 200 #[.pointer (some ⟨gs,0,none⟩),.string t] V fun e w'=>e=.returned (.int .i64 0)/\Hid (fT hd B w0 own W g gs n { p with sk:=p.sk.text t } w')/\w'.cell? ⟨g,8,none⟩=some (.pointer (some ⟨gs,0,none⟩))/\w'.cell? ⟨W.heap.size,1,none⟩=some (.string t)/\w'.cell? ⟨g,13,none⟩=some (.bool p.en)/\w'.frozen? ⟨g,13,none⟩=false):=by
  intro V hV;subst hV;have hd:=b1.below (gt _ W1).drew;refine(Di hd.sk hd.en (by omega) t (by omega)).mono ?_;rintro e w'⟨rfl,ha⟩;obtain⟨own',F,G,H⟩:=hd.sink ha;have O:=G W.heap.size (ai b2) b3;exact⟨rfl,⟨own',F,b4.trans b5 G,Kh b5 H⟩,F.c1,aa (O.1.trans b2) rfl,F.c6,F.fz 13⟩
 have J:=ku u;clear h I b1 b2 b4 b5 u
 go_enter func155,ntmps155
 go_wp2_with fail
 rw[J.out]
 go_region_held3 (fun w'=>w'.cell? ⟨g,8,none⟩=some (.pointer (some ⟨gs,0,none⟩))/\w'.cell? ⟨W.heap.size,1,none⟩=some (.string t)) (first|(exact⟨by assumption,by assumption⟩)|(exact⟨M,x1⟩)|go_keep) (first|(go_at_call 200;refine(HB.out _ rfl).mono ?_;rintro e w1⟨rfl,HP,y1,y2,y6,f6⟩))
 all_goals(
  go_wp2_with fail
  go_end0
  obtain⟨own',F,G,H⟩:=HP.out;have a4:=F.sett false;exact⟨rfl,own',a4.1,G.trans H a4.2,Kh H (Kp.set _ g 13 (.bool false)).size⟩)
theorem tS (h:cM hd B w0 own W g gs n p) {U:Nat}(F:Bp p U) (I:U<=2147483647) (need:Nat) :
  Kb 155 #[.pointer (some ⟨g,7,none⟩),.agg #[.int .u8 2,.string ⟨#[]⟩,.int .i64 0,.int .i64 0,.bool false],.int .i64 need] W fun e w'=>e=.returned (.tuple #[])/\fT hd B w0 own W g gs n (p.hold 1) w':=by
 have G:Hid (∀o,Kb 201 #[.pointer (some ⟨g,7,none⟩),.int .i64 1] (W.alloc o) fun e w'=>e=.returned (.tuple #[])/\fT hd B w0 own W g gs n (p.hold 1) w'):=fun o=>
  (nr (h.box o).1 F I 1 (by omega)).mono fun e w' ⟨u,H⟩=>⟨u,fT.of h o H⟩
 clear h F
 go_enter func155,ntmps155
 go_wp2_with(go_at_call 201;refine(G.out _).mono ?_;rintro e J⟨rfl,u⟩)
 go_end0
 exact⟨rfl,u⟩
theorem ym (h:cM hd B w0 own W g gs n p) {U:Nat}(F:Bp p U) (I:U<=2147483647) (need:Nat) :
  Kb 155 #[.pointer (some ⟨g,7,none⟩),.agg #[.int .u8 4,.string ⟨#[]⟩,.int .i64 0,.int .i64 0,.bool false],.int .i64 need] W fun e w'=>e=.returned (.tuple #[])/\fT hd B w0 own W g gs n p.endl w':=by
 have G:Hid (∀o,Kb 203 #[.pointer (some ⟨g,7,none⟩)] (W.alloc o) fun e w'=>e=.returned (.tuple #[])/\fT hd B w0 own W g gs n p.endl w'):=fun o=>
  (nt (h.box o).1 F I).mono fun e w' ⟨u,H⟩=>⟨u,fT.of h o H⟩
 clear h F
 go_enter func155,ntmps155
 go_wp2_with(go_at_call 203;refine(G.out _).mono ?_;rintro e J⟨rfl,u⟩)
 go_end0
 exact⟨rfl,u⟩
theorem Bf (h:cM hd B w0 own W g gs n p) {U:Nat}(hp:Bp p U) (hU:U<=2147483647) (need:Nat) (M:need<=1000000000000000) (hn:n<=4096) (m:Nat) (hm:m<=1000) :
  Kb 155 #[.pointer (some ⟨g,7,none⟩),.agg #[.int .u8 3,.string ⟨#[]⟩,.int .i64 m,.int .i64 0,.bool false],.int .i64 need] W fun e w'=>e=.returned (.tuple #[])/\fT hd B w0 own W g gs n (if p.brk n need then p.endl else p.hold m) w':=by
 obtain⟨W1,F⟩:∃W1,W.alloc (.cells #[.int .u8 3,.string ⟨#[]⟩,.int .i64 m,.int .i64 0,.bool false] 151)=W1:=⟨_,rfl⟩;have u:=h.box (.cells #[.int .u8 3,.string ⟨#[]⟩,.int .i64 m,.int .i64 0,.bool false] 151);rw[F]at u;have x2:W1.cell? ⟨W.heap.size,2,none⟩=some (.int .i64 m):=aa u.2.1 rfl
 have O:Hid (∀V,Kc W1 V->Kb 202 #[.pointer (some ⟨g,7,none⟩),.int .i64 m,.int .i64 need] V fun e w'=>e=.returned (.tuple #[])/\fT hd B w0 own W g gs n (if p.brk n need then p.endl else p.hold m) w'):=fun V G=>by
  obtain⟨b1,b2,b3,b4,H⟩:=u;refine(oj (b1.below G) hp hU need M hn m hm).mono ?_;rintro e w'⟨rfl,own',d1,d2,d3⟩;exact⟨rfl,own',d1,(b4.trans H (fun k hk h0=>⟨G.block k hk,h0⟩)).trans (Kh H G.size) d2,Kh (Kh H G.size) d3⟩
 have J:=ku F;clear u h hp F
 generalize(if p.brk n need then p.endl else p.hold m)=P1 at *
 go_enter func155,ntmps155
 go_wp2_with fail
 rw[J.out]
 first
 | (refine(O.out _ (gt _ _)).mono ?_;rintro e w2⟨rfl,I⟩;go_wp2_with fail;go_end0;exact⟨rfl,I⟩)
 | (go_region_with (go_at_call 202;refine(O.out _ (by first|exact(gt _ _).drew|exact gt _ _)).mono ?_;rintro e w2⟨rfl,I⟩);all_goals(go_wp2_with fail);all_goals go_end0;all_goals exact⟨rfl,I⟩)
theorem tR (h:cM hd B w0 own W g gs n p) {U:Nat}(F:Bp p U) (I:U<=2147483647) (need:Nat) :
  Kb 155 #[.pointer (some ⟨g,7,none⟩),.agg #[.int .u8 5,.string ⟨#[]⟩,.int .i64 0,.int .i64 0,.bool false],.int .i64 need] W fun e w'=>e=.returned (.tuple #[])/\fT hd B w0 own W g gs n (if p.en then { p with sk:=p.sk.empty,en:=false }else p) w':=by
 have G:Hid (∀o,Kb 204 #[.pointer (some ⟨g,7,none⟩)] (W.alloc o) fun e w'=>e=.returned (.tuple #[])/\fT hd B w0 own W g gs n (if p.en then { p with sk:=p.sk.empty,en:=false }else p) w'):=fun o=>
  (fO (h.box o).1 F I).mono fun e w' ⟨u,H⟩=>⟨u,fT.of h o H⟩
 clear h F
 generalize(if p.en then { p with sk:=p.sk.empty,en:=false }else p)=P1 at *
 go_enter func155,ntmps155
 go_wp2_with(go_at_call 204;refine(G.out _).mono ?_;rintro e J⟨rfl,u⟩)
 go_end0
 exact⟨rfl,u⟩
end
