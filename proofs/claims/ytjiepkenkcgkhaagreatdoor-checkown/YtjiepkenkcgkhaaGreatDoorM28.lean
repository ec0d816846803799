import Derived.Test.YtjiepkenkcgkhaaGreatDoorM27
set_option linter.unusedVariables false
set_option linter.unusedSimpArgs false
set_option maxHeartbeats 1000000
namespace Go.Proofs.YtjiepkenkcgkhaaGreatDoor
open Go.RowKit
variable {W:World}{ao:Option Addr}{l:List Tv}{cap:Nat}
theorem BM (hl:Lt W ao l) (hn:l.length<=4194304) {E:List Ev}{a:Nat}{code:Int}(ha:gA (.live [] 0) l E code a) (hc:code≠0) {t:Tv}(hat:l[a]?=some t) :
  Ra 25 #[.slice ao l.length cap] W fun r w'=>∃g,r=.returned (.tuple #[dY 0 aB (.slice none 0 0),nL g])/\w'.heap[g]?=some (qq code t.a t.l t.c)/\W.heap.size<=g/\Below W.heap.size W w':=by
 obtain ⟨W0,e0⟩:∃W0,W.alloc (bv 0 aB (.slice none 0 0))=W0:=⟨_,rfl⟩;have h0:Below W.heap.size W W0:=by rw [<-e0];exact (hH _ _).alloc (gt _) _
 have hz:W0.heap.size=W.heap.size+1:=by rw [<-e0];simp
 have hb0:W0.heap[W.heap.size]?=some (bv 0 aB (.slice none 0 0)):=by rw [<-e0];exact au _ _
 have HP:Hid (Ra 61 #[.slice ao l.length cap] W0 (Pj W0 E code a)):=sf (hl.below h0) hn ha;have H0:Hid (Below W.heap.size W W0/\W0.heap.size=W.heap.size+1/\W0.heap[W.heap.size]?=some (bv 0 aB (.slice none 0 0))/\Lt W0 ao l):=⟨h0,hz,hb0,hl.below h0⟩;obtain ⟨g,hg⟩:∃g,W.heap.size=g:=⟨_,rfl⟩;have HF:Hid (∀V,Ra 8 #[.int .i64 code,.agg #[.int .i64 t.a,.int .i64 t.l,.int .i64 t.c]] V fun r w'=>∃g,r=.returned (nL g)/\w'.heap[g]?=some (qq code t.a t.l t.c)/\V.heap.size<=g/\Below V.heap.size V w'):=fun V=>jt code t.a t.l t.c hc V
 have hlt:=(QT.1 hat).1;have q1:(a:Int)<l.length:=by omega
 have q0:(0:Int)<=a:=by omega
 have q2:(code == 0)=false:=by simpa using hc
 have hif:((if code=0 then 0 else a:Nat):Int)=a:=by rw [Eq hc]
 have HT:Hid (∀V,Below W0.heap.size W0 V->∃b off,ao=some ⟨b,off,none⟩/\V.cell? ⟨b,off+a*6+2,none⟩=some (.int .i64 t.a)/\V.cell? ⟨b,off+a*6+3,none⟩=some (.int .i64 t.l)/\V.cell? ⟨b,off+a*6+4,none⟩=some (.int .i64 t.c)):=fun V hb=>by
  obtain ⟨b,off,e,_,_,y2,y3,y4,_⟩:=(H0.out.2.2.2.below hb) a t hat;exact ⟨b,off,e,y2,y3,y4⟩
 dsimp only [bv,aB] at e0
 clear hl hn ha h0 hz hb0 hat hc
 go_enter Tryz.func25,Tryz.ntmps25
 go_wp2_with fail
 try rw [e0]
 try rw [hg]
 clear e0;refine HP.out.mono ?_;rintro e w4 ⟨hb4,n,p,cv,rfl,ht,hn0,hn1⟩;rw [hif];obtain ⟨V4,eV4⟩:∃V4,w4.alloc (bv n.k n.d (.slice p n.c.length cv))=V4:=⟨_,rfl⟩;obtain ⟨g4,hg4⟩:∃g4,w4.heap.size=g4:=⟨_,rfl⟩
 have H4:Hid (Below W0.heap.size W0 V4/\V4.heap[g]?=some (bv 0 aB (.slice none 0 0))):=by
  have hx:Below w4.heap.size w4 V4:=by rw [<-eV4];exact (hH _ _).alloc (gt _) _
  have hy:Below W0.heap.size W0 V4:=hb4.trans (hx.mono hb4.size);exact ⟨hy,ag (by rw [<-hg];exact H0.out.2.2.1) hy⟩
 dsimp only [bv] at eV4
 obtain ⟨b,off,rfl,y2,y3,y4⟩:=HT.out V4 H4.out.1;clear hb4 ht hn0 hn1 HP hif
 go_wp2_with fail
 try rw [eV4]
 try rw [hg4]
 clear eV4 hg4
 go_wp2_with (go_at_call 8;refine (HF.out _).mono ?_;rintro r w5 ⟨g5,rfl,y5,y6,y7⟩;have H5:Hid (w5.heap[g5]?=some (qq code t.a t.l t.c)/\V4.heap.size<=g5/\Below V4.heap.size V4 w5/\w5.heap[g]?=some (bv 0 aB (.slice none 0 0))):=⟨y5,y6,y7,ag H4.out.2 y7⟩;clear y5 y6 y7;obtain ⟨⟨r0,r1,r2,r3,r4,r5,r6,r7⟩,rl⟩:=aD H5.out.2.2.2;obtain ⟨f0,f1,f2,f3,f4,f5,f6,f7⟩:=bC H5.out.2.2.2)
 have hW4:Below W.heap.size W V4:=H0.out.1.trans (H4.out.1.mono H0.out.1.size);have h9:=Bb (W:=W) (g:=g) H5.out.2.2.2 (hW4.trans (H5.out.2.2.1.mono hW4.size)) (by omega) 0 aB (.slice none 0 0);obtain ⟨w9,e9⟩:∃w9,aH w5 g 0 aB (.slice none 0 0)=w9:=⟨_,rfl⟩;rw [e9] at h9
 dsimp only [aH,aB] at e9
 rw [e9];obtain ⟨⟨x0,x1,x2,x3,x4,x5,x6,x7⟩,xl⟩:=aD h9.1
 dsimp only [aB] at x0 x1 x2 x3 x4 x5 x6 x7
 refine QV (v:=.tuple #[dY 0 aB (.slice none 0 0),nL g5]) (by simp [results,Tryz.f25,go_sem,x0,x1,x2,x3,x4,x5,x6,x7,aB]) rfl ?_;have h5:=H5.out.2.1;have h6:=hW4.size;have h7:=H4.out.1.size;have h8:=H0.out.2.1;refine ⟨g5,rfl,?_,by omega,h9.2.1⟩;have hz:=h9.2.2.block g5 (aq H5.out.1) (fun e=>by have e':g5=g:=e;omega);rw [hz];exact H5.out.1
theorem BL (hl:Lt W ao l) (hn:l.length<=4194304) {E:List Ev}{a:Nat}{code:Int}(ha:gA (.live [] 0) l E code a) (hc:code≠0) (hat:a=l.length) :
  Ra 25 #[.slice ao l.length cap] W fun r w'=>r=.returned (.tuple #[dY 0 aB (.slice none 0 0),.iface 32 (.int .i64 code)])/\Below W.heap.size W w':=by
 obtain ⟨W0,e0⟩:∃W0,W.alloc (bv 0 aB (.slice none 0 0))=W0:=⟨_,rfl⟩;have h0:Below W.heap.size W W0:=by rw [<-e0];exact (hH _ _).alloc (gt _) _
 have hb0:W0.heap[W.heap.size]?=some (bv 0 aB (.slice none 0 0)):=by rw [<-e0];exact au _ _
 have HP:Hid (Ra 61 #[.slice ao l.length cap] W0 (Pj W0 E code a)):=sf (hl.below h0) hn ha;have H0:Hid (Below W.heap.size W W0/\W0.heap[W.heap.size]?=some (bv 0 aB (.slice none 0 0))):=⟨h0,hb0⟩;obtain ⟨g,hg⟩:∃g,W.heap.size=g:=⟨_,rfl⟩;have q1:¬((a:Int)<l.length):=by omega
 have q2:(code == 0)=false:=by simpa using hc
 have hif:((if code=0 then 0 else a:Nat):Int)=a:=by rw [Eq hc]
 dsimp only [bv,aB] at e0
 clear hl hn ha h0 hb0 hat hc
 go_enter Tryz.func25,Tryz.ntmps25
 go_wp2_with fail
 try rw [e0]
 try rw [hg]
 clear e0;refine HP.out.mono ?_;rintro e w4 ⟨hb4,n,p,cv,rfl,ht,hn0,hn1⟩;rw [hif];obtain ⟨V4,eV4⟩:∃V4,w4.alloc (bv n.k n.d (.slice p n.c.length cv))=V4:=⟨_,rfl⟩;obtain ⟨g4,hg4⟩:∃g4,w4.heap.size=g4:=⟨_,rfl⟩
 have H4:Hid (Below W0.heap.size W0 V4/\V4.heap[g]?=some (bv 0 aB (.slice none 0 0))):=by
  have hx:Below w4.heap.size w4 V4:=by rw [<-eV4];exact (hH _ _).alloc (gt _) _
  have hy:Below W0.heap.size W0 V4:=hb4.trans (hx.mono hb4.size);exact ⟨hy,ag (by rw [<-hg];exact H0.out.2) hy⟩
 dsimp only [bv] at eV4
 obtain ⟨⟨r0,r1,r2,r3,r4,r5,r6,r7⟩,rl⟩:=aD H4.out.2;obtain ⟨f0,f1,f2,f3,f4,f5,f6,f7⟩:=bC H4.out.2;clear hb4 ht hn0 hn1 HP hif
 go_wp2_with fail
 try rw [eV4]
 try rw [hg4]
 clear eV4 hg4
 go_wp2_with fail
 have hW4:Below W.heap.size W V4:=H0.out.1.trans (H4.out.1.mono H0.out.1.size);have h9:=Bb (W:=W) (g:=g) H4.out.2 hW4 (by omega) 0 aB (.slice none 0 0);obtain ⟨w9,e9⟩:∃w9,aH V4 g 0 aB (.slice none 0 0)=w9:=⟨_,rfl⟩;rw [e9] at h9
 dsimp only [aH,aB] at e9
 rw [e9];obtain ⟨⟨x0,x1,x2,x3,x4,x5,x6,x7⟩,xl⟩:=aD h9.1
 dsimp only [aB] at x0 x1 x2 x3 x4 x5 x6 x7
 refine QV (v:=.tuple #[dY 0 aB (.slice none 0 0),.iface 32 (.int .i64 code)]) (by simp [results,Tryz.f25,go_sem,x0,x1,x2,x3,x4,x5,x6,x7,aB]) rfl ?_;exact ⟨rfl,h9.2.1⟩
end Go.Proofs.YtjiepkenkcgkhaaGreatDoor
