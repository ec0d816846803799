import Derived.Defers
import Derived.Test.YtcmbkeghnmgbfaaGreatDoorM37
set_option linter.all false
namespace Go.Proofs.YtcmbkeghnmgbfaaGreatDoor
open Go.Proofs.Tryz
open Go.RowKit
variable {W:World}{g:Nat}{t:Tv}
theorem zN (u:FrameMode) {W:World}{g:Nat}{c:Bool}{e n:Int}{vs vt:Value}(h:PB W g c e n vs vt):CallsD Tryz.prog 74 #[pt g] u W fun r G w'=>G=u/\(r=.returned (.tuple #[])/\PB w' g true 0 0 aS aS/\Kp (fun k=>k=g) W w'):=by
 obtain⟨c0,c1,c2,c3,c4⟩:=h.cells;have H:=h.frozen 0;have I:=h.frozen 1;have J:=h.frozen 2;have M:=h.frozen 3;have O:=h.frozen 4
 have F:Hid (PB (((((W.setCell ⟨g,0,none⟩ (.bool true)).setCell ⟨g,1,none⟩ (.int .i64 0)).setCell ⟨g,2,none⟩ (.int .i64 0)).setCell ⟨g,3,none⟩ aS).setCell ⟨g,4,none⟩ aS) g true 0 0 aS aS/\Kp (fun k=>k=g) W (((((W.setCell ⟨g,0,none⟩ (.bool true)).setCell ⟨g,1,none⟩ (.int .i64 0)).setCell ⟨g,2,none⟩ (.int .i64 0)).setCell ⟨g,3,none⟩ aS).setCell ⟨g,4,none⟩ aS)):=
  ⟨ab (ab (ab (ab (ab h 0 _) 1 _) 2 _) 3 _) 4 _,(((((Kp.set W g 0 _).trans (Kp.set _ g 1 _)).trans (Kp.set _ g 2 _)).trans (Kp.set _ g 3 _)).trans (Kp.set _ g 4 _))⟩
 clear h
 go_enter_d func74,ntmps74
 go_wp2_with fail
 go_end0
 exact⟨rfl,F.out⟩
theorem nD {S:Nat->Prop}{W:World}{g:Nat}{c:Bool}{e n:Int}{vs vt:Value}(h:PB W g c e n vs vt) (u:S g) (hc:(if c then 4 else e)≠0) :
  Kb 39 #[pt g] W fun r w'=>r=.returned (.tuple #[aS,.int .i64 (if c then 4 else e)])/\Pa S g W w' aS [] .shut:=by
 obtain⟨z,H⟩:∃z:Int,(if c then 4 else e)=z:=⟨_,rfl⟩
 have M:Hid (Kb 57 #[pt g] W fun r w'=>r=.returned (.int .i64 z)/\w'=W):=by
  have:=eU h;rw[H]at this;exact this
 rw[H]at hc ⊢;have aa:(z != 0)=true:=by simpa using hc
 have J:=ku (zN .returning h);have O:Hid (∀w',PB w' g true 0 0 aS aS->Kp (fun k=>k=g) W w'->Pa S g W w' aS [] .shut):=fun w' G F=>oy ⟨G,u⟩ (F.sub (fun k e=>by rw[e];exact u))
 clear h H hc u
 go_enter_defers func39,ntmps39
 go_wp2_with(go_at_call 57;refine M.out.mono ?_;rintro r w1⟨rfl,hw⟩;subst hw)
 refine Mn (f:=74) (args:=#[pt g]) (by simp) (by simp[go_sem]) ?_;refine J.out.mono ?_;rintro r I w2⟨rfl,rfl,G,F⟩;exact⟨_,(by simp[results,Tryz.f39,go_sem]),rfl,O.out _ G F⟩
theorem GI (W:World) (d:Ev):Re (W.alloc (.cells #[.int .u8 d.k,.int .u8 d.n,.int .u8 d.d.k,.string d.d.t,.int .i64 d.d.a,.int .i64 d.d.l,.int .i64 d.d.c,.int .i64 d.d.f] 135)) (.slice (some ⟨W.heap.size,0,none⟩) 1 1) [d]:=by
 refine⟨rfl,.inr ⟨_,1,_,rfl,Kj _,am W _,ge _,by unfold maxLen;omega,rfl,?_⟩⟩;simp[BO,au,Ev.cs]
set_option maxHeartbeats 1000000 in
theorem uf {S:Nat->Prop}{K:List It}{n:Int}{D:Nat->Prop}{vs:Value}(h:Jp S W g K n D vs) (hl:∀k,S k->k<W.heap.size) (hK:K.length<=1000000) {ev:List Ev}{G:Int}(u:uv (.live K n) ev G) :
  Kb 39 #[pt g] W fun r w'=>∃v,r=.returned (.tuple #[v,.int .i64 G])/\Pa S g W w' v ev .shut:=by
 have HR:=ku (eU h.ps.pb);obtain⟨xs,r1,r2⟩:=h.ps.st;have I:xs.length=K.length:=by rw[r2.len,KZ]
 obtain⟨pp,cp,rfl,_⟩:=r1.shape;obtain⟨c0,c1,c2,c3,c4⟩:=h.ps.pb.cells;have O:=ku fun V (hb:Below W.heap.size W V)=>zN .returning (h.ps.pb.below hb)
 have H:=h.sg;have HS:Hid (∀w',PB w' g true 0 0 aS aS->Kp (fun k=>k=g) W w'->Pa S g W w' aS [] .shut):=fun w' u F=>oy ⟨u,H⟩ (F.sub (fun k e=>by rw[e];exact H))
 have HT:Hid (∀w',PB w' g true 0 0 aS aS->Kp (fun k=>k=g) (W.alloc (.cells #[.int .u8 3,.int .u8 1,.int .u8 0,.string ⟨#[]⟩,.int .i64 0,.int .i64 0,.int .i64 0,.int .i64 0] 135)) w'->Pa S g W w' (.slice (some ⟨W.heap.size,0,none⟩) 1 1) [⟨3,1,cD⟩] .shut):=fun w' u F=>by
  have hg:=h.ps.pb.lt;refine⟨(GI W ⟨3,1,cD⟩).kp F (fun k e=>?_),⟨S,⟨u,H⟩,fun _ h=>h,fun _ h=>.inl h,fun k e=>?_⟩,((Kp.of_below (aq W _)).step F (fun k _ e=>by rw[e];exact H))⟩
  ·cases e;show ¬W.heap.size=g;omega
  ·cases e;exact⟨ge _,fun h=>absurd (hl _ h) (N0 _)⟩
 have HB:Hid (∀o,Below W.heap.size W (W.alloc o)):=fun o=>aq W o
 have aa:=h.ps.pb.lt;have HL:Hid (xs.length=K.length/\K.length<=1000000):=⟨I,hK⟩;clear h hl H r1 r2 I hK;cases u with
 |all h1=>
  have q1:((xs.length:Int) != 1)=false:=by rw[HL.out.1,h1];rfl
  clear h1
  go_enter_defers func39,ntmps39
  go_wp2_with(go_at_call 57;refine HR.out.mono ?_;rintro r w1⟨rfl,J⟩;subst J)
  refine Mn (f:=74) (args:=#[pt g]) (by simp) (by simp[go_sem]) ?_;refine(O.out _ (HB.out _)).mono ?_;rintro r M w2⟨rfl,rfl,u,F⟩;exact⟨_,(by simp[results,Tryz.f39,go_sem]),_,rfl,HT.out _ u F⟩
 | «open» h1=>
  have q1:((xs.length:Int) != 1)=true:=by rw[HL.out.1];simp;omega
  clear h1
  go_enter_defers func39,ntmps39
  go_wp2_with(go_at_call 57;refine HR.out.mono ?_;rintro r w1⟨rfl,J⟩;subst J)
  refine Mn (f:=74) (args:=#[pt g]) (by simp) (by simp[go_sem]) ?_;refine(O.out _ (gt _ _)).mono ?_;rintro r M w2⟨rfl,rfl,u,F⟩;exact⟨_,(by simp[results,Tryz.f39,go_sem]),_,rfl,HS.out _ u F⟩
theorem Au {S:Nat->Prop}{st:jd}(h:Pq S W g st) (hl:∀k,S k->k<W.heap.size) (I:st.ok) {t:Tv}{F:List Ev}{u:Int}{st':jd}(H:jZ t st F u st') :
  Kb 32 #[pt g,t.v] W fun r w'=>∃v,r=.returned (.tuple #[v,.int .i64 u])/\Pa S g W w' v F st':=by
 cases st with
 |live K n=>obtain⟨D,vs,h⟩:=h;exact Ac h hl I H
 |stuck e n=>
  obtain⟨rfl,rfl,rfl⟩:F=[]/\u=e/\st'=.stuck e n:=by cases H;exact⟨rfl,rfl,rfl⟩
  refine(vc (st:=.stuck u n) h hl t (c:=false) (e:=u) (n:=n) h.1 I).mono ?_;rintro r w'⟨rfl,G⟩;exact⟨_,rfl,G⟩
 |shut=>
  cases H;refine(vc (st:=.shut) h hl t (c:=true) (e:=0) (n:=0) h.1 (by decide)).mono ?_;rintro r w'⟨rfl,G⟩;exact⟨_,rfl,G⟩
theorem yI {S:Nat->Prop}{st:jd}(h:Pq S W g st) (hl:∀k,S k->k<W.heap.size) (I:st.ok) {F:List Ev}{u:Int}(H:uv st F u) :
  Kb 39 #[pt g] W fun r w'=>∃v,r=.returned (.tuple #[v,.int .i64 u])/\Pa S g W w' v F .shut:=by
 cases st with
 |live K n=>obtain⟨D,vs,h⟩:=h;exact uf h hl (by have:=I.sk;omega) H
 |stuck e n=>
  obtain⟨rfl,rfl⟩:F=[]/\u=e:=by cases H;exact⟨rfl,rfl⟩
  refine(nD (c:=false) (e:=u) h.1 h.2 I).mono ?_;rintro r w'⟨rfl,G⟩;exact⟨_,rfl,G⟩
 |shut=>
  cases H;refine(nD (c:=true) (e:=0) h.1 h.2 (by decide)).mono ?_;rintro r w'⟨rfl,G⟩;exact⟨_,rfl,G⟩
theorem GR (W:World):Kb 23 #[] W fun r w'=>r=.returned (pt W.heap.size)/\Pq (fun k=>k=W.heap.size) w' W.heap.size (.live [] 0)/\Below W.heap.size W w'/\w'.heap.size=W.heap.size+1:=by
 refine(oA W).mono ?_;rintro r w'⟨rfl,rfl⟩;refine⟨rfl,⟨fun _=>False,aS,⟨am _ _,⟨[],GD _,.nil⟩,sX _,(fun h=>h),(fun k e=>by cases e),(fun k e=>by cases e),(fun k h=>False.elim h)⟩,rfl,(fun k e=>by cases e),(fun k h=>False.elim h)⟩,aq _ _,by rw[Eq]⟩
def DH (t:Tv):Nat->List It->Int->List Ev->Option (Nat × Ro)
 |0,_,_,_=>none
 |f+1,[],n,E=>some (0,.no)
 |f+1,i :: K,n,E=>match It.step t i with
  |.ref=>some (0,.no)
  |.tk=>some (0,.yes K n E)
  |.go d o r=>match DH t f (r++K) (n+d) (E++o)with
   |some (k,R)=>some (k+1,R)
   |none=>none
theorem zX :∀(f:Nat) (K:List It) (n:Int) (E:List Ev) (k:Nat) (R:Ro),DH t f K n E=some (k,R)->Ru t k K n E R
 |0,_,_,_,_,_,h=>by cases h
 |f+1,[],n,E,k,R,h=>by cases h;exact .nil
 |f+1,i :: K,n,E,k,R,h=>by
  simp only[DH]at h;cases u:It.step t i with
  |ref=>rw[u]at h;cases h;exact .ref u
  |tk=>rw[u]at h;cases h;exact .tk u
  |go d o r=>
   rw[u]at h;simp only at h;cases F:DH t f (r++K) (n+d) (E++o)with
   |none=>rw[F]at h;cases h
   |some x=>
    obtain⟨H,G⟩:=x;rw[F]at h;cases h;exact .go u (zX f _ _ _ _ _ F)
def DQ (t:Tv):jd->Option (List Ev × Int × jd)
 |.live K n=>if(t.k==7||t.k==8)then some (ec n++[⟨4,0,t⟩],0,.live (beg K n) (eM n))else match DH t 20 (beg K n) (eM n) (ec n)with
  |some (k,.yes L m E)=>if m<=1000 then some (E++[⟨2,0,t⟩],0,.live L m)else none
  |some (k,.no)=>some ([],120,.stuck 120 n)
  |none=>none
 |_=>none
theorem zW :∀(f:Nat) (K:List It) (n:Int) (E:List Ev) (k:Nat) (R:Ro),DH t f K n E=some (k,R)->k+1<=f
 |0,_,_,_,_,_,h=>by cases h
 |f+1,[],n,E,k,R,h=>by cases h;omega
 |f+1,i :: K,n,E,k,R,h=>by
  simp only[DH]at h;cases F:It.step t i with
  |ref=>rw[F]at h;cases h;omega
  |tk=>rw[F]at h;cases h;omega
  |go d o r=>
   rw[F]at h;simp only at h;cases u:DH t f (r++K) (n+d) (E++o)with
   |none=>rw[u]at h;cases h
   |some x=>
    obtain⟨H,G⟩:=x;rw[u]at h;cases h;have:=zW f _ _ _ _ _ u;omega
theorem DP {st:jd}{x:List Ev × Int × jd}(h:DQ t st=some x):jZ t st x.1 x.2.1 x.2.2:=by
 cases st with
 |live K n=>
  simp only[DQ]at h
  split at h
  ·rename_i hc
   cases h;exact .note hc
  ·rename_i hc
   have u:(t.k==7||t.k==8)=false:=by simpa using hc
   cases F:DH t 20 (beg K n) (eM n) (ec n)with
   |none=>rw[F]at h;cases h
   |some y=>
    obtain⟨k,R⟩:=y;have G:=zX _ _ _ _ _ _ F;have H:=zW _ _ _ _ _ _ F;rw[F]at h;cases R with
    |no=>cases h;exact .no u G (by omega)
    |yes L m E=>
     simp only at h
     split at h
     ·cases h;exact .yes u G (by omega) (by assumption)
     ·cases h
 |stuck e n=>cases h
 |shut=>cases h
