import Derived.Lib.SliceRun
import Derived.Test.YtpdlohfdjiaegaaGreatDoorR27
set_option linter.unusedVariables false
set_option linter.unusedSimpArgs false
set_option maxHeartbeats 4000000
namespace Go.Proofs.YtpdlohfdjiaegaaGreatDoor
open Go.RowKit
open Lw (Dc bE rt frm dep rtT rtN dcs au aH)
variable {W w:World}{g B:Nat}{st:Sy}{o:Oper}{a:Act}
theorem fd {P:Program}{ops:Array Oper}{K:Act->World->Prop}{Q:Exit->Act->World->Prop}{E:Prop}
  (hg:o.guard=none) (d x:Operand) (dT sT:TypeId) (hop:o.op=Op.call { callee:=Callee.builtin Builtin.append,args:=#[d,x],argTypes:=#[dT,sT] })
  (v u:Value) (hd:a.eval d=v) (hx:a.eval x=u) {v':Value} {w':World} (hr:(Builtin.append_ #[dT,sT] o.type #[v,u]).run P w=.ok v' w') (hK:K (a.put o.dst v') w') :
  if Region.wanted o (yielded ops a.tmps)=true then Oper.wp P o a w K Q else E:=by
 have hw:Region.wanted o (yielded ops a.tmps)=true:=by simp [Region.wanted,hg]
 rw [zw hw];unfold Oper.wp;simp [execOp,hop,resolve,invoke,builtin,hd,hx,hr,Result.andThen];exact hK
theorem jg (w:World) (b o n:Nat) (hn:0<n) (cur:List Value) (hb:w.heap[b]?=some (.cells cur.toArray 57 (0,0))) (ho:o+n*5<=cur.length) :
  ∃c2:List Value,(∀ty c,(Builtin.clear_ #[46] ty #[.slice (some ⟨b,o,none⟩) n c]).run Tryz.prog w=.ok (.tuple #[]) (w.setRow b c2.toArray))/\c2.length=cur.length/\c2.take o=cur.take o:=by
 obtain ⟨i0,hi0,hz0,hz1,hz2⟩:=eG;have hz:∀w,(zeroValue 57).run Tryz.prog w=.ok (.agg #[.int .u8 0,.string ⟨#[]⟩,.int .i64 0,.int .i64 0,.bool false]) w:=fun w=>by simp [zeroValue,typeInfo,hi0,hz0]
 obtain ⟨Z,hZ⟩:∃Z:List Value,(Builtin.zeroCells (Value.agg #[.int .u8 0,.string ⟨#[]⟩,.int .i64 0,.int .i64 0,.bool false]).cells n).toList=Z:=⟨_,rfl⟩;have hZl:Z.length=n*5:=by rw [<-hZ,AC,size_zeroCells];rfl
 have hZ1:∀v∈Z,v.oneCell'=true:=by
  intro v hv;rw [<-hZ] at hv;rw [Builtin.zeroCells,Array.mem_toList_iff,Array.mem_map] at hv;obtain ⟨k,_,rfl⟩:=hv;have hk:k % 5<5:=Nat.mod_lt _ (by omega);show Value.oneCell' (#[Value.int .u8 0,.string ⟨#[]⟩,.int .i64 0,.int .i64 0,.bool false][k % 5]!)=true
  generalize k % 5=q at hk
  match q,hk with
  |0,_=>rfl
  |1,_=>rfl
  |2,_=>rfl
  |3,_=>rfl
  |4,_=>rfl
 have hst:=Ds Tryz.prog b o 57 Z 0 cur.toArray w hb (by rw [hZl];simpa using ho) hZ1;refine ⟨cur.take o++Z++cur.drop (o+Z.length),?_,?_,?_⟩
 ·intro ty c;obtain ⟨m,rfl⟩:∃m,n=m+1:=⟨n-1,by omega⟩;simp only [A3] at hst;simp [Builtin.clear_,run_underlying zU,hz,hZ,hst]
 ·simp only [zq,zH,zN,hZl];omega
 ·rw [zJ,AF (by rw [zH];omega),B4,Nat.min_self]
theorem gY {S:Nat->Prop}{W':World}(h:Below B w W) (hk:Kp S W W') (hS:∀k,S k->B<=k) (hB:B<=W.heap.size):Below B w W':=
 ⟨hk.os.trans h.os,hk.tape.trans h.tape,hk.output.trans h.output,zr h.size hk.size,fun k hk'=>(hk.block k (zz hk' hB) (fun hs=>by have:=hS k hs;omega)).trans (h.block k hk')⟩
theorem uP (W:World):Rd (W.alloc (.cells #[] 57)) (.slice (some ⟨W.heap.size,0,none⟩) 0 0) []:=
 ⟨rfl,.inr ⟨_,0,#[],rfl,zx _,ag W _,eq _,zx _,rfl,rfl⟩⟩
theorem yp {ops:Array Oper}{rest:List Oper}{Q:Exit->Act->World->Prop}(hgd:o.guard=none) (s x:Operand)
  (ho:o.op=.call { callee:=.builtin .append,args:=#[s,x],argTypes:=#[46,46] }) (v:Value) (l ds:List Dc) (hs:a.eval s=v) (hr:Rd W v l)
  (ad:Addr) (c:Nat) (hx:a.eval x=.slice (some ad) ds.length c) (hc:∀j u,(dcs ds)[j]?=some u->W.cell? (ad.add j)=some u) (hl:l.length+ds.length<=2000000000)
  (h:∀v' w',Rd w' v' (l++ds)->W.grownBy w' v.ownBlock->Nb W v v'->wpList Tryz.prog ops Q rest (a.put o.dst v') w'):wpList Tryz.prog ops Q (o :: rest) a W:=by
 obtain ⟨i0,hi,hz0,hz1,hz2⟩:=Az Tryz.info57;refine AL (P:=Tryz.prog) (w:=W) hgd s x 46 ho 0 57 i0 _ 5 48 zU hi hz0 hz1 hz2 rfl (by decide) v _ _ hs hr ad ds.length c (dcs ds) hx (by rw [au]) hc (aH ds) (by unfold maxLen;omega) (by omega) (zx _) ?_;intro v' w' h1 h2 _ h4;refine h v' w' ?_ h2 ?_
 ·unfold Rd;rw [zq,cz];exact h1
 ·rcases h4 with h4|h4
  ·exact .inl h4
  ·exact .inr ⟨_,h4,eq _⟩
theorem sy {b:Nat}{l:List Dc}(h:Ld w (some ⟨b,0,none⟩) l):∀j u,(dcs l)[j]?=some u->w.cell? ((⟨b,0,none⟩:Addr).add j)=some u:=by
 intro j u hu;have hj:j<l.length*5:=by rw [<-au];exact (zv.1 hu).1
 obtain ⟨d,hd⟩:∃d,l[j / 5]?=some d:=⟨_,hH (by omega)⟩;obtain ⟨b',off,e,c0,c1,c2,c3,c4⟩:=h _ d hd;cases e;have hu2:(dcs l)[j / 5*5+j % 5]?=some u:=by rw [show j / 5*5+j % 5=j by omega];exact hu
 have hm:j % 5<5:=Nat.mod_lt _ (by omega);rw [AM];have hj2:(0:Nat)+j=0+j / 5*5+j % 5:=by omega
 rw [hj2]
 generalize j % 5=q at hu2 hm ⊢
 match q,hm with
 |0,_=>rw [show (dcs l)[j / 5*5+0]?=_ from aD Dc.cs 5 Lw.Dc.cs_len l _ 0 _ _ hd rfl] at hu2;cases hu2;exact c0
 |1,_=>rw [show (dcs l)[j / 5*5+1]?=_ from aD Dc.cs 5 Lw.Dc.cs_len l _ 1 _ _ hd rfl] at hu2;cases hu2;exact c1
 |2,_=>rw [show (dcs l)[j / 5*5+2]?=_ from aD Dc.cs 5 Lw.Dc.cs_len l _ 2 _ _ hd rfl] at hu2;cases hu2;exact c2
 |3,_=>rw [show (dcs l)[j / 5*5+3]?=_ from aD Dc.cs 5 Lw.Dc.cs_len l _ 3 _ _ hd rfl] at hu2;cases hu2;exact c3
 |4,_=>rw [show (dcs l)[j / 5*5+4]?=_ from aD Dc.cs 5 Lw.Dc.cs_len l _ 4 _ _ hd rfl] at hu2;cases hu2;exact c4
theorem qD (W:World) (n c:Nat):Aa 124 #[.slice none n c] W fun r w'=>r=.returned (.slice none 0 0)/\w'=W:=by
 have hE:(binOp .eql 46 (.slice none n c) (.slice none 0 0)).run Tryz.prog W=.ok (.bool true) W:=Lib.run_eql_slice_nil W _ _ none n c 0 0 zU
 go_enter Tryz.func124,Tryz.ntmps124
 go_wp2_with fail
 go_ret
 exact ⟨rfl,rfl⟩
theorem ny {W:World}{b cap:Nat}{l:List Dc}(h:Ld W (some ⟨b,0,none⟩) l) (hl:l.length<=1000000000):Aa 124 #[.slice (some ⟨b,0,none⟩) l.length cap] W fun r w'=>∃v',r=.returned v'/\Rd w' v' l/\Below W.heap.size W w'/\∀k,v'.ownBlock=some k->W.heap.size<=k:=by
 have HB:Hid (Below W.heap.size W (W.alloc (.cells #[] 57))):=(gt _ _).alloc (eq _) _;have HC:Hid (∀j u,(dcs l)[j]?=some u->(W.alloc (.cells #[] 57)).cell? ((⟨b,0,none⟩:Addr).add j)=some u):=sy (h.below HB.out);have HR:Hid (Rd (W.alloc (.cells #[] 57)) (.slice (some ⟨W.heap.size,0,none⟩) 0 0) []):=uP W;have hs:(W.alloc (.cells #[] 57)).heap.size=W.heap.size+1:=by show (W.heap.push _).size=_;simp
 have HF:Hid (∀v' w',Rd w' v' ([]++l)->(W.alloc (.cells #[] 57)).grownBy w' (some W.heap.size)->Nb (W.alloc (.cells #[] 57)) (.slice (some ⟨W.heap.size,0,none⟩) 0 0) v'->Rd w' v' l/\Below W.heap.size W w'/\∀k,v'.ownBlock=some k->W.heap.size<=k):=fun v' w' h1 h2 h3=>by
  refine ⟨h1,gY HB.out (Kp.of_grown h2) (fun k e=>by cases e;exact eq _) HB.out.size ,fun k e=>?_⟩
  rcases h3 with h3|⟨q,hq,hq2⟩
  ·rw [h3] at e;cases e;exact eq _
  ·rw [hq] at e;cases e;omega
 have hE:(binOp .eql 46 (.slice (some ⟨b,0,none⟩) l.length cap) (.slice none 0 0)).run Tryz.prog W=.ok (.bool false) W:=Lib.run_eql_slice_nil W _ _ (some ⟨b,0,none⟩) l.length cap 0 0 zU;clear h hs
 go_enter Tryz.func124,Tryz.ntmps124
 go_wp2_with (at_builtin;refine yp rfl _ _ rfl (.slice (some ⟨W.heap.size,0,none⟩) 0 0) [] l rfl HR.out ⟨b,0,none⟩ _ rfl HC.out (by simp;omega) ?_;intro v' w' h1 h2 h3;have HX:=show Hid _ from HF.out v' w' h1 h2 h3;clear h1 h2 h3)
 go_ret
 exact ⟨_,rfl,HX.out⟩
theorem lW (v:Value) {l:List Dc}(h:Rd W v l) (hl:l.length<=1000000000):Aa 125 #[v,.int .i64 0,.int .i64 0] W fun r w'=>r=.returned v/\w'=W:=by
 obtain ⟨p,cap,rfl,hc1,hc2⟩:=aL h;have q2:(l.length:Int)<=(cap:Int):=by omega
 clear h hc2;cases p
 all_goals (
  go_enter Tryz.func125,Tryz.ntmps125
  go_wp2_with fail
  all_goals (go_ret;exact ⟨rfl,rfl⟩))
set_option maxRecDepth 100000 in
theorem lV {W:World}{b cap n:Nat}{l:List Dc}(h:Rd W (.slice (some ⟨b,0,none⟩) l.length cap) l) (hn0:0<n) (hnl:n<=l.length) (hl:l.length<=1000000000) :
  Aa 125 #[.slice (some ⟨b,0,none⟩) l.length cap,.int .i64 0,.int .i64 n] W fun r w'=>r=.returned (.slice (some ⟨b,0,none⟩) (l.length-n) cap)/\Rd w' (.slice (some ⟨b,0,none⟩) (l.length-n) cap) (l.drop n)/\Kp (fun k=>k=b) W w':=by
 obtain ⟨cur,hb,hcm,hcl,hcs,htk⟩:∃cur:List Value,W.heap[b]?=some (.cells cur.toArray 57 (0,0))/\cap<=maxLen/\l.length<=cap/\cur.length=cap*5/\cur.take (l.length*5)=dcs l:=by
  rcases h.2 with ⟨h1,_⟩|⟨g,cap',cur,h1,_,h3,h4,h5,h6,h7⟩
  ·cases h1
  ·cases h1;exact ⟨cur.toList,by simpa using h3,h5,h4,by simpa using h6,h7⟩
 obtain ⟨m,hm⟩:∃m,l.length=m:=⟨_,rfl⟩;rw [hm] at hnl hl hcl htk ⊢;obtain ⟨i0,hi0,hz0,hz1,hz2⟩:=eG;have hR:(dcs (l.drop n)).length=(m-n)*5:=by rw [au,zN,hm]
 obtain ⟨ad,had⟩:∃ad:Nat,(if cap=n then 0 else n*5)=ad:=⟨_,rfl⟩
 have hsrc:∀j u,(dcs (l.drop n))[j]?=some u->W.cell? ((⟨b,ad,none⟩:Addr).add j)=some u:=by
  refine cZ hb ad _ (fun j v hj=>?_);have hjl:=(zv.1 hj).1;rw [hR] at hjl;rw [<-had,zu (by omega)];rw [<-iY,Aj,<-htk,Ag] at hj
  split at hj
  ·exact hj
  ·cases hj
 have hap:∀ty c,(Builtin.append_ #[46,46] ty #[.slice (some ⟨b,0,none⟩) 0 cap,.slice (some ⟨b,ad,none⟩) (m-n) c]).run Tryz.prog W.drew=.ok (.slice (some ⟨b,0,none⟩) (m-n) cap) (W.drew.setRow b (dcs (l.drop n)++cur.drop ((m-n)*5)).toArray):=fun ty c=>by
  have:=run_append_room (P:=Tryz.prog) W.drew 46 ty 57 i0 zU hi0 b 0 cap cur.toArray hb ⟨b,ad,none⟩ (m-n) c (dcs (l.drop n)) (by rw [hR,hz1]) hsrc (aH _) (by omega) (by rw [hR];simp;omega)
  simpa [hR] using this
 obtain ⟨c1,hc1⟩:∃c1:List Value,dcs (l.drop n)++cur.drop ((m-n)*5)=c1:=⟨_,rfl⟩;rw [hc1] at hap;have hl1:c1.length=cap*5:=by rw [<-hc1,zq,zN,hR,hcs];omega
 obtain ⟨W1,hW1⟩:∃W1,W.drew.setRow b c1.toArray=W1:=⟨_,rfl⟩;rw [hW1] at hap;have hb1:W1.heap[b]?=some (.cells c1.toArray 57 (0,0)):=by rw [<-hW1];exact CA W.drew b _ _ _ _ hb
 have hk1:Kp (fun k=>k=b) W W1:=by rw [<-hW1];exact ((Kp.of_below ((gt _ W).drew)).step (Kp.setRow W.drew b c1.toArray) (fun _ _ h=>h))
 obtain ⟨c2,hcl2,h1,h2⟩:=jg W1 b ((m-n)*5) n hn0 c1 hb1 (by omega)
 have HX:Hid (Rd (W1.setRow b c2.toArray) (.slice (some ⟨b,0,none⟩) (m-n) cap) (l.drop n)/\Kp (fun k=>k=b) W (W1.setRow b c2.toArray)):=by
  have hlen:(l.drop n).length=m-n:=by rw [zN,hm]
  refine ⟨⟨by rw [au],.inr ⟨b,cap,c2.toArray,by rw [hlen],zx _,CA W1 b _ _ _ _ hb1,by rw [hlen];omega,hcm,by simp [h1,hl1],?_⟩⟩,hk1.trans (Kp.setRow W1 b _)⟩;rw [hlen];show c2.take _=_;rw [h2,<-hc1,C6 hR]
 have had':(if cap=n then (⟨b,0,none⟩:Addr) else ⟨b,n*5,none⟩)=⟨b,ad,none⟩:=by rw [<-had];split <;> rfl
 clear h1 h2 h hb hcm hcs hR hc1 hl1 hW1 hb1 hk1 htk hi0 hz0 hz1 hz2 hsrc hm;have z1:¬((0:Int)=(n:Int)):=by omega
 have z2:(0:Int)<=(n:Int):=by omega
 have z3:(n:Int)<=(m:Int):=by omega
 have z4:(m:Int)<=(cap:Int):=by omega
 have z5:((m-n:Nat):Int)<=(m:Int):=by omega
 have z6:¬(cap=m-n):=by omega
 have z7:m-(m-n)=n:=by omega
 have z8:(n:Int)<=(cap:Int):=by omega
 by_cases hcn:cap=n
 ·rw [zw hcn] at had;subst had;have e0:m=n:=by omega
  subst e0;subst hcn;clear z3 z4 z5 z7 z8;have z9:cap-cap=0:=by omega
  rw [z9] at hap hcl2 HX ⊢
  go_enter Tryz.func125,Tryz.ntmps125
  go_wp2_with fail
  go_region_law (refine fd (by rfl) _ _ 46 46 (by rfl) (.slice (some ⟨b,0,none⟩) 0 cap) (.slice (some ⟨b,0,none⟩) 0 0) (by simp [Act.eval,Act.put]) (by simp [Act.eval,Act.put]) (hap _ _) ?_)
  all_goals (
   go_wp2_with (at_builtin;refine wpList_clear_r _ (by rfl) _ 46 (by rfl) (.slice (some ⟨b,0*5,none⟩) cap _) (by rfl) (hcl2 _ _) ?_)
   go_ret
   exact ⟨rfl,HX.out⟩)
 ·rw [zu hcn] at had;subst had
  go_enter Tryz.func125,Tryz.ntmps125
  go_wp2_with fail
  go_region_law (refine fd (by rfl) _ _ 46 46 (by rfl) (.slice (some ⟨b,0,none⟩) 0 cap) (.slice (some ⟨b,n*5,none⟩) (m-n) (cap-n)) (by simp [Act.eval,Act.put]) (by simp [Act.eval,Act.put]) (hap _ _) ?_)
  all_goals (
   go_wp2_with (at_builtin;refine wpList_clear_r _ (by rfl) _ 46 (by rfl) (.slice (some ⟨b,(m-n)*5,none⟩) n _) (by rfl) (hcl2 _ _) ?_)
   go_ret
   exact ⟨rfl,HX.out⟩)
def An (S:Nat->Prop) (g:Nat) (W W':World) (v:Value) (l:List Dc) (st:Sy):Prop:=
 (∃S',SS S' W' g st/\(∀k,S' k->S k\/W.heap.size<=k)/\∀k,v.ownBlock=some k->(S k\/W.heap.size<=k)/\¬S' k)/\Rd W' v l/\Kp S W W'
theorem um {α:Type}(p:α->Bool) (l:List α) (k:Nat) (hk:k<=l.length) (h:∀x∈l.take k,p x=true) (h2:∀x,l[k]?=some x->p x=false):l.takeWhile p=l.take k/\l.dropWhile p=l.drop k:=by
 induction l generalizing k with
 |nil=>simp at hk;subst hk;simp
 |cons a r ih=>
  cases k with
  |zero=>
   have:=h2 a rfl;simp [List.takeWhile_cons,List.dropWhile_cons,this]
  |succ k=>
   have ha:=h a (by simp);obtain ⟨i1,i2⟩:=ih k (by simpa using hk) (fun x hx=>h x (by simp [hx])) (fun x hx=>h2 x (by simpa using hx));simp [List.takeWhile_cons,List.dropWhile_cons,ha,i1,i2]
theorem iv {S:Nat->Prop}(h:SS S W g st) (hl:st.ws.length<=1000000000) :
  Aa 75 #[spg g] W fun r w'=>∃v,r=.returned v/\An S g W w' v (st.ws.takeWhile aK) { st with ws:=st.ws.dropWhile aK }:=by
 obtain ⟨vn,vw,hv,s1,s2⟩:=h.ex;have hsg:=h.sg;have hlt:=h.lt;obtain ⟨p,cap,e,hc1,hc2⟩:=aL hv.rd;subst e;obtain ⟨L,hL⟩:∃L,st.ws=L:=⟨_,rfl⟩;have hlL:L.length<=1000000000:=by rw [<-hL];exact hl
 have hcL:L.length<=cap:=by rw [<-hL];exact hc1
 have HV:Hid (∀V,Ab W V->V.cell? ⟨g,2,none⟩=some (.slice p L.length cap)/\V.frozen? ⟨g,2,none⟩=false/\Ld V p L):=fun V hb=>by
  have:=hv.below hb;rw [<-hL];exact ⟨this.sb.cells.2.2.1,this.sb.frozen 2,kR this.rd⟩
 have HD:Hid (∀(n:Nat),n<=L.length->∀V,Ab W V->Aa 124 #[.slice p n cap] V fun r w'=>∃v,r=.returned v/\Rd w' v (L.take n)/\Ab W w'/\(∀k,v.ownBlock=some k->W.heap.size<=k)):=fun n hn V hb=>by
  have hq:=hv.below hb;have hr:=hq.rd;rw [hL] at hr;cases p with
  |none=>
   refine (qD V n cap).mono ?_;rintro r w' ⟨rfl,rfl⟩
   have h0:L=[]:=by
    rcases hr.2 with ⟨_,h0⟩|⟨_,_,_,h1,_⟩
    ·exact zI h0
    ·cases h1
   refine ⟨_,rfl,by rw [h0,List.take_nil];exact fm _,hb,fun k e=>by cases e⟩
  |some a=>
   obtain ⟨b,ha⟩:∃b,a=⟨b,0,none⟩:=by
    rcases hr.2 with ⟨h1,_⟩|⟨b,_,_,h1,_⟩
    ·cases h1
    ·cases h1;exact ⟨b,rfl⟩
   subst ha;have hl2:(L.take n).length=n:=by rw [zH];omega
   have:=ny (cap:=cap) ((kR hr).take n) (by omega);rw [hl2] at this;refine this.mono ?_;rintro r w' ⟨v',rfl,a1,a2,a3⟩;exact ⟨v',rfl,a1,hb.trans (a2.mono hb.size),fun k e=>zr hb.size (a3 k e)⟩
 have HE:Hid (∀(n:Nat),n<=L.length->(L.takeWhile aK=L.take n/\L.dropWhile aK=L.drop n)->∀V v,Ab W V->Rd V v (L.take n)->(∀k,v.ownBlock=some k->W.heap.size<=k)->Aa 125 #[.slice p L.length cap,.int .i64 0,.int .i64 n] V fun r w'=>∃p' n' c',r=.returned (.slice p' n' c')/\(w'.cell? ⟨g,2,none⟩=some (.slice p L.length cap)/\w'.frozen? ⟨g,2,none⟩=false)/\An S g W (w'.setCell ⟨g,2,none⟩ (.slice p' n' c')) v (L.takeWhile aK) { st with ws:=L.dropWhile aK }):=fun n hn htw V v hb hvr hvn=>by
  have hq:=hv.below hb;have hr:=hq.rd;rw [hL] at hr;rw [htw.1,htw.2]
  have fin:∀(w':World) (v':Value),Rd w' v' (L.drop n)->Kp (fun k=>(Value.slice p L.length cap).ownBlock=some k) V w'->Nb V (.slice p L.length cap) v'->(w'.cell? ⟨g,2,none⟩=some (.slice p L.length cap)/\w'.frozen? ⟨g,2,none⟩=false)/\An S g W (w'.setCell ⟨g,2,none⟩ v') v (L.take n) { st with ws:=L.drop n }:=fun w' v' b1 b2 b3=>by
   have hq':SV V g st vn (.slice p L.length cap):=by rw [<-hL];exact hq
   obtain ⟨c1,c2⟩:=hq'.ws (gt _ _) b2 b1 b3;refine ⟨c1,?_⟩;obtain ⟨vw',d1,d2⟩:=c2.ex;have hvne:∀k,v.ownBlock=some k->¬S k:=fun k e hs=>by have:=hlt k hs;have:=hvn k e;omega
   have hkS:Kp S V (w'.setCell ⟨g,2,none⟩ v'):=c2.kp.sub (by rintro k (e|e);rw [e];exact hsg;exact s2 k (by rw [hL];exact e));refine ⟨⟨fun k=>S k\/(W.heap.size<=k/\vw'.ownBlock=some k),⟨⟨vn,vw',d1,fun k e=>.inl (s1 k e),fun k e=>?_⟩,.inl hsg,?_⟩,?_,?_⟩,kS hvr hkS hvne,(Kp.of_below hb).step hkS (fun _ _ h=>h)⟩
   ·rcases d2 with d2|⟨q,hq1,hq2⟩
    ·exact .inl (s2 k (by rw [hL,<-d2];exact e))
    ·exact .inr ⟨by rw [hq1] at e;cases e;exact zr hb.size hq2,e⟩
   ·rintro k (a|a)
    ·exact zz (hlt k a) (zr hb.size hkS.size)
    ·exact bS d1.rd k a.2
   ·rintro k (a|a)
    ·exact .inl a
    ·exact .inr a.1
   ·intro k e;refine ⟨.inr (hvn k e),?_⟩;rintro (a|a)
    ·exact hvne k e a
    ·rcases d2 with d2|⟨q,hq1,hq2⟩
     ·have hs:=s2 k (by rw [hL,<-d2];exact a.2);exact hvne k e hs
     ·rw [hq1] at a;have h9:=bS hvr k e;have:q=k:=by simpa using a.2
      omega
  by_cases h0:n=0
  ·subst h0;refine (lW (.slice p L.length cap) hr (by omega)).mono ?_;rintro r w' ⟨rfl,rfl⟩;exact ⟨_,_,_,rfl,fin _ _ (by rw [BI];exact hr) (Kp.refl _ _) (.inl rfl)⟩
  ·cases p with
   |none=>
    have h0':L=[]:=by
     rcases hr.2 with ⟨_,h0⟩|⟨_,_,_,h1,_⟩
     ·exact zI h0
     ·cases h1
    rw [h0'] at hn;simp at hn;exact absurd hn h0
   |some a=>
    obtain ⟨b,ha⟩:∃b,a=⟨b,0,none⟩:=by
     rcases hr.2 with ⟨h1,_⟩|⟨b,_,_,h1,_⟩
     ·cases h1
     ·cases h1;exact ⟨b,rfl⟩
    subst ha;refine (lV (n:=n) hr (by omega) hn (by omega)).mono ?_;rintro r w' ⟨rfl,a1,a2⟩;exact ⟨_,_,_,rfl,fin _ _ a1 (a2.sub (fun k e=>by rw [e];rfl)) (.inl rfl)⟩
 have HP:Hid (∀(d:Dc) (V:World),Aa 123 #[.agg #[.int .u8 d.k,.string d.t,.int .i64 d.b,.int .i64 d.i,.bool d.e]] V fun e w'=>e=.returned (.bool (aK d))/\Ab V w'):=lC;rw [hL] at ⊢;clear hv h s1 s2 hL hlt hl;have HT:Hid (∀n,n<=L.length->(∀x∈L.take n,aK x=true)->(∀x,L[n]?=some x->aK x=false)->L.takeWhile aK=L.take n/\L.dropWhile aK=L.drop n):=fun n a b c=>um aK L n a b c
 go_enter Tryz.func75,Tryz.ntmps75
 go_wp2_with fail
 go_loopw [3] (fun i wr=>∃k:Nat,k<=L.length/\i=.int .i64 k/\Hid (∀x∈L.take k,aK x=true)/\Hid (Below W.heap.size W wr)) (fun i _=>L.length-(intOf i).toNat)
 case atStart=>exact ⟨0,zx _,rfl,fun x hx=>by simp at hx,gt _ _⟩
 case round=>
  obtain ⟨k,hk,rfl,HI,HB⟩:=hrel;obtain ⟨x1,x2,x3⟩:=HV.out _ HB.out;have HL:Hid (Ld wr p L):=x3;clear x2 x3;have fin:∀w1,Hid (Below W.heap.size W w1)->(L.takeWhile aK=L.take k/\L.dropWhile aK=L.drop k)->True:=fun _ _ _=>trivial
  by_cases hlt:k<L.length
  ·have q1:(k:Int)<L.length:=by omega
   have q0:(0:Int)<=k:=by omega
   obtain ⟨x,hx⟩:∃x,L[k]?=some x:=⟨_,hH hlt⟩;obtain ⟨b,off,rfl,c0,c1,c2,c3,c4⟩:=HL.out k x hx
   by_cases he:aK x=true
   ·have HN:Hid (∀y∈L.take (k+1),aK y=true):=fun y hy=>by
     rw [Cz,hx] at hy
     rcases Ai.1 hy with hy|hy
     ·exact HI.out y hy
     ·simp at hy;rw [hy];exact he
    clear hx
    go_wp2_with (go_at_call 123;refine (HP.out x _).mono ?_;rintro e w1 ⟨rfl,hb1⟩;rw [he];have HC:Hid (Ab W w1):=HB.out.trans (hb1.mono HB.out.size);clear hb1)
    exact ⟨⟨k+1,hlt,by go_num,HN,HC⟩,by simp [intOf];omega⟩
   ·have he':aK x=false:=by simpa using he
    have HW:Hid (L.takeWhile aK=L.take k/\L.dropWhile aK=L.drop k):=HT.out k hk HI.out (fun y hy=>by rw [hx] at hy;cases hy;exact he');have q3:(k:Int)<=cap:=by omega
    clear he hx fin
    go_wp2_with (first|(go_at_call 123;refine (HP.out x _).mono ?_;rintro e w1 ⟨rfl,hb1⟩;rw [he'];have HCW:Hid (Ab W w1):=HB.out.trans (hb1.mono HB.out.size);obtain ⟨z1,_,_⟩:=HV.out _ HCW.out;clear hb1)|(go_at_call 124;refine (HD.out k hk _ HCW.out).mono ?_;rintro e w2 ⟨v2,rfl,a1,a2,a3⟩;have HR:Hid (Rd w2 v2 (L.take k)/\Ab W w2/\∀k,v2.ownBlock=some k->W.heap.size<=k):=⟨a1,a2,a3⟩;obtain ⟨y1,_,_⟩:=HV.out _ a2;clear a1 a2 a3)|(go_at_call 125;refine (HE.out k hk HW.out _ _ HR.out.2.1 HR.out.1 HR.out.2.2).mono ?_;rintro e w3 ⟨p3,n3,c3,rfl,⟨y2,y3⟩,y4⟩;have HX:=hid y4;clear y4))
    go_ret
    exact ⟨_,rfl,HX.out⟩
  ·obtain rfl:k=L.length:=by omega
   have HW:Hid (L.takeWhile aK=L.take L.length/\L.dropWhile aK=L.drop L.length):=HT.out _ hk HI.out (fun y hy=>by simp at hy);have q1:¬((L.length:Int)<L.length):=by omega
   have q3:(L.length:Int)<=cap:=by omega
   have HCW:Hid (Ab W wr):=HB.out;clear fin
   go_wp2_with (first|(go_at_call 124;refine (HD.out L.length hk _ HCW.out).mono ?_;rintro e w2 ⟨v2,rfl,a1,a2,a3⟩;have HR:Hid (Rd w2 v2 (L.take L.length)/\Ab W w2/\∀k,v2.ownBlock=some k->W.heap.size<=k):=⟨a1,a2,a3⟩;obtain ⟨y1,_,_⟩:=HV.out _ a2;clear a1 a2 a3)|(go_at_call 125;refine (HE.out L.length hk HW.out _ _ HR.out.2.1 HR.out.1 HR.out.2.2).mono ?_;rintro e w3 ⟨p3,n3,c3,rfl,⟨y2,y3⟩,y4⟩;have HX:=hid y4;clear y4))
   go_ret
   exact ⟨_,rfl,HX.out⟩
theorem lF {S:Nat->Prop}{vn:Value}{p:Option Addr}{n0 cap:Nat}(hv:SV W g st vn (.slice p n0 cap)) (hs:S g) (h1:∀k,vn.ownBlock=some k->S k) (h2:∀k,(Value.slice p n0 cap).ownBlock=some k->S k) (hl:st.ws.length<=1000000000) (d:Dc) {i:Nat}(hi:i<=st.ws.length) {V:World}(hb:Below W.heap.size W V) :
  Aa 48 #[.slice p n0 cap,.int .i64 i,.slice (some ⟨V.heap.size,0,none⟩) 1 1] (V.alloc (.cells #[.int .u8 d.k,.string d.t,.int .i64 d.b,.int .i64 d.i,.bool d.e] 57)) fun r w'=>∃p' n' c',r=.returned (.slice p' n' c')/\(w'.cell? ⟨g,2,none⟩=some (.slice p n0 cap)/\w'.frozen? ⟨g,2,none⟩=false)/\Mv S g W (w'.setCell ⟨g,2,none⟩ (.slice p' n' c')) { st with ws:=st.ws.take i++d :: st.ws.drop i }:=by
 have hb2:Below W.heap.size W (V.alloc (.cells #[.int .u8 d.k,.string d.t,.int .i64 d.b,.int .i64 d.i,.bool d.e] 57)):=hb.alloc hb.size _;have hq:=hv.below hb2;have hne:(Value.slice p n0 cap).ownBlock≠some V.heap.size:=fun e=>by have:=bS (hv.below hb).rd _ e;omega
 refine (mV d hq.rd hi (ag V _) hne hl).mono ?_;rintro r w' ⟨v',rfl,a1,a2,a3⟩;obtain ⟨p',c',e,_⟩:=aL a1;obtain ⟨c1,c2⟩:=hv.ws hb2 a2 a1 a3;subst e;exact ⟨_,_,_,rfl,c1,c2.mv hv hs h1 h2⟩
theorem gI {S:Nat->Prop}(h:SS S W g st) (hl:st.ws.length<=1000000000) :
  Aa 26 #[spg g] W fun r w'=>r=.returned (.tuple #[])/\Mv S g W w' st.endl:=by
 obtain ⟨vn,vw,hv,s1,s2⟩:=h.ex;have hsg:=h.sg;obtain ⟨p,cap,e,hc1,hc2⟩:=aL hv.rd;subst e;obtain ⟨c0,c1,c2,c3,c4,c5,c6,c7⟩:=hv.sb.cells
 by_cases he:st.en=true
 ·have HA:Hid (Aa 46 #[spg g,.func (.func 47) #[] #[]] W fun r w'=>r=.returned (.bool (st.ws.any cq))/\Ab W w'):=qL hv hl
  by_cases ha:st.ws.any cq=true
  ·have e9:st.endl=st:=by unfold Sy.endl;rw [zu (by rw [ha];simp)]
   have HM:Hid (∀V,Ab W V->Mv S g W V st.endl):=fun V hb=>by rw [e9];exact Mv.quiet h hb
   rw [ha] at HA;rw [he] at c6;clear h hv s1 s2 e9
   go_enter Tryz.func26,Tryz.ntmps26
   go_wp2_with (go_at_call 46;refine HA.out.mono ?_;rintro r w1 ⟨rfl,hb1⟩;have HX:=show Hid (Mv S g W w1 st.endl) from HM.out _ hb1;clear hb1)
   go_end0
   exact ⟨rfl,HX.out⟩
  ·have ha':st.ws.any cq=false:=by simpa using ha
   have e9:st.endl={ st with ws:=st.ws.take 0++dH :: st.ws.drop 0 }:=by unfold Sy.endl;rw [zw ⟨he,ha'⟩];rfl
   have HC:Hid (∀V,Ab W V->V.cell? ⟨g,2,none⟩=some (.slice p st.ws.length cap)/\g<V.heap.size):=fun V hb=>⟨(hv.below hb).sb.cells.2.2.1,(hv.below hb).sb.lt⟩
   have HI:Hid (∀V,Ab W V->Aa 48 #[.slice p st.ws.length cap,.int .i64 0,.slice (some ⟨V.heap.size,0,none⟩) 1 1] (V.alloc (.cells #[.int .u8 4,.string ⟨#[]⟩,.int .i64 0,.int .i64 0,.bool false] 57)) fun r w'=>∃p' n' c',r=.returned (.slice p' n' c')/\(w'.cell? ⟨g,2,none⟩=some (.slice p st.ws.length cap)/\w'.frozen? ⟨g,2,none⟩=false)/\Mv S g W (w'.setCell ⟨g,2,none⟩ (.slice p' n' c')) st.endl):=fun V hb=>by rw [e9];exact lF hv hsg s1 s2 hl dH (i:=0) (zx _) hb
   rw [ha'] at HA;rw [he] at c6;clear h hv s1 s2 e9 ha ha' he
   go_enter Tryz.func26,Tryz.ntmps26
   go_wp2_with (first|(go_at_call 46;refine HA.out.mono ?_;rintro r w1 ⟨rfl,hb1⟩;have HB:=show Hid (Below W.heap.size W w1) from hb1;obtain ⟨x1,x2⟩:=HC.out _ hb1;clear hb1)|(go_at_call 48;refine (HI.out _ HB.out).mono ?_;rintro r w3 ⟨p3,n3,c3,rfl,⟨y2,y3⟩,y4⟩;have HX:=hid y4;clear y4))
   go_end0
   exact ⟨rfl,HX.out⟩
 ·have he':st.en=false:=by simpa using he
  have e9:st.endl=st:=by unfold Sy.endl;rw [zu (by rw [he'];simp)]
  have HM:Hid (Mv S g W W st.endl):=by rw [e9];exact Mv.refl h
  rw [he'] at c6;clear h hv s1 s2 e9 he he'
  go_enter Tryz.func26,Tryz.ntmps26
  go_wp2_with fail
  go_end0
  exact ⟨rfl,HM.out⟩
theorem bG (h:Below B w W) (m:Nat):Below B w (W.drewN m):=⟨by rw [World.drewN];exact h.os,by rw [World.drewN];exact h.tape,by rw [World.drewN];exact h.output,by rw [World.drewN];exact h.size,by rw [World.drewN];exact h.block⟩
theorem jZ {S:Nat->Prop}(h:SS S W g st) (hl:st.ws.length<=1000000000) (hm:∀m,st.mr=some m->m<=st.ws.length) (f:Int) :
  Aa 71 #[spg g,.int .i64 f] W fun r w'=>r=.returned (.tuple #[])/\Mv S g W w' (st.emp f):=by
 obtain ⟨vn,vw,hv,s1,s2⟩:=h.ex;have hsg:=h.sg;obtain ⟨p,cap,e,hc1,hc2⟩:=aL hv.rd;subst e;obtain ⟨c0,c1,c2,c3,c4,c5,c6,c7⟩:=hv.sb.cells;have hgl:=hv.sb.lt;have quiet:st.emp f=st->∀V,Below W.heap.size W V->Mv S g W V (st.emp f):=fun e V hb=>by rw [e];exact Mv.quiet h hb
 cases hmr:st.mr with
 |none=>
  have HM:Hid (∀V,Ab W V->Mv S g W V (st.emp f)):=quiet (by unfold Sy.emp;rw [hmr]);rw [hmr] at c3 c4;clear quiet h hv s1 s2;have HB:Hid (∀m,Ab W (W.drewN m)):=fun m=>bG (gt _ _) m
  go_enter D9,D0
  go_wp2_with fail
  go_quiet (fail)
  go_wp2_with fail
  refine zE (v:=.tuple #[]) (by simp [results,Tryz.f71,go_sem]) rfl ?_;exact ⟨rfl,HM.out _ (HB.out _)⟩
 |some m=>
  have hml:=hm m hmr;rw [hmr] at c3 c4;simp only [Option.isSome_some,Bi] at c3 c4;have HB:Hid (∀m,Ab W (W.drewN m)):=fun m=>bG (gt _ _) m
  by_cases hf:f<2
  ·have HM:Hid (∀V,Ab W V->Mv S g W V (st.emp f)):=quiet (by unfold Sy.emp;rw [hmr];simp only;rw [zw (.inl hf)]);clear quiet h hv s1 s2
   go_enter D9,D0
   go_wp2_with fail
   go_quiet (fail)
   go_wp2_with fail
   refine zE (v:=.tuple #[]) (by simp [results,Tryz.f71,go_sem]) rfl ?_;exact ⟨rfl,HM.out _ (HB.out _)⟩
  ·have qf:decide (f<2)=false:=zA hf;cases hw:st.wr with
   |false=>
    have HM:Hid (∀V,Ab W V->Mv S g W V (st.emp f)):=quiet (by unfold Sy.emp;rw [hmr];simp only;rw [zw (.inr (.inl hw))]);rw [hw] at c5;clear quiet h hv s1 s2 c0 c1 c6 c7 hm hmr hml hw hl hsg hc1 hc2
    go_enter D9,D0
    go_wp2_with fail
    go_quiet (fail)
    go_wp2_with fail
    refine zE (v:=.tuple #[]) (by simp [results,Tryz.f71,go_sem]) rfl ?_;exact ⟨rfl,HM.out _ (HB.out _)⟩
   |true=>
    rw [hw] at c5
    have HK:Hid (∀V,Ab W V->(V.cell? ⟨g,3,none⟩=some (.bool true)/\V.cell? ⟨g,5,none⟩=some (.bool true)/\V.cell? ⟨g,2,none⟩=some (.slice p st.ws.length cap)/\V.cell? ⟨g,4,none⟩=some (.int .i64 m)/\Ab W V)):=fun V hb=>by
     have hgs:=hgl;exact ⟨(hb.cell hgs).trans c3,(hb.cell hgs).trans c5,(hb.cell hgs).trans c2,(hb.cell hgs).trans c4,hb⟩
    have HC:Hid (∀V,Ab W V->Aa 79 #[.slice p m cap,.func (.func 123) #[] #[]] V fun r w'=>r=.returned (.bool ((st.ws.take m).any aK))/\Ab V w'):=fun V hb=>by
     have hl2:(st.ws.take m).length=m:=by rw [zH];omega
     have:=tI p (st.ws.take m) cap V ((kR (hv.below hb).rd).take m) (by omega);rw [hl2] at this;exact this
    have q5:(0:Int)<=(m:Int):=by omega
    have q6:(m:Int)<=(cap:Int):=by omega
    have HM:Hid ((st.ws.take m).any aK=true->∀V,Ab W V->Mv S g W V (st.emp f)):=fun ha=>quiet (by unfold Sy.emp;rw [hmr];simp only;rw [zw (.inr (.inr ha))])
    have HI:Hid ((st.ws.take m).any aK=false->∀V,Ab W V->Aa 48 #[.slice p st.ws.length cap,.int .i64 m,.slice (some ⟨V.heap.size,0,none⟩) 1 1] (V.alloc (.cells #[.int .u8 5,.string ⟨#[]⟩,.int .i64 0,.int .i64 0,.bool false] 57)) fun r w'=>∃p' n' c',r=.returned (.slice p' n' c')/\(w'.cell? ⟨g,2,none⟩=some (.slice p st.ws.length cap)/\w'.frozen? ⟨g,2,none⟩=false)/\Mv S g W (w'.setCell ⟨g,2,none⟩ (.slice p' n' c')) (st.emp f)):=fun ha V hb=>by
     have e9:st.emp f={ st with ws:=st.ws.take m++dE :: st.ws.drop m }:=by
      unfold Sy.emp;rw [hmr];simp only;rw [zu (by rintro (a|a|a);exact hf a;rw [hw] at a;cases a;rw [ha] at a;cases a)]
     rw [e9];exact lF hv hsg s1 s2 hl dE (i:=m) hml hb
    generalize (st.ws.take m).any aK=bg at *
    generalize st.ws.length=n0 at *
    clear quiet h hv s1 s2 c0 c1 c6 c7 hm hmr hw hsg hc2 c2 c3 c4 c5 hl hml hc1
    go_enter D9,D0
    go_wp2_with fail
    go_region_held3 (fun w'=>w'.cell? ⟨g,3,none⟩=some (.bool true)/\w'.cell? ⟨g,5,none⟩=some (.bool true)/\w'.cell? ⟨g,2,none⟩=some (.slice p n0 cap)/\w'.cell? ⟨g,4,none⟩=some (.int .i64 m)/\Below W.heap.size W w') (first|(exact HK.out _ (by assumption))|(exact HK.out _ (gt _ _).drew)|go_keep) (first|(go_at_call 79;refine (HC.out _ (by first|assumption|exact (gt _ _).drew)).mono ?_;rintro e w1 ⟨rfl,hb1⟩;have hbW:=(by first|exact (gt W.heap.size W).drew.trans (hb1.mono (eq _))|exact (by assumption:Below W.heap.size W _).trans (hb1.mono (Ci (by assumption))):Below W.heap.size W w1);clear hb1))
    all_goals (
     have HBW:Hid (Ab W w1):=hbW;cases bg with
     |true=>
      have HM2:Hid (Mv S g W w1 (st.emp f)):=HM.out rfl _ hbW;clear HM HI
      go_wp2_with fail
      refine zE (v:=.tuple #[]) (by simp [results,Tryz.f71,go_sem]) rfl ?_;exact ⟨rfl,HM2.out⟩
     |false=>
      obtain ⟨x1,x2,x3,x4,_⟩:=HK.out _ hbW;have hg1:g<w1.heap.size:=zz hgl hbW.size;have HBD:Hid (Ab W w1.drew):=hbW.drew;have HI2:Hid (∀V,Ab W V->Aa 48 #[.slice p n0 cap,.int .i64 m,.slice (some ⟨V.heap.size,0,none⟩) 1 1] (V.alloc (.cells #[.int .u8 5,.string ⟨#[]⟩,.int .i64 0,.int .i64 0,.bool false] 57)).drew fun r w'=>∃p' n' c',r=.returned (.slice p' n' c')/\(w'.cell? ⟨g,2,none⟩=some (.slice p n0 cap)/\w'.frozen? ⟨g,2,none⟩=false)/\Mv S g W (w'.setCell ⟨g,2,none⟩ (.slice p' n' c')) (st.emp f)):=fun V hb=>HI.out rfl V.drew hb.drew
      clear hbW HM HI
      go_wp2_with fail
      go_region_law (first|(go_simp;go_at_call 48;refine (HI2.out w1 HBW.out).mono ?_;rintro r w3 ⟨p3,n3,c3,rfl,⟨y2,y3⟩,y4⟩;have HX:=hid y4;clear y4))
      all_goals (
       go_wp2_with fail
       go_end0
       exact ⟨rfl,HX.out⟩))
end Go.Proofs.YtpdlohfdjiaegaaGreatDoor
