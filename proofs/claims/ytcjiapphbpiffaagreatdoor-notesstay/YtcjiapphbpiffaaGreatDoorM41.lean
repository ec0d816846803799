import Derived.Lib.Builder
import Derived.Shelf.Strings.BuilderK
import Derived.Test.YtcjiapphbpiffaaGreatDoorM39
import Derived.Test.YtcjiapphbpiffaaGreatDoorM40
set_option linter.unusedVariables false
set_option linter.unusedSimpArgs false
set_option maxHeartbeats 2000000
set_option maxRecDepth 100000
namespace Go.Proofs.YtcjiapphbpiffaaGreatDoor
open Go.RowKit
variable {b B:Nat}{w:World}{v:Value}{x:ByteArray}
abbrev Hr (p:Option Addr) (v:Value):Obj:=.cells #[.pointer p,v] 41
structure Bu (B b:Nat) (x:ByteArray) (w:World) (v:Value):Prop where
 blk:∃p,(p=none\/p=some ⟨b,0,none⟩)/\w.heap[b]?=some (Hr p v)
 row:mZ B w v x
theorem Bu.below {w':World}(h:Bu B b x w v) (C:Below w.heap.size w w'):Bu B b x w' v:=by
 obtain ⟨p,F,G⟩:=h.blk;exact ⟨⟨p,F,ag G C⟩,h.row.below C⟩
theorem bsz:(Tryz.prog.info? 41).map (·.size)=some 2:=by kernel_rfl
theorem So:liesAt Tryz.prog Tryz.prog.depth 41 (2 / Tryz.prog.cellsOf 41) 0 41 1=true:=by kernel_rfl
theorem Bv {p:Option Addr}(I:p=none\/p=some ⟨b,0,none⟩) (h:w.heap[b]?=some (Hr p v)) :
  Ta 20 #[.pointer (some ⟨b,0,none⟩)] w fun e w'=>e=.returned (.tuple #[])/\w'.heap[b]?=some (Hr (some ⟨b,0,none⟩) v)/\Kp (fun k=>k=b) w w':=by
 obtain ⟨j,G,C⟩:=Ts.1 bsz;have c0:w.cell? ⟨b,0,none⟩=some (.pointer p):=af h rfl;have J:w.frozen? ⟨b,0,none⟩=false:=am h
 rcases I with rfl|rfl
 ·have F:w.shape? b=some (41,2):=by simp [World.shape?,h]
  have M:=Lib.run_to_unsafe (P:=Tryz.prog) w ⟨b,0,none⟩ U5 VS G (by rw [C];decide) F (Nat.zero_lt_succ 1);have O:=Lib.run_from_unsafe (P:=Tryz.prog) w ⟨b,0,none⟩ VS U5 G F So;have H:Hid (w.heap[b]?=some (Hr none v)):=h;clear h G C F
  go_enter Tryz.func20,Tryz.ntmps20
  go_wp2_with fail
  rw [run_callFunc_extern Tryz.func32 (by kernel_rfl) (by kernel_rfl) (by kernel_rfl) (e:=Extern.AbiNoEscape.same) (by kernel_rfl),Lib.run_noEscape];simp only [Result.andThen];rw [W4]
  go_wp2_with fail
  go_end0
  exact ⟨rfl,aj H.out 0 _,Kp.set _ _ _ _⟩
 ·have H:Hid (w.heap[b]?=some (Hr (some ⟨b,0,none⟩) v)):=h;have Q:=Lib.run_neq_ptr_same (P:=Tryz.prog) w ⟨b,0,none⟩ U5 G;clear h G C
  go_enter Tryz.func20,Tryz.ntmps20
  go_wp2_with fail
  go_end0
  exact ⟨rfl,H.out,Kp.refl _ _⟩
def DR (B b:Nat) (x:ByteArray) (v:Value) (w w':World):Prop:=∃v',Bu B b x w' v'/\Kp (fun k=>k=b\/some k=v.ownBlock) w w'
theorem Ho {y:ByteArray}{I:Value}{J w0 F:World}(Q:J.heap[b]?=some (Hr (some ⟨b,0,none⟩) v)) (U:Kp (fun k=>k=b) w J) (hr:mZ B J v x) (G:Below J.heap.size J w0) (hg:w0.grownBy F v.ownBlock) (H:mZ B F I (x++y)) :
  (F.cell? ⟨b,0,none⟩=some (.pointer (some ⟨b,0,none⟩))/\F.cell? ⟨b,1,none⟩=some v/\F.frozen? ⟨b,1,none⟩=false)/\DR B b (x++y) v w (F.setCell ⟨b,1,none⟩ I):=by
 have M:=ag Q G;have Y:=hr.below G;have Z:=Kp.of_grown hg;have C:=Z.blk M (fun e=>Y.ne M (by decide) b e.symm rfl);refine ⟨⟨af C rfl,af C rfl,am C⟩,I,⟨⟨_,.inr rfl,aj C 1 I⟩,?_⟩,?_⟩
 ·refine ⟨H.1,?_⟩
  rcases H.2 with h1|⟨g,cap,O,rfl,a2,a3,a4⟩
  ·exact .inl h1
  ·exact .inr ⟨g,cap,O,rfl,a2,(Kp.set F b 1 _).blk a3 (fun e=>H.ne C (by decide) g rfl e),a4⟩
 ·exact (((U.sub (fun k h=>.inl h)).step (Kp.of_below (S:=fun k=>k=b\/some k=v.ownBlock) G) (fun _ _ h=>h)).step Z (fun _ _ h=>.inr h)).step (Kp.set F b 1 I) (fun _ _ h=>.inl h)
theorem Bq {t:ByteArray}(h:Bu B b x w v) (hB:B<=w.heap.size) (hn:x.size+t.size<=100000000000) :
  Ta 11 #[.pointer (some ⟨b,0,none⟩),.string t] w fun e w'=>e=.returned (.tuple #[.int .i64 t.size,.nilIface])/\DR B b (x++t) v w w':=by
 obtain ⟨p,hp,M⟩:=h.blk;have U:Hid (Ta 20 #[.pointer (some ⟨b,0,none⟩)] w fun e w'=>e=.returned (.tuple #[])/\w'.heap[b]?=some (Hr (some ⟨b,0,none⟩) v)/\Kp (fun k=>k=b) w w'):=Bv hp M
 have Z:Hid (∀C,Kp (fun k=>k=b) w C->mZ B C v x/\B<=C.heap.size):=fun C hk=>⟨by
  refine ⟨h.row.1,?_⟩
  rcases h.row.2 with J|⟨g,cap,H,rfl,a2,a3,a4⟩
  ·exact .inl J
  ·exact .inr ⟨g,cap,H,rfl,a2,hk.blk a3 (fun e=>h.row.ne M (by decide) g rfl e),a4⟩,SY hB hk.size⟩
 have hv:∃p n c,v=.slice p n c:=by
  rcases h.row.2 with ⟨rfl,_⟩|⟨g,cap,H,rfl,_⟩
  ·exact ⟨_,_,_,rfl⟩
  ·exact ⟨_,_,_,rfl⟩
 clear h M hB
 go_enter Tryz.func11,Tryz.ntmps11
 go_wp2_with (go_at_call 20;refine U.out.mono ?_)
 rintro e C ⟨rfl,G,I⟩;obtain ⟨J,h2⟩:=Z.out C I;have c0:C.cell? ⟨b,0,none⟩=some (.pointer (some ⟨b,0,none⟩)):=af G rfl;have c1:C.cell? ⟨b,1,none⟩=some v:=af G rfl;have S:Hid (mZ B C v x/\B<=C.heap.size):=⟨J,h2⟩;have Y:Hid (∀O F,C.grownBy F v.ownBlock->mZ B F O (x++t)->(F.cell? ⟨b,0,none⟩=some (.pointer (some ⟨b,0,none⟩))/\F.cell? ⟨b,1,none⟩=some v/\F.frozen? ⟨b,1,none⟩=false)/\DR B b (x++t) v w (F.setCell ⟨b,1,none⟩ O)):=fun O F hg hr=>Ho G I J (hH _ _) hg hr
 obtain ⟨p1,n1,k1,rfl⟩:=hv;clear G I J h2 Z U
 go_wp2_with (at_builtin;refine L4 (by rfl) _ _ (by rfl) B (.slice p1 n1 k1) x t (by rfl) S.out.1 (by rfl) (by omega) S.out.2 ?_;intro v' F Q y2 y3;obtain ⟨⟨z0,z1,z2⟩,z3⟩:=Y.out v' F y3 Q;have HX:=ai z3;obtain ⟨p2,n2,k2,rfl⟩:∃p n c,v'=.slice p n c:=(by rcases Q.2 with ⟨rfl,_⟩|⟨g,cap,H,rfl,_⟩;exact ⟨_,_,_,rfl⟩;exact ⟨_,_,_,rfl⟩);clear Q y2 y3 z3 Y)
 go_ret2
 exact ⟨rfl,HX.out⟩
theorem LL (h:Bu B b x w v) (hB:B<=w.heap.size) (hn:x.size<=10000000000) :
  Ta 12 #[.pointer (some ⟨b,0,none⟩),.int .u8 32] w fun e w'=>e=.returned .nilIface/\DR B b (x++⟨#[32]⟩) v w w':=by
 obtain ⟨p,hp,O⟩:=h.blk;have Y:Hid (Ta 20 #[.pointer (some ⟨b,0,none⟩)] w fun e w'=>e=.returned (.tuple #[])/\w'.heap[b]?=some (Hr (some ⟨b,0,none⟩) v)/\Kp (fun k=>k=b) w w'):=Bv hp O
 have HR:Hid (∀C,Kp (fun k=>k=b) w C->mZ B C v x/\B<=C.heap.size):=fun C hk=>⟨by
  refine ⟨h.row.1,?_⟩
  rcases h.row.2 with M|⟨g,cap,I,rfl,a2,a3,a4⟩
  ·exact .inl M
  ·exact .inr ⟨g,cap,I,rfl,a2,hk.blk a3 (fun e=>h.row.ne O (by decide) g rfl e),a4⟩,SY hB hk.size⟩
 have hv:∃p n c,v=.slice p n c:=by
  rcases h.row.2 with ⟨rfl,_⟩|⟨g,cap,I,rfl,_⟩
  ·exact ⟨_,_,_,rfl⟩
  ·exact ⟨_,_,_,rfl⟩
 clear h O hB
 go_enter Tryz.func12,Tryz.ntmps12
 go_wp2_with (go_at_call 20;refine Y.out.mono ?_)
 rintro e C ⟨rfl,H,J⟩;obtain ⟨M,h2⟩:=HR.out C J;have c0:C.cell? ⟨b,0,none⟩=some (.pointer (some ⟨b,0,none⟩)):=af H rfl;have c1:C.cell? ⟨b,1,none⟩=some v:=af H rfl;have G:Below C.heap.size C (C.alloc (.cells #[.int .u8 32] 5)):=(hH _ _).alloc (gt _) _;have U:Hid (mZ B (C.alloc (.cells #[.int .u8 32] 5)) v x/\B<=(C.alloc (.cells #[.int .u8 32] 5)).heap.size):=⟨M.below G,SY h2 G.size⟩;have Z:Hid (∀Q F,(C.alloc (.cells #[.int .u8 32] 5)).grownBy F v.ownBlock->mZ B F Q (x++⟨#[32]⟩)->(F.cell? ⟨b,0,none⟩=some (.pointer (some ⟨b,0,none⟩))/\F.cell? ⟨b,1,none⟩=some v/\F.frozen? ⟨b,1,none⟩=false)/\DR B b (x++⟨#[32]⟩) v w (F.setCell ⟨b,1,none⟩ Q)):=fun Q F hg hr=>Ho H J M G hg hr
 obtain ⟨p1,n1,k1,rfl⟩:=hv;clear H J M h2 HR Y G
 go_wp2_with (at_builtin;refine O5 (by rfl) _ _ (by rfl) B (.slice p1 n1 k1) x (by rfl) U.out.1 C.heap.size 1 (by rfl) (aq _ _) (by omega) U.out.2 ?_;intro v' F S y2 y3;obtain ⟨⟨z0,z1,z2⟩,z3⟩:=Z.out v' F y3 S;have HX:=ai z3;obtain ⟨p2,n2,k2,rfl⟩:∃p n c,v'=.slice p n c:=(by rcases S.2 with ⟨rfl,_⟩|⟨g,cap,I,rfl,_⟩;exact ⟨_,_,_,rfl⟩;exact ⟨_,_,_,rfl⟩);clear S y2 y3 z3 Z)
 go_ret
 exact ⟨rfl,HX.out⟩
theorem Bu.is (h:Bu B b x w v) (F:B<=b):Lib.IsBuilder 41 5 B b (Lib.byteCells x.data.toList) w:=by
 obtain ⟨p,I,C⟩:=h.blk
 have H:w.ownsRow B 5 1 v (Lib.byteCells x.data.toList).length (Lib.byteCells x.data.toList):=by
  rw [Wc,TQ];exact h.row
 have G:v.ownBlock≠some b:=fun e=>h.row.ne C (by decide) b e rfl
 rcases I with rfl|rfl
 ·exact .inl ⟨F,v,C,H,G⟩
 ·exact .inr ⟨F,v,C,H,G⟩
end Go.Proofs.YtcjiapphbpiffaaGreatDoor
namespace Go.Proofs.YtcjiapphbpiffaaGreatDoor
open Go.RowKit Go.Shelf
variable {W A V w W':World}{b h B j e u:Nat}{v y:Value}{s x:ByteArray}{L D:List Tv}{row:Option Nat}
theorem y9:∀(l:List Tv) (i n:Nat),∀t∈(lB l i n).map (·.1),qE t=true
 |[],_,_,_,h=>by cases h
 |t :: r,i,n,x,h=>by
  unfold lB at h
  split at h
  ·rename_i ht
   rw [T1] at h
   rcases Tt.1 h with rfl|h
   ·exact ht
   ·exact y9 r _ _ x h
  ·exact y9 r _ _ x h
theorem sE (s:ByteArray):∀(l:List Tv) (i n u:Nat),oU s ((lB l i n).map (·.1)) u=oU s l u
 |[],_,_,_=>rfl
 |t :: r,i,n,u=>by
  unfold lB
  split
  ·rename_i ht
   rw [T1,gV,gV,IO ht,IO ht,sE s r]
  ·rename_i ht
   rw [gV,Eq ht,sE s r]
theorem uA (s:ByteArray):∀(l:List Tv) (i n u:Nat),DU s u l->DU s u ((lB l i n).map (·.1))
 |[],_,_,_,_=>trivial
 |t :: r,i,n,u,⟨a,h1,h2,h3,h4⟩=>by
  unfold lB
  split
  ·rw [T1];exact ⟨a,h1,h2,h3,uA s r _ _ _ h4⟩
  ·exact uA s r _ _ _ (h4.low (by omega))
theorem mZ.kept (J:W.grownBy W' row) (M:∀r,row=some r->∃o:Obj,W.heap[r]?=some o/\o.isCells=false) {v:Value}{x:ByteArray}(h:mZ B W v x):mZ B W' v x:=by
 refine ⟨h.1,?_⟩
 rcases h.2 with I|⟨g,cap,C,rfl,F,G,H⟩
 ·exact .inl I
 ·exact .inr ⟨g,cap,C,rfl,F,be J M G,H⟩
theorem Bu.kept (C:W.grownBy W' row) (F:∀r,row=some r->∃o:Obj,W.heap[r]?=some o/\o.isCells=false) {v:Value}{x:ByteArray}(h:Bu B b x W v):Bu B b x W' v:=by
 obtain ⟨p,G,H⟩:=h.blk;exact ⟨⟨p,G,be C F H⟩,h.row.kept C F⟩
theorem Qj {S:Nat->Prop}(h:Below B w W) (C:Kp S W W') (G:∀k,S k->B<=k) (F:B<=W.heap.size):Below B w W':=
 h.trans ⟨C.os,C.tape,C.output,C.size,fun j H=>C.block j (Tn H F) (fun I=>by have:=G j I;omega)⟩
def SC (A w:World):Prop:=∀(g:Nat) (cs:Array Value) (T:TypeId) (f:Nat × Nat),A.heap[g]?=some (.cells cs T f)->T≠41->T≠5->w.heap[g]?=some (.cells cs T f)
theorem Bu.oth (h:Bu B b x A y) (I:Kp (fun k=>k=b\/some k=y.ownBlock) A w):SC A w:=fun g cs T f C F G=>by
 refine I.blk C (fun e=>?_)
 rcases e with rfl|e
 ·obtain ⟨p,_,H⟩:=h.blk;rw [H] at C;cases C;exact F rfl
 ·exact h.row.ne C G g e.symm rfl
theorem Bu.kf (h:Bu B b x A y) (G:Kp (fun k=>k=b\/some k=y.ownBlock) A w) (n:Nat):KeepsFrom n A w:=by
 refine (iR G fun k H=>?_).from n
 rcases H with rfl|e
 ·obtain ⟨p,_,F⟩:=h.blk;exact dg F
 ·rcases h.row.2 with ⟨rfl,_⟩|⟨g,cap,I,rfl,_,C,_⟩
  ·cases e
  ·simp only [Value.ownBlock,Tp] at e;subst e;exact dg C
theorem Np {l:List Tv}(h:Rt B A v l) (J:SC A w):Rt B w v l:=by
 refine ⟨h.1,?_⟩
 rcases h.2 with I|⟨g,cap,C,rfl,F,G,H⟩
 ·exact .inl I
 ·exact .inr ⟨g,cap,C,rfl,F,J _ _ _ _ G (by decide) (by decide),H⟩
structure CB (W:World) (h b:Nat) (v:Value) (s:ByteArray) (L:List Tv) (wr:World):Prop where
 bel:Below W.heap.size W wr
 rt:Rt W.heap.size wr v L
 sb:wr.heap[h]?=some (.cells #[.string s] 9 (0,0))
 lb:wr.heap[b+2]?=some (.cells #[v] 35 (0,0))
theorem CB.own (c:CB W h b v s L A) (F:A.grownBy V row) (G:∀r,row=some r->W.heap.size<=r/\∃o:Obj,A.heap[r]?=some o/\o.isCells=false):CB W h b v s L V:=by
 have C:=fun r e=>(G r e).2
 exact ⟨c.bel.grown F c.bel.size (fun k e=>(G k e).1),zZ F C c.rt,be F C c.sb,be F C c.lb⟩
theorem CB.below (c:CB W h b v s L A) (C:Below A.heap.size A V):CB W h b v s L V:=
 ⟨c.bel.trans (C.mono c.bel.size),c.rt.below C,ag c.sb C,ag c.lb C⟩
theorem CB.wr (c:CB W h b v s L A) (H:W.heap.size<=b) (F:Bu W.heap.size b x A y) (G:Kp (fun k=>k=b\/some k=y.ownBlock) A V):CB W h b v s L V:=by
 have C:=F.oth G;refine ⟨Qj c.bel G (fun k e=>?_) c.bel.size,Np c.rt C,C _ _ _ _ c.sb (by decide) (by decide),C _ _ _ _ c.lb (by decide) (by decide)⟩
 rcases e with rfl|e
 ·exact H
 ·exact F.row.own k e.symm
structure CS (W:World) (h b:Nat) (v:Value) (s:ByteArray) (L D:List Tv) (j:Nat) (wr:World):Prop where
 cb:CB W h b v s L wr
 st:∃(u:Nat) (x:ByteArray) (y:Value),wr.heap[b+1]?=some (.cells #[.int .i64 u] 3 (0,0))/\Bu W.heap.size b x wr y/\x++oU s (D.drop j) u=oU s L 0/\x.size<=u+j/\DU s u (D.drop j)/\u<=s.size
theorem CS.own (c:CS W h b v s L D j A) (F:A.grownBy V row) (G:∀r,row=some r->W.heap.size<=r/\∃o:Obj,A.heap[r]?=some o/\o.isCells=false):CS W h b v s L D j V:=by
 obtain ⟨u,x,y,H,I,J⟩:=c.st;have C:=fun r e=>(G r e).2
 exact ⟨c.cb.own F G,u,x,y,be F C H,I.kept F C,J⟩
theorem CS.below (c:CS W h b v s L D j A) (C:Below A.heap.size A V):CS W h b v s L D j V:=by
 obtain ⟨u,x,y,F,G,H⟩:=c.st;exact ⟨c.cb.below C,u,x,y,ag F C,G.below C,H⟩
structure CM (W:World) (h b:Nat) (v:Value) (s:ByteArray) (L D:List Tv) (j:Nat) (k:Int) (e u:Nat) (A wr:World):Prop where
 cb:CB W h b v s L wr
 en:wr.heap[b+1]?=some (.cells #[.int .i64 u] 3 (0,0))
 st:∃x y,Bu W.heap.size b x wr y/\x++((if k=8 then ⟨#[32]⟩ else ⟨#[]⟩)++oU s (D.drop (j+1)) e)=oU s L 0/\x.size+(if k=8 then 1 else 0)<=e+(j+1)
 ch:DU s e (D.drop (j+1))
 es:e<=s.size
 kf:KeepsFrom W.heap.size A wr
 ot:SC A wr
theorem CS.cut (c:CS W h b v s L D j A) (O:W.heap.size<=b) {t:Tv}(ht:D[j]?=some t) (Q:qE t=true):∃(a u:Nat) (x:ByteArray) (y:Value),t.a=a/\u<=a/\a+t.t.size<=s.size/\A.heap[b+1]?=some (.cells #[.int .i64 u] 3 (0,0))/\Bu W.heap.size b x A y/\x.size<=u+j /\
  ∀G,DR W.heap.size b (x++s.extract u a) y A G->CM W h b v s L D j t.k (a+t.t.size) u A G:=by
 obtain ⟨u,x,y,H,C,F,M,I,U⟩:=c.st;rw [Lr ht] at F I;rw [gV,IO Q] at F;obtain ⟨a,c1,c2,c3,c4⟩:=I;rw [c1] at F;refine ⟨a,u,x,y,c1,c2,c3,H,C,M,fun G S=>?_⟩;obtain ⟨y',z1,z2⟩:=S;have J:=C.oth z2;refine ⟨c.cb.wr O C z2,J _ _ _ _ H (by decide) (by decide),⟨_,y',z1,?_,?_⟩,c4,c3,C.kf z2 _,J⟩
 ·rw [Uu];exact F
 ·rw [Uo,Uj]
  split <;> omega
theorem CM.byte (c:CM W h b v s L D j 8 e u A V) (O:W.heap.size<=b):∃x y,Bu W.heap.size b x V y/\x.size<=e+j/\∀F,DR W.heap.size b (x++⟨#[32]⟩) y V F->CM W h b v s L D j 7 e u A F:=by
 obtain ⟨x,y,C,G,H⟩:=c.st;refine ⟨x,y,C,by simp at H;omega,fun F S=>?_⟩;obtain ⟨y',z1,z2⟩:=S;have I:=C.oth z2;refine ⟨c.cb.wr O C z2,I _ _ _ _ c.en (by decide) (by decide),⟨_,y',z1,?_,?_⟩,c.ch,c.es,c.kf.trans (C.kf z2 _),fun g cs T f Q J M=>I _ _ _ _ (c.ot g cs T f Q J M) J M⟩
 ·rw [IO rfl] at G;rw [Eq (by decide),nS,Uu];exact G
 ·rw [Uo];show x.size+1+0<=_;simp at H;omega
theorem CM.fin {k:Int}(c:CM W h b v s L D j k e u A V) (hW:W.heap.size<=b) (M:¬k=8) (hh:h<b):CS W h b v s L D (j+1) (V.setCell ⟨b+1,0,none⟩ (.int .i64 e))/\KeepsFrom W.heap.size A (V.setCell ⟨b+1,0,none⟩ (.int .i64 e)):=by
 obtain ⟨x,y,H,J,Z⟩:=c.st;rw [Eq M,nS] at J;rw [Eq M] at Z;have F:=Kp.set V (b+1) 0 (.int .i64 e);obtain ⟨p,p1,p2⟩:=H.blk;refine ⟨⟨⟨c.cb.bel.setCell (p:=⟨b+1,0,none⟩) (by show _<=b+1;omega) _,c.cb.rt.kp F (fun k C Y=>?_),F.blk c.cb.sb (by omega),F.blk c.cb.lb (by omega)⟩,e,x,y,aj c.en 0 _,⟨⟨p,p1,F.blk p2 (by omega)⟩,?_⟩,J,by omega,c.ch,c.es⟩,c.kf.trans ((KeepsOthers.setCell _ _ _).from _)⟩
 ·rcases c.cb.rt.2 with ⟨I,h0⟩|⟨g,cap,G,I,_,O,_⟩
  ·rw [I] at C;cases C
  ·rw [I] at C;simp only [Value.ownBlock,Tp] at C;subst C;subst Y;rw [c.en] at O;cases O
 ·refine ⟨H.row.1,?_⟩
  rcases H.row.2 with q1|⟨g,cap,G,rfl,Q,S,U⟩
  ·exact .inl q1
  ·exact .inr ⟨g,cap,G,rfl,Q,F.blk S (fun e=>H.row.ne c.en (by decide) g rfl e),U⟩
end Go.Proofs.YtcjiapphbpiffaaGreatDoor
namespace Go.Proofs.YtcjiapphbpiffaaGreatDoor
open Go.Shelf Go.RowKit
theorem Sn (B b:Nat) (l:List UInt8) (w:World) (h:Lib.IsBuilder 41 5 B b (Lib.byteCells l) w) (C:B<=w.heap.size) :
  Ta 13 #[.pointer (some ⟨b,0,none⟩)] w fun e w'=>e=.returned (.string ⟨l.toArray⟩)/\Below B w w'/\Lib.OthersKept 5 (some b) w w':=(Any.Builder_String_any_k Lw.Tryz.lays169 Lw.Tryz.Builder_Extra_169 B b l w (Lib.IsBuilderF.of h) C).mono fun e w' h=>⟨h.1,h.2.2⟩
end Go.Proofs.YtcjiapphbpiffaaGreatDoor
namespace Go.Proofs.YtcjiapphbpiffaaGreatDoor
open Go.RowKit Go.Shelf
attribute [local go_sem] Oper.semAt_some
theorem Km {s:ByteArray}{L:List Tv}{R:ByteArray}{E x y z:Int}{W:World}(hl:L.length<=100000000) (hs:s.size<=4294967296) (hc:E=0->DU s 0 L) (HR:Hid ((E=0->R=oU s L 0)/\(E≠0->R=⟨#[]⟩)))
  (HS:Hid (∀V,Below W.heap.size W V->Ta 17 #[.string s] V (Ra V E x y z L))) :
  Ta 5 #[.string s] W (MU W E x y z R):=by
 refine (TW (n:=9)).1 ?_;refine callsIn_of_wp_marks Tryz.func5 rfl trivial ?_ rfl;simp only [Tryz.ntmps5,Ux,List.length_cons,List.length_nil,Nat.reduceAdd,Nat.reduceSub,Ur,Us,UI,Uy,TB,Tr];have ad:Below W.heap.size W (W.alloc (.cells #[.string s] 9)):=(hH _ _).alloc (gt _) _;have HT:Hid (Ta 9 #[.string s] (W.alloc (.cells #[.string s] 9)) (SP (W.alloc (.cells #[.string s] 9)) E x y z L)):=zH (HS.out _ ad);have HX:Hid (Below W.heap.size W (W.alloc (.cells #[.string s] 9))):=ad;clear ad HS
 gi_wp2
 refine ⟨trivial,?_⟩;refine (TW.2 HT.out).mono ?_;rintro r G ⟨v,er,rfl,he,hv,aa⟩;have I:Below W.heap.size W G:=HX.out.trans (aa.mono HX.out.size);have ac:G.heap[W.heap.size]?=some (.cells #[.string s] 9 (0,0)):=ag (aq _ _) aa;obtain ⟨h,hh⟩:∃h,W.heap.size=h:=⟨_,rfl⟩
 rcases he with ⟨Z,rfl⟩|⟨Z,g,rfl,hg⟩
 rotate_left
 ·obtain rfl:=HR.out.2 Z;have H1:Hid (G.heap[g]?=some (Sc E x y z)/\Below W.heap.size W G):=⟨hg,I⟩;clear hg aa hv I ac HX HT
  gi_wp2
  refine ⟨.tuple #[.string ⟨#[]⟩,QZ g],by simp [results,Tryz.f5,go_sem],?_⟩;exact ⟨_,rfl,.inr ⟨Z,g,rfl,H1.out.1⟩,H1.out.2⟩
 ·have ap:Hid (R=oU s L 0):=HR.out.1 Z;have aj:=hc Z;subst Z;have ae:=PR (hv rfl) (A:=W.heap.size) (by rw [SX];omega);obtain ⟨ao,cap,rfl,hL,-,-,-⟩:=Lt.row ae;clear aa hv HX HT HR hc
  gi_wp2
  refine ⟨trivial,?_⟩;refine (TW.2 (xq _ _ _ _)).mono ?_;rintro r w2 ⟨rfl,rfl⟩
  gi_wp2
  obtain ⟨b,hb⟩:∃b,G.heap.size=b:=⟨_,rfl⟩;obtain ⟨W0,hW0⟩:∃W0,((G.alloc (Hr none (.slice none 0 0))).alloc (.cells #[.int .i64 0] 3)).alloc (.cells #[.slice ao L.length cap] 35)=W0:=⟨_,rfl⟩;rw [hb];have e1:(G.alloc (Hr none (.slice none 0 0))).heap.size=b+1:=by rw [SX,hb]
  have e2:((G.alloc (Hr none (.slice none 0 0))).alloc (.cells #[.int .i64 0] 3)).heap.size=b+2:=by rw [SX,e1]
  have hW:Below G.heap.size G W0:=by rw [<-hW0];exact (((hH _ _).alloc (gt _) _).alloc (by rw [e1];omega) _).alloc (by rw [e2];omega) _
  have hsz:W0.heap.size=b+3:=by rw [<-hW0,SX,e2]
  have H:W.heap.size<=b:=by rw [<-hb];exact I.size
  have ak:h<b:=by rw [<-hb,<-hh];exact au ac
  obtain ⟨D,hD⟩:∃D,(lB L 0 0).map (·.1)=D:=⟨_,rfl⟩
  have Z:CS W h b (.slice ao L.length cap) s L D 0 W0:=by
   refine ⟨⟨I.trans (hW.mono I.size),ae.below hW,by rw [<-hh];exact ag ac hW,?_⟩,0,⟨#[]⟩,.slice none 0 0,?_,⟨⟨none,.inl rfl,?_⟩,NF _ _⟩,?_,SW _,?_,SW _⟩
   ·rw [<-hW0,<-e2];exact aq _ _
   ·rw [<-hW0,<-e1];exact aD (aq _ _) _
   ·rw [<-hW0,<-hb];exact aD (aD (aq _ _) _) _
   ·rw [nS,VW,<-hD];exact sE s L 0 0 0
   ·rw [VW,<-hD];exact uA s L 0 0 0 aj
  rw [hW0];have HD:Hid ((lB L 0 0).map (·.1)=D/\D.length<=L.length):=⟨hD,by rw [<-hD,UC];have h1:=Tm List.length (ll L 0 0);rw [UC] at h1;rw [h1];exact kK L 0 0⟩;have Y:(lB L 0 0).length=D.length:=by rw [<-hD,UC]
  clear hW0 e1 e2 hW ae hL I ac aj hD hh
  refine jm rfl (by omega) (gf:=18) (lb:=#[.pointer (some ⟨b+1+1,0,none⟩)]) rfl trivial (enters_of Tryz.func18 (by kernel_rfl) rfl) (rZ 8 (by omega) (b+1+1) ao L cap hl) (fun j=>rfl) (fun j V=>CS W h b (.slice ao L.length cap) s L D j V)
   (fun j A B row c hg hr=>c.own hg (fun r e=>⟨by have:=(hr r e).1;omega,(hr r e).2⟩)) (fun j V c=>⟨af c.cb.lb rfl,by obtain ⟨a9,c9,e9,h9,_⟩:=Lt.row c.cb.rt;cases e9;exact h9⟩) Z
   (fun j a' V=>∃q d u19 u20,D[j]?=some d/\qE d=true/\V.heap[q]?=some (.cells #[.int .u8 d.k,.string d.t,.int .i64 d.a,.int .i64 d.l,.int .i64 d.c,.int .i64 d.f] 49 (0,0))/\a'={ tmps:=#[.string s,.pointer (some ⟨h,0,none⟩),.string ⟨#[]⟩,.nilIface,.slice ao L.length cap,.nilIface,.pointer (some ⟨b,0,none⟩),.pointer (some ⟨b+1,0,none⟩),.pointer (some ⟨q,0,none⟩),.tuple #[.slice ao L.length cap,.nilIface],.string s,.tuple #[.slice ao L.length cap,.nilIface],.slice ao L.length cap,.nilIface,.nilIface,.bool false,undef,.slice ao L.length cap,.func (.func 18) #[] #[.pointer (some ⟨b+1+1,0,none⟩)],u19,u20,undef,undef,undef,undef,undef,undef,undef,undef,undef,undef,undef,undef,undef,undef,undef,undef,undef,undef,undef,undef,undef,undef,undef],defers:=[] })
   (fun j a' u A B row c hg hr=>by obtain ⟨q,d,u19,u20,h1,h2,h3,h4⟩:=c;exact ⟨q,d,u19,u20,h1,h2,be hg (fun r e=>(hr r e).2) h3,h4⟩) ?assign ?body ?done
  case assign=>
   intro lp j V K hj M hK;obtain ⟨d,hd⟩:∃d,(lB L 0 0)[j]?=some d:=⟨_,Pi hj⟩;have hR:D[j]?=some d.1:=by rw [<-HD.out.1,T8,hd];rfl
   have hn:qE d.1=true:=y9 L 0 0 d.1 (by rw [HD.out.1];exact T3 hR);rw [yH hd]
   dsimp only [Tv.v,eP.v]
   gi_wp2
   have ai:Below V.heap.size V (V.alloc (.cells #[.int .u8 d.1.k,.string d.1.t,.int .i64 d.1.a,.int .i64 d.1.l,.int .i64 d.1.c,.int .i64 d.1.f] 49)):=(hH _ _).alloc (gt _) _;exact hK _ _ (pO ai) (M.below ai) ⟨V.heap.size,d.1,_,_,hR,hn,aq _ _,rfl⟩
  case body=>
   rintro lp j a' V hj M ⟨q,d,u19,u20,hd,hn,hq,rfl⟩;have ay:j<=100000000:=by have:=HD.out.2;omega
   obtain ⟨a,u,X,yv,c1,c2,c3,c4,c5,c6,c7⟩:=M.cut H hd hn;have s0:V.cell? ⟨h,0,none⟩=some (.string s):=af M.cb.sb rfl;have u0:V.cell? ⟨b+1,0,none⟩=some (.int .i64 u):=af c4 rfl;have d0:V.cell? ⟨q,0,none⟩=some (.int .u8 d.k):=af hq rfl;have d1:V.cell? ⟨q,1,none⟩=some (.string d.t):=af hq rfl;have d2:V.cell? ⟨q,2,none⟩=some (.int .i64 a):=by rw [<-c1];exact af hq rfl
   have ze:(s.extract u a).size=a-u:=by rw [Uj];omega
   have Q:Hid (Ta 11 #[.pointer (some ⟨b,0,none⟩),.string (s.extract u a)] V fun e w'=>e=.returned (.tuple #[.int .i64 (s.extract u a).size,.nilIface])/\DR W.heap.size b (X++s.extract u a) yv V w'):=Bq c5 M.cb.bel.size (by omega);obtain ⟨e,he⟩:∃e,a+d.t.size=e:=⟨_,rfl⟩;have aw:(a:Int)+d.t.size=e:=by omega
   rw [he] at c7 c3;have HM:Hid (∀G,DR W.heap.size b (X++s.extract u a) yv V G->CM W h b (.slice ao L.length cap) s L D j d.k e u V G):=c7;have HQ:Hid (V.heap[q]?=some (.cells #[.int .u8 d.k,.string d.t,.int .i64 d.a,.int .i64 d.l,.int .i64 d.c,.int .i64 d.f] 49 (0,0))/\d.a=a):=⟨hq,c1⟩;clear c7 c5 c4 M hd hq he c1 Z Y hj
   gi_wp2
   refine ⟨trivial,?_⟩;refine (CallsIn.inRound lp (TW.2 Q.out)).mono ?_;rintro r C ⟨rfl,U⟩;have F:=HM.out C U;have J:=F.ot _ _ _ _ HQ.out.1 (by decide) (by decide);rw [HQ.out.2] at J;clear s0 u0 d0 d1 d2 HM Q U;have k0:C.cell? ⟨q,0,none⟩=some (.int .u8 d.k):=af J rfl
   by_cases h8:d.k=8
   ·rw [h8] at F k0;obtain ⟨X2,y2,m1,m2,m3⟩:=F.byte H;have ax:=F.es;have ah:Hid (Ta 12 #[.pointer (some ⟨b,0,none⟩),.int .u8 32] C fun e w'=>e=.returned .nilIface/\DR W.heap.size b (X2++⟨#[32]⟩) y2 C w'):=LL m1 F.cb.bel.size (by omega);have HM:Hid (∀G,DR W.heap.size b (X2++⟨#[32]⟩) y2 C G->CM W h b (.slice ao L.length cap) s L D j 7 e u V G):=m3;clear m1 m2 m3 F J
    gi_wp2
    refine ⟨trivial,?_⟩;refine (CallsIn.inRound lp (TW.2 ah.out)).mono ?_;rintro r O ⟨rfl,al⟩;have S:=HM.out O al;have ab:=S.ot _ _ _ _ HQ.out.1 (by decide) (by decide);rw [HQ.out.2] at ab;have k1:O.cell? ⟨q,1,none⟩=some (.string d.t):=af ab rfl;have k2:O.cell? ⟨q,2,none⟩=some (.int .i64 a):=af ab rfl;have k3:O.cell? ⟨b+1,0,none⟩=some (.int .i64 u):=af S.en rfl;have k4:O.frozen? ⟨b+1,0,none⟩=false:=am S.en;have HF:Hid (CS W h b (.slice ao L.length cap) s L D (j+1) (O.setCell ⟨b+1,0,none⟩ (.int .i64 e))/\KeepsFrom W.heap.size V (O.setCell ⟨b+1,0,none⟩ (.int .i64 e))):=S.fin H (by decide) ak;clear S ab al HM ah k0
    gi_wp2
    exact ⟨⟨HF.out.2.size,fun k o hk=>HF.out.2.same k o (by omega)⟩,HF.out.1⟩
   ·have q8:(d.k == 8)=false:=by simpa using h8
    have k1:C.cell? ⟨q,1,none⟩=some (.string d.t):=af J rfl;have k2:C.cell? ⟨q,2,none⟩=some (.int .i64 a):=af J rfl;have k3:C.cell? ⟨b+1,0,none⟩=some (.int .i64 u):=af F.en rfl;have k4:C.frozen? ⟨b+1,0,none⟩=false:=am F.en;have HF:Hid (CS W h b (.slice ao L.length cap) s L D (j+1) (C.setCell ⟨b+1,0,none⟩ (.int .i64 e))/\KeepsFrom W.heap.size V (C.setCell ⟨b+1,0,none⟩ (.int .i64 e))):=F.fin H h8 ak;clear F J
    gi_wp2
    exact ⟨⟨HF.out.2.size,fun k o hk=>HF.out.2.same k o (by omega)⟩,HF.out.1⟩
  case done=>
   intro Df V av M an;obtain ⟨u,X,yv,c4,c5,c6,c7,c8,c9⟩:=M.st;rw [Y,US] at c6;have ar:=HD.out.2;have s0:V.cell? ⟨h,0,none⟩=some (.string s):=af M.cb.sb rfl;have u0:V.cell? ⟨b+1,0,none⟩=some (.int .i64 u):=af c4 rfl;have ze:(s.extract u s.size).size=s.size-u:=by rw [Uj];omega
   have Q:Hid (Ta 11 #[.pointer (some ⟨b,0,none⟩),.string (s.extract u s.size)] V fun e w'=>e=.returned (.tuple #[.int .i64 (s.extract u s.size).size,.nilIface])/\DR W.heap.size b (X++s.extract u s.size) yv V w'):=Bq c5 M.cb.bel.size (by omega)
   have HC:Hid (∀C,DR W.heap.size b (X++s.extract u s.size) yv V C->Below W.heap.size W C/\C.heap[Df]?=some (.deferred (some []))/\∃y3,Bu W.heap.size b (oU s L 0) C y3):=fun C hz=>by
    obtain ⟨y3,z1,z2⟩:=hz;refine ⟨(M.cb.wr H c5 z2).bel,(c5.kf z2 W.heap.size).same _ _ (by omega) an rfl,y3,?_⟩;rw [<-c6];exact z1
   clear M c4 c5 c6 c8 Z Y
   gi_wp2
   refine ⟨trivial,?_⟩;refine (TW.2 Q.out).mono ?_;rintro r C ⟨rfl,U⟩;obtain ⟨n1,n2,y3,n3⟩:=HC.out C U;have HB:Hid (Ta 13 #[.pointer (some ⟨b,0,none⟩)] C fun e w'=>e=.returned (.string ⟨(oU s L 0).data.toList.toArray⟩)/\Below W.heap.size C w'/\Lib.OthersKept 5 (some b) C w'):=Sn W.heap.size b _ C (n3.is H) n1.size;have HN:Hid (Below W.heap.size W C/\C.heap[Df]?=some (.deferred (some []))):=⟨n1,n2⟩;clear n1 n2 n3 U HC Q s0 u0
   gi_wp2
   refine ⟨trivial,?_⟩;refine (TW.2 HB.out).mono ?_;rintro r O ⟨rfl,o1,o2⟩;have HZ:Hid (Below W.heap.size W O/\O.heap[Df]?=some (.deferred (some []))):=⟨HN.out.1.trans o1,o2 _ _ HN.out.2 (by simp;omega) (by simp)⟩;clear o1 o2 HN HB
   gi_wp2
   have hg:=grownBy_putObj' O Df (.deferred none);refine ⟨by simp,.inl ⟨_,_,rfl,run_takeDeferred HZ.out.2,?_⟩⟩;refine ⟨.tuple #[.string R,.nilIface],by rw [ap.out];simp [results,Tryz.f5,go_sem],?_⟩;exact ⟨_,rfl,.inl ⟨rfl,rfl⟩,HZ.out.1.grown hg HZ.out.1.size (fun r e=>by cases e;omega)⟩
end Go.Proofs.YtcjiapphbpiffaaGreatDoor
namespace Go.Proofs.YtcjiapphbpiffaaGreatDoor
open Go.RowKit
theorem mo (s:ByteArray):eN s=0↔(Lx.cV s).2.1=0:=by
 unfold eN;omega
theorem AD {s:ByteArray}{W:World}(C:Lx.nt W) (G:s.size<=2147483647) (F:(uQ s).length<=100000000):Ta 6 #[.string s] W (L7 W (eN s) (eX s) (eY s) (eZ s) (Rh s)):=
 Kn F ⟨fun h=>IO ((mo s).1 h),fun h=>Eq (fun e=>h ((mo s).2 e))⟩ ((Lx.uL s W C G).mono fun e w' h=>Iw h)
theorem tC {s:ByteArray}{W:World}(C:Lx.nt W) (H:s.size<=2147483647) (G:(uQ s).length<=100000000):Ta 5 #[.string s] W (MU W (eN s) (eX s) (eY s) (eZ s) (QU s)):=
 Km G (by omega) (fun _=>AA s) ⟨fun h=>IO ((mo s).1 h),fun h=>Eq (fun e=>h ((mo s).2 e))⟩ (fun V F=>(Lx.uL s V (C.below F) H).mono fun e w' h=>Iw h)
theorem Qg:(eN yE,eX yE,eY yE,eZ yE)=(0,0,0,0):=by kernel_rfl
theorem Qf:(eN yD,eX yD,eY yD,eZ yD)=(0,0,0,0):=by kernel_rfl
theorem Qe:Rh yE=N0:=by kernel_rfl
theorem Qd:QU yD=Qc:=by kernel_rfl
theorem ka {s:ByteArray}{n:Nat}(h:s.size<=n):(uQ s).length<=n:=SY (tA s) h
theorem wj {W:World}(H:Lx.nt W):Ta 4 #[] W fun r w'=>r=.returned (.bool true)/\Below W.heap.size W w':=by
 refine CF (fun V G=>?_) (fun V G=>?_)
 ·have h:=AD (s:=yE) (H.below G) (by decide) (ka (by decide));obtain ⟨F,C⟩:=U9 Qg;obtain ⟨C,e3⟩:=U9 C;obtain ⟨e3,e4⟩:=U9 e3;rw [F,C,e3,e4,Qe] at h;exact h
 ·have h:=tC (s:=yD) (H.below G) (by decide) (ka (by decide));obtain ⟨F,C⟩:=U9 Qf;obtain ⟨C,e3⟩:=U9 C;obtain ⟨e3,e4⟩:=U9 e3;rw [F,C,e3,e4,Qd] at h;exact h
def SU (W:World) (n:Int) (s V:ByteArray) (R:List eP):Prop:=(∀U,Below W.heap.size W U->Ta 7 #[.int .i64 n,.string s] U fun r w'=>r=.returned (.tuple #[.string V,.nilIface])/\Below U.heap.size U w')/\(∀U,Below W.heap.size W U->Ta 6 #[.string s] U (L7 U 0 0 0 0 R))/\(∀U,Below W.heap.size W U->Ta 6 #[.string V] U (L7 U 0 0 0 0 R))/\R.length<=1000000000
def ST (W:World) (n:Int) (s:ByteArray):Prop:=∀U,Below W.heap.size W U->Ta 7 #[.int .i64 n,.string s] U fun r w'=>∃g,r=.returned (.tuple #[.string ⟨#[]⟩,QZ g])/\Below U.heap.size U w'
theorem tG {w:World}{er:Value}{x y z:Int}(h:Er w er 0 x y z):er=.nilIface:=by
 rcases h with ⟨_,h⟩|⟨h,_⟩
 ·exact h
 ·exact absurd rfl h
theorem pE {n:Int}{s T V:ByteArray}{R:List eP}{E x y z:Int}{W:World}(hs:s.size<=maxLen)
  (HA:Hid (Ta 4 #[] W fun r w'=>r=.returned (.bool true)/\Below W.heap.size W w'))
  (HS:Hid (s.size<=1048576->∀U,Below W.heap.size W U->Ta 5 #[.string s] U (MU U E x y z T)))
  (HT:Hid (s.size<=1048576->E=0->(∀U,Below W.heap.size W U->Ta 6 #[.string T] U (L7 U 0 0 0 0 []))/\∀U,Below W.heap.size W U->Ta 5 #[.string T] U (MU U 0 0 0 0 T)))
  (HF:Hid (s.size<=1048576->ST W n s\/SU W n s V R)) :
  Ta 3 #[.int .i64 n,.string s] W fun r w'=>r=.returned (.bool true)/\Below W.heap.size W w':=by
 by_cases hb:1048576<s.size
 ·have q:(s.size:Int)>1048576:=by omega
  clear hb HS HT HF
  go_enter Tryz.func3,Tryz.ntmps3
  go_wp2_with fail
  refine HA.out.mono ?_;rintro r w1 ⟨rfl,G⟩;have O:Hid (Tb W w1):=G;clear G
  go_wp2_with fail
  go_ret
  exact ⟨rfl,O.out⟩
 have q:¬((s.size:Int)>1048576):=by omega
 have aa:=show Hid _ from HS.out (by omega)
 have J:=show Hid _ from HT.out (by omega)
 have I:=show Hid _ from HF.out (by omega)
 clear hb HS HT HF
 go_enter Tryz.func3,Tryz.ntmps3
 go_wp2_with fail
 refine HA.out.mono ?_;rintro r w1 ⟨rfl,G⟩;have O:Hid (Tb W w1):=G;clear G HA
 go_wp2_with fail
 refine (aa.out _ O.out).mono ?_;rintro r w2 ⟨er,rfl,F,ab⟩;have C:Hid (Tb W w2):=O.out.trans (ab.mono O.out.size);clear ab O aa
 rcases F with ⟨hE,rfl⟩|⟨hE,g,rfl,_⟩
 case' inl=>
  obtain ⟨t1,t2⟩:=J.out hE;have HO:Hid (∀U,Tb W U->Ta 6 #[.string T] U (L7 U 0 0 0 0 [])):=t1;have HP:Hid (∀U,Tb W U->Ta 5 #[.string T] U (MU U 0 0 0 0 T)):=t2;clear t1 t2 J hE
  go_wp2_with fail
  refine (HO.out _ C.out).mono ?_;rintro r w3 ⟨v,er,rfl,hv,F,ac⟩;obtain rfl:=tG F;obtain ⟨p3,k3,rfl,-,-⟩:=hv.shape;have H3:Hid (Tb W w3):=C.out.trans (ac.mono C.out.size);clear ac C hv F HO
  dsimp only [List.length_nil]
  go_wp2_with fail
  refine (HP.out _ H3.out).mono ?_;rintro r w5 ⟨er,rfl,F,ad⟩;obtain rfl:=tG F;have C:Hid (Tb W w5):=H3.out.trans (ad.mono H3.out.size);clear ad H3 F HP
 case' inr=>
  clear J hE
 all_goals (
  go_wp2_with fail
  rcases I.out with hf|hf
  ·have S:Hid (ST W n s):=hf;clear hf I;refine (S.out _ C.out).mono ?_;rintro r w6 ⟨g6,rfl,H⟩;have Q:Hid (Tb W w6):=C.out.trans (H.mono C.out.size);clear H C
   go_wp2_with fail
   go_ret
   exact ⟨rfl,Q.out⟩
  ·have S:Hid (SU W n s V R):=hf;clear hf I;refine (S.out.1 _ C.out).mono ?_;rintro r w6 ⟨rfl,H⟩;have Q:Hid (Tb W w6):=C.out.trans (H.mono C.out.size);clear H C
   go_wp2_with fail
   refine (S.out.2.1 _ Q.out).mono ?_;rintro r w7 ⟨v7,er,rfl,ag,F,ae⟩;obtain rfl:=tG F;obtain ⟨p7,k7,rfl,hL7,-⟩:=Lm.row ag;have Y:Hid (Tb W w7/\Lm w7 p7 R):=⟨Q.out.trans (ae.mono Q.out.size),hL7⟩;clear ae Q ag hL7 F
   go_wp2_with fail
   refine (S.out.2.2.1 _ Y.out.1).mono ?_;rintro r w8 ⟨v8,er,rfl,ah,F,M⟩;obtain rfl:=tG F;obtain ⟨p8,k8,rfl,hL8,-⟩:=Lm.row ah;have Z:Hid (Tb W w8/\Lm w8 p7 R/\Lm w8 p8 R):=⟨Y.out.1.trans (M.mono Y.out.1.size),Y.out.2.below M,hL8⟩;clear M Y ah hL8 F
   go_wp2_with fail
   refine (FK Z.out.2.1 Z.out.2.2 S.out.2.2.2).mono ?_;rintro r w9 ⟨rfl,af⟩;have H9:Hid (Tb W w9):=Z.out.1.trans (af.mono Z.out.1.size);clear af Z
   go_wp2_with fail
   go_ret
   exact ⟨rfl,H9.out⟩)
end Go.Proofs.YtcjiapphbpiffaaGreatDoor
namespace Go.Proofs.YtcjiapphbpiffaaGreatDoor
open Go.RowKit
open Lw (Dc bE rt cG dD fu iC jw ud qD)
variable {s:ByteArray}
structure Tln (s T:ByteArray):Prop where
 tw:TwF s T
 sc:(Lx.cV T).2.1=0
 sz:T.size<=2147483647
theorem M9 {E:List Ev}{L:List Dc}(h:Fd s E L) (n:Int):Tln s (wo n L):=by
 obtain ⟨a,I⟩:=h.al;obtain ⟨L2,hL2,_,hall⟩:=oK s h.sc I;obtain rfl:=TE (hL2.symm.trans h.ly);obtain ⟨c1,_,hR⟩:=hall n.toNat;obtain ⟨f1,f2,f3,f4,f5,f6⟩:=qh h
 have U:(wo n L2).size<=qD L2:=by
  have H:=Lw.sV (n:=n.toNat) L2 (Lw.eQ L2).1 Lw.qK 0 f5 Lw.SN;have S:=H.out;show (Lw.jZ n.toNat L2).toArray.size<=_;rw [Ux];show (Lw.puts n.toNat L2 (Lw.eQ L2).1 Lw.qK).sk.out.length<=_;omega
 refine ⟨⟨Nz hR,fun j t t' O Q=>?_⟩,c1,by omega⟩;obtain ⟨C,F,G⟩:=PT hR O Q;exact ⟨C,F,fun J M=>G (.inr J) M⟩
theorem xZ :∀{l:List Tv}{u:Nat},DU s u l->u<=s.size->(oU s l u).size<=s.size-u+l.length
 |[],u,_,h=>by
  show (s.extract u s.size).size<=_
  rw [Uj];simp
 |t :: r,u,⟨a,h1,h2,h3,h4⟩,h=>by
  have F:=xZ h4 h3;have G:=xZ (h4.low (show u<=a+t.t.size by omega)) h;rw [gV];simp only [List.length_cons]
  split
  ·rw [h1];show (s.extract u a++(_++oU s r (a+t.t.size))).size<=_;rw [Uo,Uo,Uj]
   have C:(if t.k=8 then (⟨#[32]⟩:ByteArray) else ⟨#[]⟩).size<=1:=by
    split
    ·exact gt _
    ·exact SW _
   omega
  ·omega
theorem GN (h:(Lx.cV s).2.1=0):eN s=0/\eX s=0/\eY s=0/\eZ s=0:=⟨(mo s).2 h,IO h,IO h,IO h⟩
theorem th {W:World}(O:Lx.nt W) (Y:s.size<=2147483647) (S:(uQ s).length<=100000000) (h:(Lx.cV s).2.1=0) {R:List eP}(M:vI (uQ s) 0 0=R):∀U,Below W.heap.size W U->Ta 6 #[.string s] U (L7 U 0 0 0 0 R):=fun U Q=>by
 have C:=AD (O.below Q) Y S;obtain ⟨F,G,H,I⟩:=GN h;rw [F,G,H,I] at C;have J:Rh s=R:=(IO h).trans M;rw [J] at C;exact C
theorem qP (n:Int) (s:ByteArray) (J:s.size<=maxLen) (W:World) (H:Lx.nt W) (hW:Lw.kl W) (Z:nu W) :
  Ta 3 #[.int .i64 n,.string s] W fun r w'=>r=.returned (.bool true)/\Below W.heap.size W w':=by
 obtain ⟨T,I⟩:∃T,QU s=T:=⟨_,rfl⟩
 have Q:s.size<=1048576->eN s=0->(∀U,Below W.heap.size W U->Ta 6 #[.string T] U (L7 U 0 0 0 0 []))/\∀U,Below W.heap.size W U->Ta 5 #[.string T] U (MU U 0 0 0 0 T):=fun hz h0=>by
  have hc:=(mo s).1 h0;have S:oU s (uQ s) 0=T:=(IO hc).symm.trans I;obtain ⟨M,t2,t3⟩:=Em hc S
  have hsz:T.size<=2097152:=by
   have G:=xZ (AA s) (SW _);have Y:=tA s;rw [S] at G;omega
  refine ⟨th H (by omega) (ka (by omega)) M t2,fun U F=>?_⟩;have G:=tC (s:=T) (H.below F) (by omega) (ka (by omega));obtain ⟨e1,e2,e3,e4⟩:=GN M;rw [e1,e2,e3,e4] at G;have e6:QU T=T:=(IO M).trans t3;rw [e6] at G;exact G
 have O:s.size<=1048576->∀U,Below W.heap.size W U->Ta 5 #[.string s] U (MU U (eN s) (eX s) (eY s) (eZ s) T):=fun hz U F=>by
  rw [<-I];exact tC (H.below F) (by omega) (ka (by omega))
 rcases C5 s J n with ⟨n1,n2,E,L,hF⟩|hX
 ·have C:=M9 hF n;have hsz:=hF.sz;refine pE (V:=wo n L) (R:=vI (uQ s) 0 0) J (wj H) O Q (fun _=>.inr ⟨fun U F=>wP hF n1 n2 (H.below F) (hW.below F) (Z.below F),th H (by omega) (ka (by omega)) hF.sc rfl,th H C.sz ?_ C.sc ?_,?_⟩)
  ·have G:(uQ (wo n L)).length=(uQ s).length:=C.tw.len;rw [G];exact ka (by omega)
  ·refine EV _ _ 0 0 C.tw.len (fun j t t' G Y=>?_);obtain ⟨a1,a2,a3⟩:=C.tw.at_ j t t' G Y;exact ⟨a1,a2,fun hj hn=>a3 (by omega) (by simpa [gQ,qE] using hn)⟩
  ·have:=kK (uQ s) 0 0;have:=tA s;omega
 ·refine pE (V:=⟨#[]⟩) (R:=[]) J (wj H) O Q (fun _=>.inl fun U F=>(hX U (H.below F) (Z.below F)).mono ?_);rintro r w' ⟨g,c,x,y,u,_,rfl,_,y2⟩;exact ⟨g,rfl,y2⟩
end Go.Proofs.YtcjiapphbpiffaaGreatDoor
