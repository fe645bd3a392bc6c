/- The reference's Cells: an insertion. -/
import Derived.Test.YtfhoilcbhmeofaaGreatB24
set_option maxRecDepth 100000
set_option maxHeartbeats 16000000
namespace Go.Proofs.YtfhoilcbhmeofaaGreat
open Go.RowKit
section
def fY(k:Int)(m:Mk)(c:Cl)(seen:f7):Bool:=!(oS k m c)||decide (c.k∈seen)
def Kc(k:Int)(m:Mk)(l:List Cl):Prop:=(∀c∈l,oS k m c=true)∧l.Pairwise (fun a b=>a.k≠b.k)
theorem XF{k:Int}{m:Mk}{l:List Cl}{c:Cl}(h:Kc k m l)(hb:fY k m c (l.map (·.k))=false):Kc k m (l++[c]):=by
 unfold fY at hb;simp at hb;refine⟨fun x e=>?_,?_⟩
 ·rcases List.mem_append.1 e with q|q
  ·exact h.1 x q
  ·simp at q;subst q;exact hb.1
 ·rw[List.pairwise_append];refine⟨h.2,by simp,fun a f b d=>?_⟩;simp at d;subst d;exact hb.2 a f
theorem Cd{k:Int}{m:Mk}{l r:List Cl}{c:Cl}(hb:fY k m c (l.map (·.k))=true): ¬Kc k m (l++c::r):=by
 rintro⟨e,b⟩;unfold fY at hb;simp at hb;rcases hb with q|⟨a,d,q⟩
 ·have:=e c (by simp);rw[q]at this
  cases this
 ·rw[List.pairwise_append]at b;exact b.2.2 a d c (by simp) q
def nU(k:Int)(P:Bo)(S:Dk):Prop:= ∃m Ls,B7 (A0 P S 0)=(m,0)∧C8 P S 6=some Ls∧Ev k m Ls
def Lu(A:n9)(w:d9)(sv dv:Value)(k:Int)(P:Bo)(S:Dk)(e:Ending)(w':d9):Prop:=
 ∃(b:Bool) (S':Dk),e= .returned (.bool b)∧(b=true↔nU k P S)∧RT A w' sv dv k P S'∧F0 7 S S'∧Ch A w w'
theorem RT.high{A:n9}{w w1:d9}{sp:Nat}{dv:Value}{k:Int}{P:Bo}{S:Dk}(h:RT A w (.pointer (some ⟨sp,0,none⟩)) dv k P S){E:n9}(hc:Ch E w w1)(hA: ∀x,A x→ ¬E x)(hs: ¬E sp):RT A w1 (.pointer (some ⟨sp,0,none⟩)) dv k P S:=by
 obtain⟨sp',g,e,a,f,d,c⟩:=h
 cases e
 have b:=(Array.getElem?_eq_some_iff.1 a).1;exact⟨sp,g,rfl,by rw[hc.block sp b hs];exact a,f,d.ch hc hA,c⟩
theorem RT.kind{A:n9}{w:d9}{sp:Nat}{dv:Value}{k:Int}{P:Bo}{S:Dk}(h:RT A w (.pointer (some ⟨sp,0,none⟩)) dv k P S):w.cell? ⟨sp,1,none⟩=some (.int .i64 k):=by
 obtain⟨sp',b,e,a,_⟩:=h
 cases e
 rw[cell_of_row w sp 1 _ _ (0,0) a];rfl
structure Rx(A:n9)(w:d9)(B sp:Nat)(dv:Value)(k:Int)(P:Bo)(S':Dk)(m:Mk)(X:Nat)(kv qv:Value)(seen:f7)(wr:d9):Prop where
 rt:RT A wr (.pointer (some ⟨sp,0,none⟩)) dv k P S'
 mb:MB wr X m.b m.a kv
 kk:Kv wr kv m.k
 sn:wr.ownsRow B 37 1 qv seen.length ((ib seen).map (Value.int .u64))
 ch:Ch A w wr
 bl:B≤wr.heap.size
 low:(∀x,A x→x<B)∧sp<B∧X<B∧(∀x,kv.ownBlock=some x→x<B)∧w.heap.size≤B
section

variable{A:n9}{w wr wx:d9}{B sp X:Nat}{dv:Value}{k:Int}{P:Bo}{S' S2:Dk}{m:Mk}{kv qv qv':Value}{seen seen':f7}

theorem Rx.below(h:Rx A w B sp dv k P S' m X kv qv seen wr)(hb:f8 wr wx):Rx A w B sp dv k P S' m X kv qv seen wx:=
 ⟨h.rt.below hb,h.mb.keep hb,h.kk.below hb,j8 h.sn hb,h.ch.self (Ch.of_below hb),Nat.le_trans h.bl hb.size,h.low⟩
theorem Rx.read(h:Rx A w B sp dv k P S' m X kv qv seen wr)(hr:RT A wx (.pointer (some ⟨sp,0,none⟩)) dv k P S2)(hc:Ch A wr wx)(hX: ¬A X)(hK: ∀x,kv.ownBlock=some x→ ¬A x):Rx A w B sp dv k P S2 m X kv qv seen wx:=
 ⟨hr,h.mb.ch hc hX,pJ h.kk hc hK,U2 h.sn hc h.low.1,h.ch.self hc,Nat.le_trans h.bl hc.size,h.low⟩
theorem Rx.grow(h:Rx A w B sp dv k P S' m X kv qv seen wr)(hb:Below B wr wx)(ho:wx.ownsRow B 37 1 qv' seen'.length ((ib seen').map (Value.int .u64))):Rx A w B sp dv k P S' m X kv qv' seen' wx:=by
 have b:Ch (fun x=>B≤x) wr wx:=⟨hb.os,hb.tape,hb.output,hb.size,fun x _ a=>hb.block x (by omega)⟩;refine⟨h.rt.high b (fun x a e=>by have:=h.low.1 x a;omega) (by have:=h.low.2.1;omega),h.mb.ch b (by have:=h.low.2.2.1;omega),pJ h.kk b (fun x a e=>by have:=h.low.2.2.2.1 x a;omega),ho,h.ch.trans b (fun x a=> .inr (Nat.le_trans h.low.2.2.2.2 a)),Nat.le_trans h.bl hb.size,h.low⟩
end

theorem eC(l:List (List Cl))(x:List Cl):(l++[x]).flatten=l.flatten++x:=by simp
theorem EE(l:List Cl):(l.map (·.k)).length=l.length:=by simp
theorem RZ{P:Bo}{S:Dk}: ∀{n:Nat}{l:List (List Cl)},C8 P S n=some l→(∀p,∀c∈A0 P S p,c<256)→l.flatten.length≤16*n∧ ∀c∈l.flatten,c.okB:=by
 intro n
 induction n with
 |zero=>intro l h _;cases h;simp
 |succ n d=>
  intro l h b;unfold C8 at h
  cases a:C8 P S n with
  |none=>rw[a]at h;cases h
  |some l0=>
   rw[a]at h;simp only at h
   split at h
   ·cases h
    obtain⟨k,i⟩:=d a b;obtain⟨g,f⟩:=oJ (b _) (by assumption)
    have j:(t7 (A0 P S (1+(n:Int)))).1.length≤16:=by
     have:(m9 (t7 (A0 P S (1+(n:Int)))).1).2=0:=by rw[g]
     unfold m9 at this
     split at this
     ·simp at this
     ·omega
    rw[eC];refine⟨by rw[List.length_append];omega,fun c e=>?_⟩;rcases List.mem_append.1 e with q|q
    ·exact i c q
    ·exact f c q
   ·cases h
def Nh(A:n9)(w:d9)(B sp:Nat)(dv:Value)(k:Int)(P:Bo)(S:Dk)(m:Mk)(X:Nat)(kv qv iv:Value)(wr:d9):Prop:=
 ∃(i:Nat) (l:List (List Cl)) (S':Dk),iv= .int .i64 i∧1≤i∧i≤7∧C8 P S (i-1)=some l∧Kc k m l.flatten∧Rx A w B sp dv k P S' m X kv qv (l.flatten.map (·.k)) wr∧F0 i S S'
def RrI(A:n9)(w:d9)(B sp:Nat)(dv:Value)(k:Int)(P:Bo)(S6:Dk)(m:Mk)(X:Nat)(kv cv:Value)(l:List (List Cl))(D:List Cl)(qv jv:Value)(wr:d9):Prop:=
 ∃j:Nat,j≤D.length∧jv= .int .i64 j∧Kc k m (l.flatten++D.take j)∧Rx A w B sp dv k P S6 m X kv qv ((l.flatten++D.take j).map (·.k)) wr∧wr.ownsRow B 132 6 cv D.length (l9 D)
theorem YQ{P:Bo}{S:Dk}{Ls:List (List Cl)}{n:Nat}:C8 P S 6=some Ls→n≤6→ ∃r,C8 P S n=some (Ls.take n)∧Ls=Ls.take n++r:=by
 intro h i;refine⟨Ls.drop n,?_,by simp⟩;have j:=T4 h
 suffices q: ∀d n,n+d=6→C8 P S n=some (Ls.take n)from q (6-n) n (by omega)
 intro d
 induction d with
 |zero=>
  intro n e;obtain rfl:n=6:=by omega
  rw[h,List.take_of_length_le (by omega)]
 |succ d f=>
  intro n e;have a:=f (n+1) (by omega);unfold C8 at a
  cases hp:C8 P S n with
  |none=>rw[hp]at a;cases a
  |some l0=>
   rw[hp]at a;simp only at a
   split at a
   ·have b:=T4 hp;have g:=Option.some.inj a;have c:=congrArg (List.take n) g;rw[List.take_left' b,List.take_take,Nat.min_eq_left (by omega)]at c;rw[c]
   ·cases a
theorem xS{A:n9}{w:d9}{sv dv:Value}{k:Int}{P:Bo}{S:Dk}(h:RT A w sv dv k P S)(hs:i6 P S=false)(hrd:S.rd<4611686018427387000):Calls Tryz.prog 49 #[sv] w (Lu A w sv dv k P S):=by
 have W1:=b9 hrd;have HS:=b9 hs;have v1:c6 (∀p,∀c∈A0 P S p,c<256):=fun p=>(gU h p).2;have F1:c6 (∀x,A x→x<w.heap.size):=fun x L=>h.lt L;obtain⟨sp,bv,rfl,h1,h2,h3,h4⟩:=h;have H1:=b9 h1;have H2:=b9 h2;have H4:=b9 h4;have V1:=b9 ((Array.getElem?_eq_some_iff.1 h1).1);have X1:=b9 h3;have m0:w.cell? ⟨sp,0,none⟩=some bv:=by rw[cell_of_row _ sp 0 _ _ (0,0) h1];rfl
 obtain⟨D,pb,tv,k1,_⟩:=h3;subst k1;clear h1 h2 h4 hrd hs;go_in;go_wp2_with fail;refine(iR X1.o 0 (by have:=W1.o;omega)).mono ?_;unfold Gt;rw[F5 HS.o];rintro e w2 ⟨r,rfl,ho,l0,O⟩;have n0:=b9 (p7 ho (v1.o 0));obtain⟨⟨m,E⟩,hD⟩: ∃D,B7 (A0 P S 0)=D:=⟨_,rfl⟩;have HD:=b9 hD;have C1:=b9 O
 have r1:c6 (RT A w2 (.pointer (some ⟨sp,0,none⟩)) dv k P (aF P S 0)):=
  ⟨sp,_,rfl,by rw[O.block sp V1.o H2.o];exact H1.o,H2.o,l0,H4.o⟩
 have s1:c6 (F0 1 S (aF P S 0)):=J5;generalize aF P S 0=S2 at r1 s1;clear ho l0 O hD m0 X1 H1;go_wp2_with fail;refine(rL n0.o).mono ?_;unfold IN;rw[HD.o];rintro e w3 ⟨kv,rfl,v0,n1⟩;have o1:=b9 (r1.o.below n1);have I0:c6 (Ch A w w3):=C1.o.self (Ch.of_below n1);have w1:c6 (Kv w3 kv m.k):=z9 v0;have z1:c6 (∀x,kv.ownBlock=some x→w.heap.size≤x∧x<w3.heap.size):=fun x L=>⟨Nat.le_trans C1.o.size (v0.lt x L).1,(v0.lt x L).2⟩;obtain⟨J,H,I,rfl⟩:=F2 w1.o;clear v0 n1 r1 C1 n0;by_cases hE:E=0;rotate_left
 ·have P2: ¬(E:Int)=0:=by omega
  have o0:c6 (¬nU k P S):=by
   rintro⟨m',Ls,q,_⟩;rw[HD.o]at q
   cases q
   exact hE rfl
  go_wp2_with fail;go_ret;exact⟨false,S2,rfl,⟨fun q=>(by cases q),fun q=>absurd q o0.o⟩,o1.o.below (a8 _ _),s1.o.mono (by omega),I0.o.self (Ch.of_below (a8 _ _))⟩
 subst hE;go_upto_region 3 with fail
 have T1:c6 (RT A (w3.alloc (Obj.cells #[.int .i64 m.b,.int .i64 m.a,.slice J H I] 62)) (.pointer (some ⟨sp,0,none⟩)) dv k P S2):=o1.o.below (a8 _ _);have B1:c6 (Ch A w (w3.alloc (Obj.cells #[.int .i64 m.b,.int .i64 m.a,.slice J H I] 62))):=I0.o.self (Ch.of_below (a8 _ _));have b2:c6 (Kv (w3.alloc (Obj.cells #[.int .i64 m.b,.int .i64 m.a,.slice J H I] 62)) (.slice J H I) m.k):=w1.o.below (a8 _ _);have t1:=b9 (A9 w3 m.b m.a (.slice J H I));have C0:c6 (w.heap.size≤w3.heap.size∧w3.heap.size<(w3.alloc (Obj.cells #[.int .i64 m.b,.int .i64 m.a,.slice J H I] 62)).heap.size):=⟨I0.o.size,by simp⟩;have r0:c6 (∀x,(Value.slice J H I).ownBlock=some x→w.heap.size≤x∧x<(w3.alloc (Obj.cells #[.int .i64 m.b,.int .i64 m.a,.slice J H I] 62)).heap.size):=fun x L=>⟨(z1.o x L).1,Nat.lt_of_lt_of_le (z1.o x L).2 (by simp)⟩;clear w1 z1;generalize w3.heap.size=X at t1 C0⊢;generalize w3.alloc (Obj.cells #[.int .i64 m.b,.int .i64 m.a,.slice J H I] 62)=w4 at T1 B1 b2 t1 C0 r0⊢;clear o1 I0;obtain⟨B,hB⟩:=c7 w4.heap.size
 have r2:c6 ((∀x,A x→x<B)∧sp<B∧X<B∧(∀x,(Value.slice J H I).ownBlock=some x→x<B)∧w.heap.size≤B):=by
  have hs:=B1.o.size;refine⟨fun x L=>?_,?_,?_,fun x L=>?_,?_⟩
  ·have:=F1.o x L;omega
  ·have:=V1.o;omega
  ·have:=C0.o.2;omega
  ·have:=(r0.o x L).2;omega
  ·omega
 have Y1:c6 (¬A X∧ ∀x,(Value.slice J H I).ownBlock=some x→ ¬A x):=⟨fun q=>by have h1:=F1.o X q;have h2:=C0.o.1;omega,fun x L q=>by have h1:=F1.o x q;have h2:=(r0.o x L).1;omega⟩
 have Q:c6 (Rx A w B sp dv k P S2 m X (.slice J H I) (.slice (some ⟨B,0,none⟩) 0 0) [] (w4.alloc (Obj.cells #[] 37))):=by
  refine⟨T1.o.below (a8 _ _),t1.o.keep (a8 _ _),b2.o.below (a8 _ _),?_,B1.o.self (Ch.of_below (a8 _ _)),by rw[hB];simp,r2.o⟩;rw[hB];exact World.ownsRow_made w4 #[] 0 (Nat.le_refl _) (by simp[maxLen]) rfl
 have U1:c6 (Nh A w B sp dv k P S m X (.slice J H I) (.slice (some ⟨B,0,none⟩) 0 0) (.int .i64 1) (w4.alloc (Obj.cells #[] 37))):=
  ⟨1,[],S2,rfl,by omega,by omega,rfl,⟨by simp,by simp⟩,Q.o,s1.o⟩
 clear Q;go_wp2_with fail;rw[←hB];clear hB;go_loopw [7,8] (fun qv iv wr=>Nh A w B sp dv k P S m X (.slice J H I) qv iv wr) (fun _ iv _=>7-(intOf iv).toNat)
 case atStart=>exact U1.o
 case round=>
  clear U1;obtain⟨i,l,S',rfl,U2,hi,O1,K1,t0,L0⟩:=hrel;have i2:=b9 O1;have W0:=b9 K1;have Q:=b9 t0;have z:=b9 L0;obtain⟨qo,qc,i0⟩:=y9 t0.sn;rw[EE]at i0;subst i0;have A2:=t0.rt;clear O1 K1 t0 L0;by_cases I2:i<7
  ·have J2:(i:Int)≤6:=by omega
   obtain⟨sp',bv,L2,h1,h2,h3,h4⟩:=A2
   cases L2
   have k2:=b9 h3;have H1:=b9 h1;have m0:wr.cell? ⟨sp,0,none⟩=some bv:=by rw[cell_of_row wr sp 0 _ _ (0,0) h1];rfl
   obtain⟨D0,pb',tv',k1,_⟩:=h3;subst k1;clear h1 h2 h4;go_wp2_with fail;refine(iR k2.o (i:Int) (by have h1:=z.o.rd;have h2:=W1.o;omega)).mono ?_;unfold Gt;rw[F5 (by rw[C3 z.o];exact HS.o),J3 z.o];rintro e w6 ⟨r,rfl,ho,l0,O⟩;have K0:RT A w6 (.pointer (some ⟨sp,0,none⟩)) dv k P (aF P S' (i:Int)):=⟨sp,_,rfl,by rw[O.block sp (Array.getElem?_eq_some_iff.1 H1.o).1 H2.o];exact H1.o,H2.o,l0,H4.o⟩;have n0:=b9 (p7 ho (v1.o _));have f0:=b9 (Q.o.read K0 O Y1.o.1 Y1.o.2);have g0:=b9 (z.o.trans (J5 (P:=P) (p:=(i:Int))));generalize aF P S' (i:Int)=S6 at f0 g0;clear ho K0 l0 O m0 Q z k2 H1;go_wp2_with fail;refine(mA n0.o).mono ?_;obtain⟨Dc,hD⟩: ∃D,D=t7 (A0 P S (i:Int)):=⟨_,rfl⟩;have H0:=b9 hD;clear hD;unfold cH;rw[←H0.o];rintro e w7 ⟨v7,rfl,i1,S1⟩;have b0:=b9 (f0.o.below S1);have V0:=b9 (q9 i1 f0.o.bl);obtain⟨va,vc,v2⟩:=(cX i1).1.form;subst v2;clear i1 S1 f0 n0;obtain⟨ii,y0⟩: ∃ii,i=ii+1:=⟨i-1,by omega⟩;have p0:=b9 y0;have A1:c6 (A0 P S (i:Int)=A0 P S (1+(ii:Int))):=by show _=_;rw[y0];congr 1;omega
   have j2:c6 (C8 P S ii=some l):=by have h:=i2.o;rw[y0]at h;exact h
   clear y0;by_cases hE:Dc.2=0;rotate_left
   ·have P2: ¬(Dc.2:Int)=0:=by omega
    have o0:c6 (¬nU k P S):=by
     rintro⟨m',Ls,_,q,_⟩;rw[FU (by have:=p0.o;omega) j2.o (by rw[←A1.o,←H0.o];exact hE)]at q
     cases q
    go_wp2_with fail;go_ret;exact⟨false,S6,rfl,⟨fun q=>(by cases q),fun q=>absurd q o0.o⟩,b0.o.rt,g0.o.mono (by omega),b0.o.ch⟩
   have U:c6 (C8 P S (ii+1)=some (l++[Dc.1])):=by
    have h:=zX j2.o (by rw[←A1.o,←H0.o];exact hE);rw[←A1.o,←H0.o]at h;exact h
   obtain⟨N,hN⟩:=c7 Dc.1.length;have HN:=b9 hN;have Z:=RZ U.o v1.o;rw[eC]at Z;have Y0:=b9 Z
   have V2:(N:Int)≤1000:=by
    have:=Z.1;rw[List.length_append,←hN]at this;have:=p0.o;omega
   rw[←hN,hE];clear hN hE Z;go_wp2_with fail;go_loopw [7,13] (fun qv jv wr=>RrI A w B sp dv k P S6 m X (.slice J H I) (.slice va N vc) l Dc.1 qv jv wr) (fun _ jv _=>N-(intOf jv).toNat)
   case atStart=>exact⟨0,Nat.zero_le _,rfl,by simpa using W0.o,by simpa using b0.o,by rw[HN.o];exact V0.o⟩
   case round=>
    clear b0 V0;obtain⟨j,hj,rfl,N0,W,M0⟩:=hrel;obtain⟨seen,R⟩:=c7 ((l.flatten++Dc.1.take j).map (·.k));have y:=b9 R;rw[←R]at W;have X0:=b9 N0;have Q0:=b9 W;have T0:=b9 M0;obtain⟨qo,qc,i0⟩:=y9 W.sn;obtain⟨sl,G1⟩:=c7 seen.length;rw[←G1]at i0;subst i0;clear R N0 W M0 G1;by_cases T2:j<N
    ·have j0:j<Dc.1.length:=by have:=HN.o;omega
     have P1:=(cX T0.o).1;rcases B2 P1 with ⟨h0,_⟩|⟨b,Z0,W2,b1,_,_,_,Q1⟩
     ·rw[h0]at j0;simp at j0
     have N2:va=some ⟨b,Z0,none⟩:=by simp at b1;exact b1.1
     subst N2;have R1:=Q1 j j0;obtain⟨c,hc⟩:=c7 (Dc.1[j]);rw[←hc]at R1;have HC:=b9 hc;have t:c6 c.okB:=Y0.o.2 c (by rw[hc];simp);obtain⟨a0,a1,a2,a3,a4,a5⟩:=R1;clear P1 Q1 b1 hc;go_upto_region 17 with fail
     clear a0 a1 a2 a3 a4 a5;have G:=b9 (B0 wr c);have D1:c6 (f8 wr (wr.alloc (Obj.cells #[.int .u64 c.k,.bool c.p.h,.int .u64 c.p.b,.bool c.c.h,.int .u64 c.c.b,.int .i64 c.n] 132))):=a8 _ _;have F:c6 (wr.heap.size<(wr.alloc (Obj.cells #[.int .u64 c.k,.bool c.p.h,.int .u64 c.p.b,.bool c.c.h,.int .u64 c.c.b,.int .i64 c.n] 132)).heap.size):=by show _<_;simp
     generalize O2:wr.heap.size=Y at G F⊢;clear O2;generalize (wr.alloc (Obj.cells #[.int .u64 c.k,.bool c.p.h,.int .u64 c.p.b,.bool c.c.h,.int .u64 c.c.b,.int .i64 c.n] 132))=w5 at G D1 F⊢;have s:=b9 (Q0.o.below D1.o);have o2:=b9 (j8 T0.o D1.o);have Z1:=b9 s.o.kk;have O0:=b9 (z9 s.o.sn);obtain⟨sB,I1⟩:=c7 (decide (c.k∈seen));have G0:=b9 I1;clear I1;go_cut [99] (fun v wx=>v= .bool (fY k m c seen)∧f8 w5 wx)
     case first=>
      have d0:=fun wx h=>(G.o.below (w':=wx) h F.o).c0;have d1:=fun wx h=>(G.o.below (w':=wx) h F.o).c1;have d2:=fun wx h=>(G.o.below (w':=wx) h F.o).c2;have d3:=fun wx h=>(G.o.below (w':=wx) h F.o).c3;have d4:=fun wx h=>(G.o.below (w':=wx) h F.o).c4;have d5:=fun wx h=>(G.o.below (w':=wx) h F.o).c5;have kf: ∀wx,f8 w5 wx→wx.cell? ⟨sp,1,none⟩=some (.int .i64 k):=fun wx h=>(s.o.rt.below h).kind;have x0:=fun wx h=>(s.o.mb.keep (w':=wx) h).c0;have x1:=fun wx h=>(s.o.mb.keep (w':=wx) h).c1;have x2:=fun wx h=>(s.o.mb.keep (w':=wx) h).c2
      cases hf:fK k c
      ·have g:c6 (fY k m c seen=true):=by show _=_;unfold fY oS;rw[hf];rfl
       refine wp_region_noPanic ?_;refine wp_region_held_drew (S:=fun wx=>f8 w5 wx) (by kernel_rfl) ?_ fun d=>?_
       ·exact(Below.refl _ _).drew
       refine g6 0 61 rfl d ?_;refine g6 1 62 rfl d ?_;refine g6 2 63 rfl d ?_;refine g6 3 64 rfl d ?_;refine g6 4 65 rfl d ?_;refine C7 5 66 rfl fun K f=>?_;go_simp;refine(Y6 k (c:=c) ⟨t.o.2.1,t.o.2.2.1⟩ _).mono ?_;rw[hf];rintro e y1 ⟨rfl,u⟩;refine f.out _ _ ?_ fun d=>?_
       ·exact a9 d u
       clear f K;try simp only[Act.put,zz]
       refine g6 6 67 rfl d ?_;refine g6 7 68 rfl d ?_;refine C2 8 69 rfl d ?_;try simp only[Act.put,zz]
       refine C2 9 70 rfl d ?_;try simp only[Act.put,zz]
       refine g6 10 71 rfl d ?_;refine g6 11 72 rfl d ?_;refine C2 12 73 rfl d ?_;try simp only[Act.put,zz]
       refine C2 13 74 rfl d ?_;try simp only[Act.put,zz]
       refine C2 14 75 rfl d ?_;try simp only[Act.put,zz]
       refine C2 15 76 rfl d ?_;try simp only[Act.put,zz]
       refine C2 16 77 rfl d ?_;try simp only[Act.put,zz]
       refine g6 17 78 rfl d ?_;refine g6 18 79 rfl d ?_;refine C2 19 80 rfl d ?_;try simp only[Act.put,zz]
       refine C2 20 81 rfl d ?_;try simp only[Act.put,zz]
       refine C2 21 82 rfl d ?_;try simp only[Act.put,zz]
       refine C2 22 83 rfl d ?_;try simp only[Act.put,zz]
       refine C2 23 84 rfl d ?_;try simp only[Act.put,zz]
       refine C2 24 85 rfl d ?_;try simp only[Act.put,zz]
       refine C2 25 86 rfl d ?_;try simp only[Act.put,zz]
       refine C2 26 87 rfl d ?_;try simp only[Act.put,zz]
       refine C2 27 88 rfl d ?_;try simp only[Act.put,zz]
       refine C2 28 89 rfl d ?_;try simp only[Act.put,zz]
       refine C2 29 90 rfl d ?_;try simp only[Act.put,zz]
       refine C2 30 91 rfl d ?_;try simp only[Act.put,zz]
       refine g6 31 92 rfl d ?_;refine g6 32 93 rfl d ?_;refine C2 33 94 rfl d ?_;try simp only[Act.put,zz]
       refine C2 34 95 rfl d ?_;try simp only[Act.put,zz]
       refine C2 35 96 rfl d ?_;try simp only[Act.put,zz]
       refine C2 36 97 rfl d ?_;try simp only[Act.put,zz]
       refine C2 37 98 rfl d ?_;try simp only[Act.put,zz]
       refine g6 38 99 rfl d ?_;refine wpAnyH_done (by kernel_rfl) ?_ _;refine NoPanic.normal ?_;go_wp2_with fail;go_meet;exact⟨by rw[g.o],d⟩
      cases hm:aG c
      rotate_left
      ·have g:c6 (fY k m c seen=true):=by show _=_;unfold fY oS;rw[hf,hm];rfl
       refine wp_region_noPanic ?_;refine wp_region_held_drew (S:=fun wx=>f8 w5 wx) (by kernel_rfl) ?_ fun d=>?_
       ·exact(Below.refl _ _).drew
       refine g6 0 61 rfl d ?_;refine g6 1 62 rfl d ?_;refine g6 2 63 rfl d ?_;refine g6 3 64 rfl d ?_;refine g6 4 65 rfl d ?_;refine C7 5 66 rfl fun K f=>?_;go_simp;refine(Y6 k (c:=c) ⟨t.o.2.1,t.o.2.2.1⟩ _).mono ?_;rw[hf];rintro e y1 ⟨rfl,u⟩;refine f.out _ _ ?_ fun d=>?_
       ·exact a9 d u
       clear f K;try simp only[Act.put,zz]
       refine g6 6 67 rfl d ?_;refine g6 7 68 rfl d ?_;refine g6 8 69 rfl d ?_;refine C7 9 70 rfl fun K f=>?_;go_simp;refine(U7 c _).mono ?_;rw[hm];rintro e y2 ⟨rfl,C⟩;refine f.out _ _ ?_ fun d=>?_
       ·exact a9 d C
       clear f K;try simp only[Act.put,zz]
       refine g6 10 71 rfl d ?_;refine g6 11 72 rfl d ?_;refine C2 12 73 rfl d ?_;try simp only[Act.put,zz]
       refine C2 13 74 rfl d ?_;try simp only[Act.put,zz]
       refine C2 14 75 rfl d ?_;try simp only[Act.put,zz]
       refine C2 15 76 rfl d ?_;try simp only[Act.put,zz]
       refine C2 16 77 rfl d ?_;try simp only[Act.put,zz]
       refine g6 17 78 rfl d ?_;refine g6 18 79 rfl d ?_;refine C2 19 80 rfl d ?_;try simp only[Act.put,zz]
       refine C2 20 81 rfl d ?_;try simp only[Act.put,zz]
       refine C2 21 82 rfl d ?_;try simp only[Act.put,zz]
       refine C2 22 83 rfl d ?_;try simp only[Act.put,zz]
       refine C2 23 84 rfl d ?_;try simp only[Act.put,zz]
       refine C2 24 85 rfl d ?_;try simp only[Act.put,zz]
       refine C2 25 86 rfl d ?_;try simp only[Act.put,zz]
       refine C2 26 87 rfl d ?_;try simp only[Act.put,zz]
       refine C2 27 88 rfl d ?_;try simp only[Act.put,zz]
       refine C2 28 89 rfl d ?_;try simp only[Act.put,zz]
       refine C2 29 90 rfl d ?_;try simp only[Act.put,zz]
       refine C2 30 91 rfl d ?_;try simp only[Act.put,zz]
       refine g6 31 92 rfl d ?_;refine g6 32 93 rfl d ?_;refine C2 33 94 rfl d ?_;try simp only[Act.put,zz]
       refine C2 34 95 rfl d ?_;try simp only[Act.put,zz]
       refine C2 35 96 rfl d ?_;try simp only[Act.put,zz]
       refine C2 36 97 rfl d ?_;try simp only[Act.put,zz]
       refine C2 37 98 rfl d ?_;try simp only[Act.put,zz]
       refine g6 38 99 rfl d ?_;refine wpAnyH_done (by kernel_rfl) ?_ _;refine NoPanic.normal ?_;go_wp2_with fail;go_meet;exact⟨by rw[g.o],d⟩
      by_cases M1:m.b<c.n
      ·have K2:=decide_eq_true M1
       have g:c6 (fY k m c seen=true):=by
        show _=_;unfold fY oS kY;rw[hf,hm,decide_eq_false (show¬c.n<m.b by omega),decide_eq_false (show¬c.n=m.b by omega)];rfl
       refine wp_region_noPanic ?_;refine wp_region_held_drew (S:=fun wx=>f8 w5 wx) (by kernel_rfl) ?_ fun d=>?_
       ·exact(Below.refl _ _).drew
       refine g6 0 61 rfl d ?_;refine g6 1 62 rfl d ?_;refine g6 2 63 rfl d ?_;refine g6 3 64 rfl d ?_;refine g6 4 65 rfl d ?_;refine C7 5 66 rfl fun K f=>?_;go_simp;refine(Y6 k (c:=c) ⟨t.o.2.1,t.o.2.2.1⟩ _).mono ?_;rw[hf];rintro e y1 ⟨rfl,u⟩;refine f.out _ _ ?_ fun d=>?_
       ·exact a9 d u
       clear f K;try simp only[Act.put,zz]
       refine g6 6 67 rfl d ?_;refine g6 7 68 rfl d ?_;refine g6 8 69 rfl d ?_;refine C7 9 70 rfl fun K f=>?_;go_simp;refine(U7 c _).mono ?_;rw[hm];rintro e y2 ⟨rfl,C⟩;refine f.out _ _ ?_ fun d=>?_
       ·exact a9 d C
       clear f K;try simp only[Act.put,zz]
       refine g6 10 71 rfl d ?_;refine g6 11 72 rfl d ?_;refine g6 12 73 rfl d ?_;refine g6 13 74 rfl d ?_;refine g6 14 75 rfl d ?_;refine g6 15 76 rfl d ?_;refine g6 16 77 rfl d ?_;refine g6 17 78 rfl d ?_;refine g6 18 79 rfl d ?_;refine C2 19 80 rfl d ?_;try simp only[Act.put,zz]
       refine C2 20 81 rfl d ?_;try simp only[Act.put,zz]
       refine C2 21 82 rfl d ?_;try simp only[Act.put,zz]
       refine C2 22 83 rfl d ?_;try simp only[Act.put,zz]
       refine C2 23 84 rfl d ?_;try simp only[Act.put,zz]
       refine C2 24 85 rfl d ?_;try simp only[Act.put,zz]
       refine C2 25 86 rfl d ?_;try simp only[Act.put,zz]
       refine C2 26 87 rfl d ?_;try simp only[Act.put,zz]
       refine C2 27 88 rfl d ?_;try simp only[Act.put,zz]
       refine C2 28 89 rfl d ?_;try simp only[Act.put,zz]
       refine C2 29 90 rfl d ?_;try simp only[Act.put,zz]
       refine C2 30 91 rfl d ?_;try simp only[Act.put,zz]
       refine g6 31 92 rfl d ?_;refine g6 32 93 rfl d ?_;refine C2 33 94 rfl d ?_;try simp only[Act.put,zz]
       refine C2 34 95 rfl d ?_;try simp only[Act.put,zz]
       refine C2 35 96 rfl d ?_;try simp only[Act.put,zz]
       refine C2 36 97 rfl d ?_;try simp only[Act.put,zz]
       refine C2 37 98 rfl d ?_;try simp only[Act.put,zz]
       refine g6 38 99 rfl d ?_;refine wpAnyH_done (by kernel_rfl) ?_ _;refine NoPanic.normal ?_;go_wp2_with fail;go_meet;exact⟨by rw[g.o],d⟩
      have K2:=decide_eq_false M1;by_cases k0:c.n=m.b
      ·have M2:(c.n==m.b)=true:=by rw[k0];simp
       have f2:=b9 k0;clear k0
       cases w0:decide (c.k∈m.k)
       ·have g:c6 (fY k m c seen=true):=by
         show _=_;unfold fY oS kY;rw[hf,hm,w0,decide_eq_false (show¬c.n<m.b by have:=f2.o;omega)];simp
        refine wp_region_noPanic ?_;refine wp_region_held_drew (S:=fun wx=>f8 w5 wx) (by kernel_rfl) ?_ fun d=>?_
        ·exact(Below.refl _ _).drew
        refine g6 0 61 rfl d ?_;refine g6 1 62 rfl d ?_;refine g6 2 63 rfl d ?_;refine g6 3 64 rfl d ?_;refine g6 4 65 rfl d ?_;refine C7 5 66 rfl fun K f=>?_;go_simp;refine(Y6 k (c:=c) ⟨t.o.2.1,t.o.2.2.1⟩ _).mono ?_;rw[hf];rintro e y1 ⟨rfl,u⟩;refine f.out _ _ ?_ fun d=>?_
        ·exact a9 d u
        clear f K;try simp only[Act.put,zz]
        refine g6 6 67 rfl d ?_;refine g6 7 68 rfl d ?_;refine g6 8 69 rfl d ?_;refine C7 9 70 rfl fun K f=>?_;go_simp;refine(U7 c _).mono ?_;rw[hm];rintro e y2 ⟨rfl,C⟩;refine f.out _ _ ?_ fun d=>?_
        ·exact a9 d C
        clear f K;try simp only[Act.put,zz]
        refine g6 10 71 rfl d ?_;refine g6 11 72 rfl d ?_;refine g6 12 73 rfl d ?_;refine g6 13 74 rfl d ?_;refine g6 14 75 rfl d ?_;refine g6 15 76 rfl d ?_;refine g6 16 77 rfl d ?_;refine g6 17 78 rfl d ?_;refine g6 18 79 rfl d ?_;refine g6 19 80 rfl d ?_;refine g6 20 81 rfl d ?_;refine g6 21 82 rfl d ?_;refine g6 22 83 rfl d ?_;refine g6 23 84 rfl d ?_;refine g6 24 85 rfl d ?_;refine g6 25 86 rfl d ?_;refine g6 26 87 rfl d ?_;refine g6 27 88 rfl d ?_;refine C7 28 89 rfl fun K f=>?_;go_simp;refine(bF (Z1.o.below d) m.b m.a c.k).mono ?_;rw[w0];rintro e y3 ⟨rfl,m1⟩;refine f.out _ _ ?_ fun d=>?_
        ·exact a9 d m1
        clear f K;try simp only[Act.put,zz]
        refine g6 29 90 rfl d ?_;refine g6 30 91 rfl d ?_;refine g6 31 92 rfl d ?_;refine g6 32 93 rfl d ?_;refine C2 33 94 rfl d ?_;try simp only[Act.put,zz]
        refine C2 34 95 rfl d ?_;try simp only[Act.put,zz]
        refine C2 35 96 rfl d ?_;try simp only[Act.put,zz]
        refine C2 36 97 rfl d ?_;try simp only[Act.put,zz]
        refine C2 37 98 rfl d ?_;try simp only[Act.put,zz]
        refine g6 38 99 rfl d ?_;refine wpAnyH_done (by kernel_rfl) ?_ _;refine NoPanic.normal ?_;go_wp2_with fail;go_meet;exact⟨by rw[g.o],d⟩
       ·have g:c6 (fY k m c seen=sB):=by
         show _=_;unfold fY oS kY;rw[hf,hm,w0,decide_eq_true f2.o,←G0.o];simp
        refine wp_region_noPanic ?_;refine wp_region_held_drew (S:=fun wx=>f8 w5 wx) (by kernel_rfl) ?_ fun d=>?_
        ·exact(Below.refl _ _).drew
        refine g6 0 61 rfl d ?_;refine g6 1 62 rfl d ?_;refine g6 2 63 rfl d ?_;refine g6 3 64 rfl d ?_;refine g6 4 65 rfl d ?_;refine C7 5 66 rfl fun K f=>?_;go_simp;refine(Y6 k (c:=c) ⟨t.o.2.1,t.o.2.2.1⟩ _).mono ?_;rw[hf];rintro e y1 ⟨rfl,u⟩;refine f.out _ _ ?_ fun d=>?_
        ·exact a9 d u
        clear f K;try simp only[Act.put,zz]
        refine g6 6 67 rfl d ?_;refine g6 7 68 rfl d ?_;refine g6 8 69 rfl d ?_;refine C7 9 70 rfl fun K f=>?_;go_simp;refine(U7 c _).mono ?_;rw[hm];rintro e y2 ⟨rfl,C⟩;refine f.out _ _ ?_ fun d=>?_
        ·exact a9 d C
        clear f K;try simp only[Act.put,zz]
        refine g6 10 71 rfl d ?_;refine g6 11 72 rfl d ?_;refine g6 12 73 rfl d ?_;refine g6 13 74 rfl d ?_;refine g6 14 75 rfl d ?_;refine g6 15 76 rfl d ?_;refine g6 16 77 rfl d ?_;refine g6 17 78 rfl d ?_;refine g6 18 79 rfl d ?_;refine g6 19 80 rfl d ?_;refine g6 20 81 rfl d ?_;refine g6 21 82 rfl d ?_;refine g6 22 83 rfl d ?_;refine g6 23 84 rfl d ?_;refine g6 24 85 rfl d ?_;refine g6 25 86 rfl d ?_;refine g6 26 87 rfl d ?_;refine g6 27 88 rfl d ?_;refine C7 28 89 rfl fun K f=>?_;go_simp;refine(bF (Z1.o.below d) m.b m.a c.k).mono ?_;rw[w0];rintro e y3 ⟨rfl,m1⟩;refine f.out _ _ ?_ fun d=>?_
        ·exact a9 d m1
        clear f K;try simp only[Act.put,zz]
        refine g6 29 90 rfl d ?_;refine g6 30 91 rfl d ?_;refine g6 31 92 rfl d ?_;refine g6 32 93 rfl d ?_;refine g6 33 94 rfl d ?_;refine g6 34 95 rfl d ?_;refine g6 35 96 rfl d ?_;refine g6 36 97 rfl d ?_;refine C7 37 98 rfl fun K f=>?_;go_simp;refine(bF (O0.o.below d) 0 0 c.k).mono ?_;rw[←G0.o];rintro e y4 ⟨rfl,l1⟩;refine f.out _ _ ?_ fun d=>?_
        ·exact a9 d l1
        clear f K;try simp only[Act.put,zz]
        refine g6 38 99 rfl d ?_;refine wpAnyH_done (by kernel_rfl) ?_ _;refine NoPanic.normal ?_;go_wp2_with fail;go_meet;exact⟨by rw[g.o],d⟩
      ·have M2:(c.n==m.b)=false:=by rw[beq_eq_false_iff_ne];exact k0
       have g:c6 (fY k m c seen=sB):=by
        show _=_;unfold fY oS kY;rw[hf,hm,decide_eq_true (show c.n<m.b by omega),←G0.o];simp
       clear k0;refine wp_region_noPanic ?_;refine wp_region_held_drew (S:=fun wx=>f8 w5 wx) (by kernel_rfl) ?_ fun d=>?_
       ·exact(Below.refl _ _).drew
       refine g6 0 61 rfl d ?_;refine g6 1 62 rfl d ?_;refine g6 2 63 rfl d ?_;refine g6 3 64 rfl d ?_;refine g6 4 65 rfl d ?_;refine C7 5 66 rfl fun K f=>?_;go_simp;refine(Y6 k (c:=c) ⟨t.o.2.1,t.o.2.2.1⟩ _).mono ?_;rw[hf];rintro e y1 ⟨rfl,u⟩;refine f.out _ _ ?_ fun d=>?_
       ·exact a9 d u
       clear f K;try simp only[Act.put,zz]
       refine g6 6 67 rfl d ?_;refine g6 7 68 rfl d ?_;refine g6 8 69 rfl d ?_;refine C7 9 70 rfl fun K f=>?_;go_simp;refine(U7 c _).mono ?_;rw[hm];rintro e y2 ⟨rfl,C⟩;refine f.out _ _ ?_ fun d=>?_
       ·exact a9 d C
       clear f K;try simp only[Act.put,zz]
       refine g6 10 71 rfl d ?_;refine g6 11 72 rfl d ?_;refine g6 12 73 rfl d ?_;refine g6 13 74 rfl d ?_;refine g6 14 75 rfl d ?_;refine g6 15 76 rfl d ?_;refine g6 16 77 rfl d ?_;refine g6 17 78 rfl d ?_;refine g6 18 79 rfl d ?_;refine g6 19 80 rfl d ?_;refine g6 20 81 rfl d ?_;refine g6 21 82 rfl d ?_;refine g6 22 83 rfl d ?_;refine g6 23 84 rfl d ?_;refine g6 24 85 rfl d ?_;refine C2 25 86 rfl d ?_;try simp only[Act.put,zz]
       refine C2 26 87 rfl d ?_;try simp only[Act.put,zz]
       refine C2 27 88 rfl d ?_;try simp only[Act.put,zz]
       refine C2 28 89 rfl d ?_;try simp only[Act.put,zz]
       refine C2 29 90 rfl d ?_;try simp only[Act.put,zz]
       refine g6 30 91 rfl d ?_;refine g6 31 92 rfl d ?_;refine g6 32 93 rfl d ?_;refine g6 33 94 rfl d ?_;refine g6 34 95 rfl d ?_;refine g6 35 96 rfl d ?_;refine g6 36 97 rfl d ?_;refine C7 37 98 rfl fun K f=>?_;go_simp;refine(bF (O0.o.below d) 0 0 c.k).mono ?_;rw[←G0.o];rintro e y4 ⟨rfl,l1⟩;refine f.out _ _ ?_ fun d=>?_
       ·exact a9 d l1
       clear f K;try simp only[Act.put,zz]
       refine g6 38 99 rfl d ?_;refine wpAnyH_done (by kernel_rfl) ?_ _;refine NoPanic.normal ?_;go_wp2_with fail;go_meet;exact⟨by rw[g.o],d⟩
     case rest=>
      rename_i wy
      obtain⟨z0,hb⟩:=hcut;have J0:=b9 hb;clear hb
      cases hbad:fY k m c seen
      rotate_left
      ·rw[hbad]at z0;subst z0
       have o0:c6 (¬nU k P S):=by
        rintro⟨m',Ls,q1,q2,q3⟩;rw[HD.o]at q1
        cases q1
        have s0:=hbad;rw[y.o]at s0
        have G2: ¬Kc k m (l.flatten++Dc.1):=by
         have h:=Cd (r:=Dc.1.drop (j+1)) s0;rw[HC.o,List.append_assoc,←List.drop_eq_getElem_cons j0,List.take_append_drop]at h;exact h
        have N1:=YQ q2 (n:=ii+1) (by have:=p0.o;omega);rw[U.o]at N1;obtain⟨r,D2,J1⟩:=N1;rw[←Option.some.inj D2]at J1;rw[J1]at q3;unfold Ev at q3;rw[List.flatten_append]at q3;have f1:=q3;rw[eC]at f1;exact G2 ⟨fun c hc=>f1.1 c (by simp only[List.mem_append]at hc⊢;exact .inl hc),(List.pairwise_append.1 f1.2).1⟩
       have S0:=s.o.below J0.o;have R0:=b9 S0;clear S0;go_wp2_with fail;go_ret;exact⟨false,S6,rfl,⟨fun q=>(by cases q),fun q=>absurd q o0.o⟩,R0.o.rt,g0.o.mono (by omega),R0.o.ch⟩
      rw[hbad]at z0;subst z0;have s2:=b9 hbad;clear hbad;have M:=b9 (s.o.below J0.o);have n2:=b9 (j8 o2.o J0.o);have q0:=b9 M.o.sn
      have P0:c6 (seen.length≤96):=by
       show _≤_;rw[y.o,EE,List.length_append];have h1:=Y0.o.1;rw[List.length_append]at h1;have h2:(Dc.1.take j).length≤Dc.1.length:=by rw[List.length_take];omega
       have:=p0.o;omega
      have e0:=(G.o.below J0.o F.o).c0;go_upto_region 15 with (at_builtin;refine g7 (by rfl) (.tmp 100) (.tmp 103) 38 (by rfl) B 37 .u64 8 Tryz.underlying38 oG (.slice qo sl qc) seen.length _ (by rfl) (q0.o.alloc _) _ [_] (by rfl) (U0 .u64 _ _ _) (by have:=P0.o;simp only[maxLen,List.length_singleton];omega) (by have:=P0.o;simp only[List.length_singleton];omega) (Nat.le_trans M.o.bl (a8 _ _).size) ?_;intro v9 w9 T j1)
      clear e0;obtain⟨o9,c9,z2⟩:=y9 T;subst z2
      have R2:c6 (Below B wc w9):=by
       have h8:Below B wc (wc.alloc (Obj.cells #[.int .u64 c.k] 37)):=(a8 _ _).mono M.o.bl;exact h8.grown j1 (Nat.le_trans M.o.bl h8.size) (fun x L=>(q0.o.lt x L).1)
      have Q2:c6 (RrI A w B sp dv k P S6 m X (.slice J H I) (.slice (some ⟨b,Z0,none⟩) N vc) l Dc.1 (.slice o9 (seen.length+1) c9) (.int .i64 ((j:Int)+1)) w9):=by
       have L1:l.flatten++Dc.1.take (j+1)=(l.flatten++Dc.1.take j)++[c]:=by rw[List.take_succ_eq_append_getElem j0,←HC.o,List.append_assoc]
       refine⟨j+1,by have:=HN.o;omega,by simp,?_,?_,?_⟩
       ·rw[L1];exact XF X0.o (by rw[←y.o];exact s2.o)
       ·rw[L1,List.map_append,←y.o];refine M.o.grow R2.o ?_;have h:=T;rw[List.length_append,o7,List.map_append];exact h
       ·have h8:(wc.alloc (Obj.cells #[.int .u64 c.k] 37)).ownsRow B 132 6 (.slice (some ⟨b,Z0,none⟩) N vc) Dc.1.length (l9 Dc.1):=n2.o.alloc _;refine h8.kept j1 ?_;rcases h8.2 with ⟨q,_⟩|⟨g1,cap1,cur1,q,_,p1,_⟩
        ·cases q
        ·simp at q;rcases(q0.o.alloc (Obj.cells #[.int .u64 c.k] 37)).2 with ⟨q2,_⟩|⟨g2,cap2,cur2,q2,_,p2,_⟩
         ·exact .inr (by rw[q2];simp[Value.ownBlock])
         ·refine .inr ?_;rw[q2];intro L;simp[Value.ownBlock]at L;have e1:g1=g2:=by obtain⟨⟨q1,_⟩,_⟩:=q;omega
          subst e1;rw[p1]at p2;simp at p2
      clear T j1;go_wp2_with fail;go_roundw
      case rel=>exact Q2.o
      case measure=>simp[intOf];omega
    ·obtain rfl:j=N:=by have:=HN.o;omega
     have m2:c6 (Nh A w B sp dv k P S m X (.slice J H I) (.slice qo sl qc) (.int .i64 ((i:Int)+1)) wr):=by
      refine⟨i+1,l++[Dc.1],S6,by simp,by omega,I2,by rw[p0.o];exact U.o,?_,?_,g0.o⟩
      ·rw[eC];have h:=X0.o;rw[HN.o,List.take_length]at h;exact h
      ·rw[eC];have h:=Q0.o;rw[y.o,HN.o,List.take_length]at h;exact h
     go_wp2_with fail;go_roundw
     case rel=>exact m2.o
     case measure=>simp[intOf];omega
  ·have J2: ¬(i:Int)≤6:=by omega
   obtain rfl:i=7:=by omega
   have l2:c6 (nU k P S):=⟨m,l,HD.o,i2.o,W0.o⟩;go_wp2_with fail;go_ret;exact⟨true,S',rfl,⟨fun _=>l2.o,fun _=>rfl⟩,Q.o.rt,z.o,Q.o.ch⟩
end
theorem iT{A:n9}{w:d9}{v dv:Value}{P:Bo}{S:Dk}(h:BQ A w v dv P S): ∃D',I9 91 D' w dv S∧ ∀x,D' x→A x:=by
 obtain⟨D',b,a,_⟩:=h.disk;exact⟨D',b,a⟩
theorem RT.dsk{A:n9}{w:d9}{tv dv:Value}{k:Int}{P:Bo}{S:Dk}(h:RT A w tv dv k P S): ∃D,I9 91 D w dv S∧ ∀x,D x→A x:=by
 obtain⟨sp,f,e,d,c,a,b⟩:=h;exact iT a
def Lv(D:n9)(w:d9)(dv:Value)(k:Int)(S:Dk)(e:Ending)(w':d9):Prop:=
 ∃S',F0 9 S S'∧Ch D w w'∧
  ((∃c D',e= .returned (.tuple #[.pointer none,.int .i64 c])∧uH k S c∧I9 91 D' w' dv S'∧ ∀x,D' x→D x∨w.heap.size≤x)∨
   (∃A' sp P m Ls,e= .returned (.tuple #[.pointer (some ⟨sp,0,none⟩),.int .i64 0])∧iJ k S P m Ls∧w.heap.size≤sp∧RT A' w' (.pointer (some ⟨sp,0,none⟩)) dv k P S'∧ ∀x,A' x→D x∨w.heap.size≤x))
theorem Kk{k:Int}{S S1:Dk}{P:Bo}{j:Nat}(hr:F0 j S S1):nU k P S1↔nU k P S:=by
 unfold nU;rw[J3 hr,dR hr]
theorem JI{D:n9}{w:d9}{dv:Value}{S:Dk}(hd:I9 91 D w dv S)(hrd:S.rd<1000000000)(k:Int):
  Calls Tryz.prog 16 #[dv,.int .i64 k] w (Lv D w dv k S):=by
 have HD:=b9 hd;have H:c6 (S.rd<1000000000):=hrd;obtain⟨v,b0⟩: ∃v,dv= .pointer (some ⟨v,0,none⟩):=by obtain⟨v,gp,l0,e,_⟩:=hd;exact⟨v,e⟩
 subst b0;clear hd hrd
 cases c:s9 k
 ·go_in;go_wp2_with (go_at_call 43;refine(t8 _ _).mono ?_;rw[c];rintro e w9 ⟨rfl,i⟩;replace i:=i.symm;subst i);go_ret2;exact⟨S,F0.refl _,Ch.refl _ _,.inl ⟨1,D,rfl,.inl ⟨c,rfl⟩,HD.o,fun x q=> .inl q⟩⟩
 by_cases a:fR S=0;rotate_left
 ·have N:=NS a;have U:c6 (pT S=none∧F0 2 S (tN S)):=N;obtain⟨OI,C⟩:=c7 (fR S);have W:c6 (OI=fR S):=C;have j0: ¬OI=0:=by rw[C];exact a
  have d:c6 (fR S≠0):=a;clear N a C;go_in;go_wp2_with (go_at_call 43;refine(t8 _ _).mono ?_;rw[c];rintro e w9 ⟨rfl,i⟩;replace i:=i.symm;subst i);refine(rG HD.o (by have:=H.o;omega)).mono ?_;rw[←W.o];rintro e f ⟨v1,rfl,O,_,j⟩;obtain⟨rfl,D',g,q⟩:=O U.o.1
  have HF:c6 (Lv D w (.pointer (some ⟨v,0,none⟩)) k S (.returned (.tuple #[.pointer none,.int .i64 OI])) f):=
   ⟨tN S,U.o.2.mono (by omega),j,.inl ⟨OI,D',rfl,.inr (.inl ⟨c,d.o,W.o⟩),g,q⟩⟩
  clear O j g q;go_wp2_with fail;go_ret2;exact HF.o
 obtain⟨P,hP,hS⟩:=NR a;have d:c6 (fR S=0):=a;have HP:c6 (pT S=some P):=hP;have g0:c6 (tN S=dI S 2):=hS;have J:c6 (s9 k=true):=c;clear a hP hS;go_in;go_wp2_with (go_at_call 43;refine(t8 _ _).mono ?_;rw[c];rintro e w9 ⟨rfl,i⟩;replace i:=i.symm;subst i);refine(rG HD.o (by have:=H.o;omega)).mono ?_;rw[d.o,HP.o,g0.o];rintro e f ⟨v1,rfl,_,s,j⟩;obtain⟨A,l,hA⟩:=s P rfl;obtain⟨L,B⟩:=c7 (dI S 2);rw[←B]at l;have n:c6 (F0 2 S L):=by rw[B];exact qA S 2
 have h0:=b9 l;have HA:=b9 hA;have Y:c6 (Ch D w f):=j;have i0:c6 (∀x,A x→x<f.heap.size):=fun x q=>l.lt q;obtain⟨r,c0⟩: ∃r,v1= .pointer (some ⟨r,0,none⟩):=by obtain⟨D',r,tv,e,_⟩:=l;exact⟨r,e⟩
 subst c0;clear s l hA j B c;have K:c6 (Ch D w (f.alloc (Obj.cells #[.pointer (some ⟨r,0,none⟩),.int .i64 k] 99))):=Y.o.self (Ch.of_below (a8 _ _));have p:c6 (BQ A (f.alloc (Obj.cells #[.pointer (some ⟨r,0,none⟩),.int .i64 k] 99)) (.pointer (some ⟨r,0,none⟩)) (.pointer (some ⟨v,0,none⟩)) P L):=h0.o.ch (E:=fun _=>False) (Ch.of_below (a8 _ _)) (fun _ _ h=>h);have R:c6 (w.heap.size≤f.heap.size):=Y.o.size;by_cases h7:P.tab.length=7;rotate_left
 ·have d0: ¬(P.tab.length:Int)=7:=by omega
  have k0:((P.tab.length:Int) !=7)=true:=by simpa using d0
  have I:c6 (uH k S 133):= .inr (.inr ⟨J.o,d.o,rfl,fun P' m Ls h=>by
   have e:=h.2.2.1;rw[HP.o]at e
   cases e
   exact h7 h.2.2.2.1⟩)
  clear h7;go_wp2_with fail;refine B4 (pA p.o) ?_;go_wp2_with fail;go_ret2;obtain⟨D',g,F⟩:=iT p.o;exact⟨L,n.o.mono (by omega),K.o,.inl ⟨133,D',rfl,I.o,g,fun x q=>HA.o x (F x q)⟩⟩
 have H7:c6 (P.tab.length=7):=h7;clear h7
 have G:c6 (RT A (f.alloc (Obj.cells #[.pointer (some ⟨r,0,none⟩),.int .i64 k] 99)) (.pointer (some ⟨f.heap.size,0,none⟩)) (.pointer (some ⟨v,0,none⟩)) k P L):=
  ⟨f.heap.size,_,rfl,heap_alloc_new f _,fun e=>by have:=i0.o _ e;omega,p.o,H7.o⟩
 have a0:c6 (i6 P L=false):=yS d.o HP.o n.o;go_upto_region 9 with fail
 generalize f.heap.size=sp at G R⊢;generalize f.alloc (Obj.cells #[.pointer (some ⟨r,0,none⟩),.int .i64 k] 99)=w2 at G K p⊢;go_wp2_with fail;refine(pA p.o).mono ?_;rw[H7.o];rintro e wz ⟨rfl,y⟩;replace y:=y.symm;subst y;go_wp2_with fail;refine(xS G.o a0.o (by have h1:=n.o.rd;have h2:=H.o;omega)).mono ?_;rintro e w7 ⟨b,S5,rfl,z,t,M,Q⟩;rw[Kk n.o]at z;have Z:c6 (b=true↔nU k P S):=z;have u:=b9 t;have T:c6 (F0 9 S S5):=(n.o.trans M).mono (by omega);have X:c6 (Ch D w w7):=K.o.trans Q HA.o;clear z t M Q
 cases b
 ·have I:c6 (uH k S 133):= .inr (.inr ⟨J.o,d.o,rfl,fun P' m' Ls' h=>by
   have e:=h.2.2.1;rw[HP.o]at e
   cases e
   have:=Z.o.2 ⟨m',Ls',h.2.2.2.2.1,h.2.2.2.2.2.1,h.2.2.2.2.2.2⟩
   cases this⟩)
  go_wp2_with fail;go_ret2;obtain⟨D',g,F⟩:=u.o.dsk;exact⟨S5,T.o,X.o,.inl ⟨133,D',rfl,I.o,g,fun x q=>HA.o x (F x q)⟩⟩
 ·obtain⟨m,Ls,q1,q2,q3⟩:=Z.o.1 rfl;have f0:c6 (iJ k S P m Ls):=⟨J.o,d.o,HP.o,H7.o,q1,q2,q3⟩;clear q1 q2 q3;go_wp2_with fail;go_ret2;exact⟨S5,T.o,X.o,.inr ⟨A,sp,P,m,Ls,rfl,f0.o,R.o,u.o,HA.o⟩⟩
section
section

variable{D:n9}{w:d9}{dv:Value}{S:Dk}

def PQ(D:n9)(w:d9)(dv:Value)(k:Int)(S:Dk)(e:Ending)(w':d9):Prop:=
 ∃v,e= .returned (.tuple #[v,.int .i64 (L8 k S).1])∧((L8 k S).2.1=none→v= .pointer none∧ ∃D',I9 91 D' w' dv (L8 k S).2.2∧ ∀x,D' x→D x∨w.heap.size≤x)∧
  (∀P,(L8 k S).2.1=some P→ ∃A' sp,v= .pointer (some ⟨sp,0,none⟩)∧w.heap.size≤sp∧RT A' w' v dv k P (L8 k S).2.2∧ ∀x,A' x→D x∨w.heap.size≤x)∧Ch D w w'
theorem JW{k c:Int}{S':Dk}{w':d9}{D':n9}(h:L8 k S=(c,none,S'))(hd:I9 91 D' w' dv S')(hD: ∀x,D' x→D x∨w.heap.size≤x)(hc:Ch D w w'):PQ D w dv k S (.returned (.tuple #[.pointer none,.int .i64 c])) w':=by
 unfold PQ;rw[h];exact⟨_,rfl,fun _=>⟨rfl,D',hd,hD⟩,fun P e=>(by cases e),hc⟩
theorem tU(h:I9 91 D w dv S)(k:Int)(hwr:S.wr<4611686018427387000):Calls Tryz.prog 9 #[dv,.int .i64 k] w (PQ D w dv k S):=by
 have HD:=b9 h;have J:=b9 hwr;have s0:c6 (S.bl.length≤64):=h.good.n64;have q0:c6 (∀x,D x→x<w.heap.size):=fun x d=>h.lt d;obtain⟨R,a0⟩: ∃R,dv= .pointer (some ⟨R,0,none⟩):=by obtain⟨R,gp,p0,e,_⟩:=h;exact⟨R,e⟩
 subst a0;obtain⟨K,hK⟩:=c7 (s9 k);have HK:c6 (K=s9 k):=hK;clear h hwr hK;go_in;go_wp2_with fail;refine(t8 k _).mono ?_;rw[←HK.o];rintro e l ⟨rfl,r⟩;replace r:=r.symm;subst r
 cases K
 ·have HF:c6 (L8 k S=(1,none,S)):=by show _=_;unfold L8;rw[if_pos HK.o.symm]
  go_wp2_with fail;go_ret2;exact JW HF.o HD.o (fun x d=> .inl d) (Ch.refl _ _)
 ·go_wp2_with fail;refine(xY HD.o 7 (by have:=J.o;omega)).mono ?_;obtain⟨c,o,j,X⟩: ∃c o j,F7 S 7=(c,o,j):=⟨_,_,_,rfl⟩;have HO:c6 (F7 S 7=(c,o,j)):=X;unfold Fm Ob;rw[X];rintro e l ⟨v1,rfl,t,f,m⟩;clear X
  cases o with
  |none=>
   obtain⟨rfl,D',F,H⟩:=t rfl;have o0:(c !=0)=true:=by rw[bne_iff_ne];exact vT HO.o
   have HF:c6 (L8 k S=(c,none,j)):=by show _=_;unfold L8;rw[if_neg (by rw[←HK.o];simp),HO.o]
   have k0:=b9 F;have HX:=b9 H;have p:c6 (Ch D w l):=m;clear t f F H m;go_wp2_with fail;go_ret2;exact JW HF.o k0.o HX.o p.o
  |some P=>
   obtain⟨rfl,hP⟩:=vS HO.o;obtain⟨A,b,hA⟩:=f P rfl;have l0:=b9 b;have HA:=b9 hA;have p:c6 (Ch D w l):=m;have h0:c6 (P.tab.length=7):=by rw[hP];rfl
   have g0:c6 (P.ok j.bl.length):=b.good
   have d0:c6 (j.wr<4611686018427387904):=by
    have C:=HO.o;have Y:=J.o;have h3:=OQ S;rw[C]at h3;show _<_;simp only at h3;omega
   have m0:c6 (∀x,A x→x<l.heap.size):=fun x d=>b.lt d;have f0:c6 (j.bl.length≤64):=by obtain⟨D',C,_⟩:=iT b;exact C.good.n64
   obtain⟨T,b0⟩: ∃T,v1= .pointer (some ⟨T,0,none⟩):=by obtain⟨D',T,tv,e,_⟩:=b;exact⟨T,e⟩
   subst b0;clear t f b hA m hP;go_wp2_with fail;refine(rK (Sv.nil .u64 l:Kv l (.slice none 0 0) []) pW 0 0).mono ?_;rintro e O ⟨v2,rfl,s,n⟩;obtain⟨E,W⟩:=c7 (J1 C1);have HE:c6 (E=J1 C1):=W;have B:c6 (∀c∈E.1,c<256):=by rw[W];exact nB pW
   have j0:c6 (O.ownsRow l.heap.size 5 1 v2 E.1.length (cb E.1)):=by rw[W];exact s
   have r0:=b9 n;obtain⟨va,vn,vc,Z⟩: ∃x y z,v2= .slice x y z:=by obtain⟨x,z,e⟩:=y9 s;exact⟨x,_,z,e⟩
   subst Z;have c0:c6 (WL l.heap.size (O.alloc (Obj.cells #[.int .i64 0,.slice va vn vc] 77)) (.slice (some ⟨O.heap.size,0,none⟩) 1 1) [(0,E.1)]):=UO j0.o B.o (by omega) n.size;have v:c6 (f8 l (O.alloc (Obj.cells #[.int .i64 0,.slice va vn vc] 77))):=a9 n (a8 _ _);clear s n W;go_wp2_with fail;refine(jY (l0.o.below v.o) (c0.o.tx m0.o) d0.o).mono ?_;rintro e N ⟨rfl,⟨A',g,I⟩,G⟩;obtain⟨c,P',S',a⟩: ∃c P' S',A5 P j [(0,E.1)]=(c,P',S'):=⟨_,_,_,rfl⟩;have L:c6 (A5 P j [(0,(J1 C1).1)]=(c,P',S')):=by rw[←HE.o];exact a
   rw[a]at g⊢;have i:=b9 g
   have M:c6 (∀x,A' x→D x∨w.heap.size≤x):=fun x d=>by
    rcases I x d with q|q
    ·exact HA.o x q
    ·have C:=v.o.size;have Y:=p.o.size;right;omega
   have u:c6 (Ch D w N):=(p.o.self (Ch.of_below v.o)).trans G (fun x d=>HA.o x d);clear g I G;by_cases U:c=0;rotate_left
   ·have n0:(c !=0)=true:=by rw[bne_iff_ne];exact U
    have HF:c6 (L8 k S=(c,none,S')):=by show _=_;unfold L8;rw[if_neg (by rw[←HK.o];simp),HO.o];simp only[L.o];rw[if_pos U]
    clear U a;go_wp2_with fail;go_ret2;obtain⟨D',C,Y⟩:=iT i.o;exact JW HF.o C (fun x d=>M.o x (Y x d)) u.o
   ·subst U;have HF:c6 (L8 k S=(0,some P',S')):=by show _=_;unfold L8;rw[if_neg (by rw[←HK.o];simp),HO.o];simp only[L.o];rw[if_neg (by simp)]
    have i0:c6 (P'.tab.length=7):=by have h:=dU (P:=P) (S:=j) (ps:=[(0,E.1)]) g0.o f0.o;rw[a]at h;exact h.trans h0.o
    clear a;go_wp2_with fail;go_ret2;unfold PQ;rw[HF.o];refine⟨_,rfl,fun e=>(by cases e),fun Q e=>?_,u.o.self (Ch.of_below (a8 _ _))⟩
    cases e
    exact⟨A',N.heap.size,rfl,u.o.size,⟨N.heap.size,_,rfl,heap_alloc_new N _,fun e=>by have:=i.o.lt e;omega,i.o.below (a8 _ _),i0.o⟩,M.o⟩
end
end
def fE(o:List Cl)(k:Nat):Nat:=(o.takeWhile fun d=>decide (d.k<k)).length
def EK(o:List Cl)(c:Cl):List Cl:=o.take (fE o c.k)++c::o.drop (fE o c.k)
def W0(l:List Cl):List Cl:=l.foldl EK []
theorem Db(o:List Cl)(k:Nat):fE o k≤o.length:=by
 unfold fE;exact(List.takeWhile_sublist _).length_le
theorem OG{o:List Cl}{k i:Nat}(hi:i<fE o k): ∃h:i<o.length,o[i].k<k:=by
 unfold fE at hi
 induction o generalizing i with
 |nil=>simp at hi
 |cons a o b=>
  rw[List.takeWhile_cons]at hi
  split at hi
  ·cases i with
   |zero=>exact⟨by simp,by simpa using(by assumption:decide (a.k<k)=true)⟩
   |succ i=>
    obtain⟨h,c⟩:=b (by simpa using hi);exact⟨by simpa using h,by simpa using c⟩
  ·simp at hi
theorem OH{o:List Cl}{k:Nat}(h:fE o k<o.length): ¬o[fE o k].k<k:=by
 unfold fE at h⊢
 induction o with
 |nil=>simp at h
 |cons a o c=>
  by_cases b:a.k<k
  ·simp only[List.takeWhile_cons,b,decide_true,if_true,List.length_cons]at h⊢;have:=c (by omega);simpa using this
  ·simp only[List.takeWhile_cons,b,decide_false];simpa using b
theorem TI(o:List Cl)(c:Cl):(EK o c).Perm (c::o):=by
 unfold EK;have h:=List.perm_middle (a:=c) (l₁:=o.take (fE o c.k)) (l₂:=o.drop (fE o c.k));rw[List.take_append_drop]at h;exact h
theorem EI{o:List Cl}(c:Cl)(h:o.Pairwise (fun a b=>a.k≤b.k)):(EK o c).Pairwise (fun a b=>a.k≤b.k):=by
 unfold EK;have p:=h;rw[←List.take_append_drop (fE o c.k) o,List.pairwise_append]at h;obtain⟨n,m,l⟩:=h
 have lo: ∀a∈o.take (fE o c.k),a.k<c.k:=by
  intro a d;obtain⟨i,f,rfl⟩:=List.mem_iff_getElem.1 d;rw[List.length_take]at f;obtain⟨q,j⟩:=OG (o:=o) (k:=c.k) (i:=i) (by omega);rw[List.getElem_take];exact j
 have up: ∀b∈o.drop (fE o c.k),c.k≤b.k:=by
  intro b g;obtain⟨i,f,rfl⟩:=List.mem_iff_getElem.1 g;rw[List.length_drop]at f;have q:=OH (o:=o) (k:=c.k) (by omega);rw[List.getElem_drop];rcases Nat.eq_zero_or_pos i with e|e
  ·subst e;simp only[Nat.add_zero];omega
  ·have:=List.pairwise_iff_getElem.1 p (fE o c.k) (fE o c.k+i) (by omega) (by omega) (by omega);omega
 rw[List.pairwise_append];refine⟨n,List.pairwise_cons.2 ⟨up,m⟩,fun a d b g=>?_⟩;rcases List.mem_cons.1 g with q|q
 ·subst q;exact Nat.le_of_lt (lo a d)
 ·exact l a d b q
theorem iA(l:List Cl)(c:Cl):W0 (l++[c])=EK (W0 l) c:=by unfold W0;rw[List.foldl_append];rfl
theorem sH(l:List Cl):cG l (W0 l):=by
 suffices q: ∀r:List Cl,cG r.reverse (W0 r.reverse) by have:=q l.reverse;rwa [List.reverse_reverse]at this
 intro r
 induction r with
 |nil=>exact⟨List.Perm.refl _,List.Pairwise.nil⟩
 |cons c r a=>
  rw[List.reverse_cons,iA];refine⟨(TI _ c).trans ?_,EI c a.2⟩;exact((List.Perm.cons c a.1).trans (List.perm_append_comm (l₁:=[c]) (l₂:=r.reverse)))
theorem bZ(l:List Cl):(W0 l).length=l.length:=(sH l).1.length_eq
def tS(o:List Cl)(k:Nat):List Cl:=(o++[j9]).take (k+1)++o.drop k
theorem uQ(o:List Cl):tS o o.length=o++[j9]:=by unfold tS;rw[List.drop_length,List.append_nil,List.take_of_length_le (by simp)]
theorem aU{o:List Cl}{k:Nat}(hk:k≤o.length):(tS o k).length=o.length+1:=by unfold tS;simp;omega
theorem Hc{o:List Cl}{k:Nat}(hk:k<o.length): ∃h:k<(tS o (k+1)).length,(tS o (k+1))[k]=o[k]:=by
 refine⟨by rw[aU (by omega)];omega,?_⟩;unfold tS;rw[List.getElem_append_left (by simp;omega),List.getElem_take,List.getElem_append_left hk]
theorem VF{o:List Cl}{k:Nat}(hk:k<o.length):(tS o (k+1)).set (k+1) o[k]=tS o k:=by
 unfold tS;have a:(o++[j9]).take (k+1+1)=(o++[j9]).take (k+1)++[(o++[j9])[k+1]'(by simp;omega)]:=List.take_succ_eq_append_getElem _;rw[a,List.append_assoc,List.set_append,if_neg (by simp;omega),show k+1-((o++[j9]).take (k+1)).length=0 by simp;omega];rw[List.drop_eq_getElem_cons hk];rfl
theorem NG{o:List Cl}{a:Nat}(c:Cl)(ha:a≤o.length):(tS o a).set a c=o.take a++c::o.drop a:=by
 unfold tS;have b:(o++[j9]).take (a+1)=(o++[j9]).take a++[(o++[j9])[a]'(by simp;omega)]:=List.take_succ_eq_append_getElem _;rw[b,List.append_assoc,List.set_append,if_neg (by simp;omega),show a-((o++[j9]).take a).length=0 by simp;omega,List.take_append_of_le_length ha];rfl
theorem dX{w:d9}{B e s g n cap o:Nat}{xs:List Value}(u:Value)(h:w.ownsRow B e s (.slice (some ⟨g,0,none⟩) n cap) n xs):(w.setCell ⟨g,o,none⟩ u).ownsRow B e s (.slice (some ⟨g,0,none⟩) n cap) n (xs.set o u):=by
 obtain⟨k,j⟩:=h;rcases j with ⟨h,_⟩|⟨g',cap',cur,l,i,f,a,c,b,d⟩
 ·cases h
 ·cases l
  refine⟨by simpa using k,.inr ⟨g,cap,cur.setIfInBounds o u,rfl,i,?_,a,c,by simpa using b,?_⟩⟩
  ·rw[Sort.setCell_eq];simp[Sort.mapBlock,Array.getElem?_modify,f,Sort.onCells]
  ·rw[←d,Array.toList_setIfInBounds,List.take_set]
theorem vV(q:Cl): ∀(m:List Cl) (k:Nat),l9 (m.set k q)=((((((l9 m).set (k*6) (.int .u64 q.k)).set (k*6+1) (.bool q.p.h)).set (k*6+2) (.int .u64 q.p.b)).set (k*6+3) (.bool q.c.h)).set (k*6+4) (.int .u64 q.c.b)).set (k*6+5) (.int .i64 q.n)
 |[],k=>by simp[l9]
 |a::m,0=>by simp[l9,W6]
 |a::m,k+1=>by
  have ih:=vV q m k;have e: ∀(o:Cl) (l:List Cl),l9 (o::l)= .int .u64 o.k:: .bool o.p.h:: .int .u64 o.p.b:: .bool o.c.h:: .int .u64 o.c.b:: .int .i64 o.n::l9 l:=fun _ _=>rfl;rw[List.set_cons_succ,e,ih,e,show(k+1)*6=k*6+1+1+1+1+1+1 by omega];simp
theorem WR{w:d9}{B g n cap k:Nat}{m:List Cl}(q:Cl)(h:w.ownsRow B 132 6 (.slice (some ⟨g,0,none⟩) n cap) n (l9 m)):
  ((((((w.setCell ⟨g,k*6,none⟩ (.int .u64 q.k)).setCell ⟨g,k*6+1,none⟩ (.bool q.p.h)).setCell ⟨g,k*6+2,none⟩ (.int .u64 q.p.b)).setCell ⟨g,k*6+3,none⟩ (.bool q.c.h)).setCell ⟨g,k*6+4,none⟩ (.int .u64 q.c.b)).setCell ⟨g,k*6+5,none⟩ (.int .i64 q.n)).ownsRow B 132 6 (.slice (some ⟨g,0,none⟩) n cap) n (l9 (m.set k q)):=by
 rw[vV];exact dX _ (dX _ (dX _ (dX _ (dX _ (dX _ h)))))
theorem P2{w:d9}{B g n cap:Nat}{m:List Cl}(h:w.ownsRow B 132 6 (.slice (some ⟨g,0,none⟩) n cap) n (l9 m)){i:Nat}(hi:i<m.length):CA w g (i*6) m[i]∧ ∀j,w.frozen? ⟨g,j,none⟩=false:=by
 have c:=h.2;have a:=(cX h).1.at i hi;rw[Nat.zero_add]at a;refine⟨a,fun j=>?_⟩;rcases c with ⟨q,_⟩|⟨g',cap',cur,d,e,b,_⟩
 ·cases q
 ·cases d
  simp[World.frozen?,b]
theorem qB{w:d9}{B n:Nat}{v:Value}{m:List Cl}(h:w.ownsRow B 132 6 v n (l9 m))(hp:0<n): ∃g cap,v= .slice (some ⟨g,0,none⟩) n cap∧B≤g∧g<w.heap.size∧n≤cap∧cap≤maxLen:=by
 rcases h.2 with ⟨_,q⟩|⟨g',cap',cur,e,d,c,a,b,_⟩
 ·omega
 ·exact⟨g',cap',e,d,(Array.getElem?_eq_some_iff.1 c).1,a,b⟩
def fZ(g:Nat→List Cl):Nat→List Cl
 |0=>[]
 |n+1=>fZ g n++g (n+1)
end Go.Proofs.YtfhoilcbhmeofaaGreat
