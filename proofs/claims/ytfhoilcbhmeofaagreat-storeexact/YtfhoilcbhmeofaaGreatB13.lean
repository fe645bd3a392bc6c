/- Contracts of mark's Encode, the program's and the reference's. -/
import Derived.Test.YtfhoilcbhmeofaaGreatB12
set_option maxRecDepth 100000
set_option maxHeartbeats 16000000
namespace Go.Proofs.YtfhoilcbhmeofaaGreat
open Go.RowKit
section
def dI(S:Dk):Nat→Dk
 |0=>S
 |k+1=>R8 (dI S k) k
def V6(h:Option Bo)(r:Option (Nat × f7))(k:Nat):Option Bo:=
 match r with
 |none=>h
 |some (g,t)=>match h with
  |none=>some ⟨g,t,k,false⟩
  |some P=>if P.gen<g then some ⟨g,t,k,false⟩else some P
def O1(S:Dk):Nat→Option Bo
 |0=>none
 |k+1=>V6 (O1 S k) (m8 (M6 (dI S k) k) S.bl.length) k
theorem yL(S:Dk)(k:Nat):(dI S k).bl.length=S.bl.length:=by
 induction k with
 |zero=>rfl
 |succ k a=>unfold dI;rw[CK,a]
theorem Fb(S:Dk)(k:Nat):(dI S k).rd≤S.rd+k:=by
 induction k with
 |zero=>exact Nat.le_refl _
 |succ k a=>
  unfold dI R8
  split
  ·show(dI S k).rd+1≤_;omega
  ·omega
theorem dQ{S:Dk}(h:S.ok)(i:Int):(M6 S i).length≤1024∧ ∀c∈M6 S i,c<256:=by
 unfold M6
 split
 ·rename_i b
  obtain⟨_,k,rfl,a⟩:=kB b;rw[Int.toNat_natCast];exact⟨h.len _ (fQ a),h.byt _ (fQ a)⟩
 ·exact⟨by simp,fun c d=>by simp at d⟩
theorem Bi{h:Option Bo}{b:f7}{k B:Nat}(hk:k≤1)(hb: ∀c∈b,c<256)(hh: ∀P,h=some P→P.ok B): ∀P,V6 h (m8 b B) k=some P→P.ok B:=by
 intro P a
 cases d:m8 b B with
 |none=>rw[d]at a;exact hh P a
 |some q=>
  obtain⟨g,t⟩:=q;obtain⟨l,j,i,f⟩:=gR hb d;have e:(Bo.mk g t k false).ok B:=⟨l,j,i,f,hk⟩;rw[d]at a;unfold V6 at a;simp only at a
  split at a
  ·cases a;exact e
  ·split at a
   ·cases a;exact e
   ·cases a;exact hh _ rfl
def Ob(F:Value→Value→Bo→Array Value)(TB TD:TypeId)(D:n9)(w:d9)(dv:Value)(c:Int)(o:Option Bo)(S':Dk)(e:Ending)(w':d9):Prop:=
 ∃v,e= .returned (.tuple #[v,.int .i64 c])∧(o=none→v= .pointer none∧ ∃D',I9 TD D' w' dv S'∧ ∀x,D' x→D x∨w.heap.size≤x)∧
  (∀P,o=some P→ ∃A',Bk F TB TD A' w' v dv P S'∧ ∀x,A' x→D x∨w.heap.size≤x)∧Ch D w w'
def fR(S:Dk):Int:=if S.down=true then 80 else if O1 S 2=none then 90 else 0
def pT(S:Dk):Option Bo:=if S.down=true then none else O1 S 2
def tN(S:Dk):Dk:=if S.down=true then S else dI S 2
def Hb(F:Value→Value→Bo→Array Value)(TB:TypeId)(w:d9)(dv v:Value)(o:Option Bo)(wr:d9):Prop:=
 (o=none∧v= .pointer none)∨ ∃P pb tv,o=some P∧v= .pointer (some ⟨pb,0,none⟩)∧wr.heap[pb]?=some (.cells (F tv dv P) TB (0,0))∧Tw wr tv P.tab∧w.heap.size≤pb∧ ∀x,tv.ownBlock=some x→w.heap.size≤x∧x≠pb
theorem Hb.ch{F:Value→Value→Bo→Array Value}{TB:TypeId}{D:n9}{w wr wy:d9}{dv v:Value}{o:Option Bo}(h:Hb F TB w dv v o wr)(hc:Ch D wr wy)(hD: ∀x,D x→x<w.heap.size):Hb F TB w dv v o wy:=by
 rcases h with h|⟨P,d,z,t,s,k,c,r,j⟩
 ·exact .inl h
 ·have p:=(Array.getElem?_eq_some_iff.1 k).1;obtain⟨B,y,rfl,_,_⟩:=c.form;refine .inr ⟨P,d,_,t,s,by rw[hc.block d p (fun e=>by have:=hD _ e;omega)];exact k,?_,r,j⟩;by_cases g:P.tab=[]
  ·rw[g]at c⊢;obtain⟨ao',cap',e,n,m,l,A⟩:=c;exact⟨ao',cap',e,n,m,l,fun i q=>by simp[ib]at q⟩
  ·obtain⟨b,u,rfl,a⟩:=c.at (i:=0) (List.length_pos_iff.2 g);refine c.ch fun x f=>?_;simp[Value.ownBlock]at f;subst f;exact hc.block _ (c8 a) (fun e=>by have:=hD _ e;have:=(j b (by simp[Value.ownBlock])).1;omega)
theorem Hb.bk{F:Value→Value→Bo→Array Value}{TB TD:TypeId}{D:n9}{w wr:d9}{dv v:Value}{P:Bo}{S:Dk}(h:Hb F TB w dv v (some P) wr)(hd:I9 TD D wr dv S)(hD: ∀x,D x→x<w.heap.size)(hok:P.ok S.bl.length): ∃A',Bk F TB TD A' wr v dv P S∧ ∀x,A' x→D x∨w.heap.size≤x:=by
 rcases h with ⟨h,_⟩|⟨P',j,g,o,n,k,f,m,d⟩
 ·cases h
 ·cases o
  have l:=(Array.getElem?_eq_some_iff.1 k).1;refine⟨fun x=>D x∨((x=j∨g.ownBlock=some x)∧x<wr.heap.size),⟨D,j,g,n,k,f,hd,fun x a=> .inl a,.inr ⟨.inl rfl,l⟩,fun e=>by have:=hD _ e;omega,fun x a=>⟨?_,fun e=>?_,(d x a).2⟩,fun x a=>?_,hok⟩,fun x a=>?_⟩
  ·obtain⟨t,q,rfl,_,_⟩:=f.form;obtain⟨b,p,rfl,c⟩:=f.at (i:=0) hok.tok.1;simp[Value.ownBlock]at a;subst a;exact .inr ⟨.inr rfl,c8 c⟩
  ·have s:=hD _ e;have r:=(d x a).1;omega
  ·rcases a with e|e
   ·exact hd.lt e
   ·exact e.2
  ·rcases a with e|⟨e|e,_⟩
   ·exact .inl e
   ·subst e;exact .inr m
   ·exact .inr (d x e).1
section

variable{D:n9}{w:d9}{dv:Value}{S:Dk}

theorem SE(h:I9 89 D w dv S)(hd:S.down=true):Calls Tryz.prog 39 #[dv] w fun e w'=>Ob ES 124 89 D w dv (fR S) (pT S) (tN S) e w':=by
 have HD:=b9 h;have a:=b9 hd;obtain⟨g,i,cp,rfl,_⟩:=h;clear hd;go_in;go_wp2_with fail;refine(jB HD.o).mono ?_;rintro e f ⟨rfl,c⟩;have c:=c.symm;subst c;rw[a.o];go_wp2_with fail;go_ret2;refine⟨_,by unfold fR;rw[if_pos a.o];rfl,fun _=>⟨rfl,D,by unfold tN;rw[if_pos a.o];exact HD.o,fun x d=> .inl d⟩,fun P b=>(by unfold pT at b;rw[if_pos a.o]at b;cases b),Ch.refl _ _⟩
def Gf(D:n9)(w:d9)(dv:Value)(S:Dk)(hv iv:Value)(wr:d9):Prop:=
 ∃k:Nat,k≤2∧iv= .int .i64 k∧I9 89 D wr dv (dI S k)∧Ch D w wr∧Hb ES 124 w dv hv (O1 S k) wr∧ ∀P,O1 S k=some P→P.ok S.bl.length
theorem WW{w3 wq:d9}{k g:Nat}{t:f7}{sb tc:Nat}{to':Option Addr}(hlt:k<2)(hN:O1 S (k+1)=some ⟨g,t,k,false⟩)(h3:I9 89 D w3 (.pointer (some ⟨sb,0,none⟩)) (dI S (k+1)))(hC:Ch D w w3)(hB:f8 w3 wq)
  (hT:Tw w3 (.slice to' t.length tc) t) (hn: ∀x,(Value.slice to' t.length tc).ownBlock=some x→w.heap.size≤x∧x<w3.heap.size) (hok: ∀P,O1 S (k+1)=some P→P.ok S.bl.length):
  Gf D w (.pointer (some ⟨sb,0,none⟩)) S (.pointer (some ⟨wq.heap.size,0,none⟩)) (.int .i64 ((k:Int)+1)) (wq.alloc (Obj.cells #[.int .u64 g,.slice to' t.length tc,.pointer (some ⟨sb,0,none⟩),.int .i64 k,.bool false] 124)):=by
 have a:=a9 hB (a8 wq (Obj.cells #[.int .u64 g,.slice to' t.length tc,.pointer (some ⟨sb,0,none⟩),.int .i64 k,.bool false] 124));refine⟨k+1,hlt,by simp,h3.below a,hC.self (Ch.of_below a),.inr ⟨_,wq.heap.size,_,hN,rfl,heap_alloc_new wq _,hT.below a,Nat.le_trans hC.size hB.size,fun x b=>⟨(hn x b).1,fun e=>?_⟩⟩,hok⟩;have d:=(hn x b).2;have c:=hB.size;omega
theorem Bn(h:I9 89 D w dv S)(hd:S.down=false)(hrd:S.rd<4611686018427387904):Calls Tryz.prog 39 #[dv] w fun e w'=>Ob ES 124 89 D w dv (fR S) (pT S) (tN S) e w':=by
 have HD:=b9 h;have Z:=b9 hd;have B0:=b9 hrd;have y:c6 (∀x,D x→x<w.heap.size):=fun x Q=>h.lt Q;have HB:=b9 h.good.n64;obtain⟨sb,gp,cp,rfl,_⟩:=h;clear hd hrd;go_in;go_wp2_with fail;refine(jB HD.o).mono ?_;rintro e w1 ⟨rfl,R⟩;have R:=R.symm;subst R;rw[Z.o];go_wp2_with fail;go_loopw [4,14] (fun A iv wr=>Gf D w (.pointer (some ⟨sb,0,none⟩)) S A iv wr) (fun _ iv _=>2-(intOf iv).toNat)
 case atStart=>exact⟨0,by omega,rfl,HD.o,Ch.refl _ _,.inl ⟨rfl,rfl⟩,fun P c=>by cases c⟩
 case round=>
  obtain⟨k,hk,rfl,i0,hC,hH,h0⟩:=hrel;have L:=b9 i0;have HC:=b9 hC;have HH:=b9 hH;have n0:=b9 h0;clear i0 hC hH h0;by_cases F:k<2
  ·have w0:(k:Int)<2:=by omega
   have A0:c6 ((dI S k).rd<9223372036854775807):=by show _<_;have h1:=Fb S k;have h2:=B0.o;omega
   have v:=dQ L.o.good (k:Int);obtain⟨b,N⟩:=c7 (M6 (dI S k) (k:Int));rw[←N]at v;have F0:=b9 N;have D0:=b9 v.1;have p0:=b9 v.2;have K:c6 (∀P,V6 (O1 S k) (m8 b S.bl.length) k=some P→P.ok S.bl.length):=Bi (by omega) v.2 n0.o;have l:c6 (O1 S (k+1)=V6 (O1 S k) (m8 b S.bl.length) k):=by show V6 _ _ _=_;rw[←N]
   clear N v;go_wp2_with fail;refine(uX L.o k A0.o).mono ?_;rintro e w2 ⟨rv,rfl,B,j0,X⟩;rw[←F0.o]at B;have y0:=b9 (p7 B p0.o);have r0:c6 (I9 89 D w2 (.pointer (some ⟨sb,0,none⟩)) (dI S (k+1))):=j0;have s0:c6 (Ch D w w2):=HC.o.self X;have C0:c6 (Hb ES 124 w (.pointer (some ⟨sb,0,none⟩)) u4 (O1 S k) w2):=HH.o.ch X y.o;obtain⟨ro,rc,t0,_,_⟩:=K9 B;subst t0;have k0:(dI S (k+1)).bl.length=S.bl.length:=yL S (k+1);have a0:c6 ((dI S (k+1)).bl.length=S.bl.length):=k0;clear B j0 X k0;go_wp2_with fail;refine(cV r0.o).mono ?_;rw[a0.o];rintro e w9 ⟨rfl,R⟩;have R:=R.symm;subst R;go_wp2_with fail;refine(IW y0.o D0.o HB.o).mono ?_;rintro e f ⟨U,T,J⟩;have M:=b9 (r0.o.below J);have z:=b9 (s0.o.self (Ch.of_below J));have Y:=b9 (C0.o.ch (Ch.of_below (D:=D) J) y.o);have z0:c6 (w.heap.size≤f.heap.size∧w.heap.size≤w2.heap.size):=⟨z.o.size,s0.o.size⟩;clear J
   cases u:m8 b S.bl.length with
   |none=>
    have he:=U u;subst he;have m:c6 (O1 S (k+1)=O1 S k):=by show _=_;rw[l.o,u];rfl
    clear U T u;go_wp2_with fail;go_quiet (fail);obtain⟨wq,a⟩:=c7 ((f.alloc (Obj.cells #[.int .u64 0,.slice none 0 0] 120)).drewN nq);rw[←a];have d:c6 (f8 f wq):=by show Below _ _ _;rw[a];exact a9 (a8 _ _) (d8 _ _)
    clear a;go_wp2_with fail;go_roundw
    case rel=>exact⟨k+1,F,by simp,M.o.below d.o,z.o.self (Ch.of_below d.o),by rw[m.o];exact Y.o.ch (Ch.of_below (D:=D) d.o) y.o,fun P c=>by rw[l.o]at c;exact K.o P c⟩
    case measure=>simp[intOf];omega
   |some q=>
    obtain⟨g,t⟩:=q;obtain⟨to',tc,he,W,g0⟩:=T g t u;subst he;have l0:=b9 W
    have m0:c6 (∀x,(Value.slice to' t.length tc).ownBlock=some x→w.heap.size≤x∧x<f.heap.size):=fun x Q=>⟨Nat.le_trans z0.o.2 (g0 x Q),by
     have v0:=(gR p0.o u).2.2.2.1;obtain⟨bb,G0,e,b0⟩:=W.at (i:=0) v0;subst e;simp[Value.ownBlock]at Q;subst Q;exact c8 b0⟩
    clear U T W g0;rcases Y.o with ⟨s,A⟩|⟨P,O,tv,s,A,c,H,E,C⟩
    ·subst A;have m:c6 (O1 S (k+1)=some ⟨g,t,k,false⟩):=by show _=_;rw[l.o,u,s];rfl
     clear s u;go_wp2_with fail;go_quiet (fail);obtain⟨wq,a⟩:=c7 ((f.alloc (Obj.cells #[.int .u64 g,.slice to' t.length tc] 120)).drewN nq);rw[←a];have d:c6 (f8 f wq):=by show Below _ _ _;rw[a];exact a9 (a8 _ _) (d8 _ _)
     have q0:wq.cell? ⟨f.heap.size,0,none⟩=some (.int .u64 g):=by rw[a];simp[go_sem]
     have q1:wq.cell? ⟨f.heap.size,1,none⟩=some (.slice to' t.length tc):=by rw[a];simp[go_sem]
     clear a;go_wp2_with fail;go_roundw
     case rel=>exact WW F m.o M.o z.o d.o l0.o m0.o (fun P c=>by rw[l.o]at c;exact K.o P c)
     case measure=>simp[intOf];omega
    ·subst A;obtain⟨G,hG⟩:=c7 P.gen;have r:=(Array.getElem?_eq_some_iff.1 c).1;have o0:c6 (f.cell? ⟨O,0,none⟩=some (.int .u64 G)):=by show _=_;rw[cell_of_row f O 0 _ _ (0,0) c,hG];rfl
     have d0: ∀(o:Obj) (n:Nat),((f.alloc o).drewN n).cell? ⟨O,0,none⟩=some (.int .u64 G):=fun o n=>by
      have N:f8 f ((f.alloc o).drewN n):=a9 (a8 _ _) (d8 _ _);rw[N.cell (p:=⟨O,0,none⟩) r];exact o0.o
     have d1: ∀(o:Obj),(f.alloc o).cell? ⟨O,0,none⟩=some (.int .u64 G):=fun o=>by
      have N:f8 f (f.alloc o):=a8 _ _;rw[N.cell (p:=⟨O,0,none⟩) r];exact o0.o
     by_cases c0:G<g
     ·have f0:(G:Int)<(g:Int):=by omega
      have x0:=decide_eq_true f0;have m:c6 (O1 S (k+1)=some ⟨g,t,k,false⟩):=by show _=_;rw[l.o,u,s];show(if P.gen<g then _ else _)=_;rw[if_pos (by omega)]
      clear s u c H E C hG c0 r;go_wp2_with fail;go_quiet (fail);obtain⟨wq,a⟩:=c7 ((f.alloc (Obj.cells #[.int .u64 g,.slice to' t.length tc] 120)).drewN nq);rw[←a];have d:c6 (f8 f wq):=by show Below _ _ _;rw[a];exact a9 (a8 _ _) (d8 _ _)
      have q0:wq.cell? ⟨f.heap.size,0,none⟩=some (.int .u64 g):=by rw[a];simp[go_sem]
      have q1:wq.cell? ⟨f.heap.size,1,none⟩=some (.slice to' t.length tc):=by rw[a];simp[go_sem]
      clear a;go_wp2_with fail;go_roundw
      case rel=>exact WW F m.o M.o z.o d.o l0.o m0.o (fun P c=>by rw[l.o]at c;exact K.o P c)
      case measure=>simp[intOf];omega
     ·have f0:(g:Int)≤(G:Int):=by omega
      have x0:=decide_eq_false (by omega);have m:c6 (O1 S (k+1)=O1 S k):=by show _=_;rw[l.o,u,s];show(if P.gen<g then _ else _)=_;rw[if_neg (by omega)]
      clear s u c H E C hG c0 r;go_wp2_with fail;go_quiet (fail);obtain⟨wq,a⟩:=c7 ((f.alloc (Obj.cells #[.int .u64 g,.slice to' t.length tc] 120)).drewN nq);rw[←a];have d:c6 (f8 f wq):=by show Below _ _ _;rw[a];exact a9 (a8 _ _) (d8 _ _)
      clear a;go_wp2_with fail;go_roundw
      case rel=>exact⟨k+1,F,by simp,M.o.below d.o,z.o.self (Ch.of_below d.o),by rw[m.o];exact Y.o.ch (Ch.of_below (D:=D) d.o) y.o,fun P c=>by rw[l.o]at c;exact K.o P c⟩
      case measure=>simp[intOf];omega
  ·have w0: ¬(k:Int)<2:=by omega
   obtain rfl:k=2:=by omega
   have a0:=b9 (yL S 2);rcases HH.o with ⟨s,A⟩|⟨P,O,tv,s,A,c,H,E,C⟩
   ·subst A;have HN:=b9 s;clear s;go_wp2_with fail;go_ret2;have j: ¬S.down=true:=by rw[Z.o];simp
    exact⟨_,by unfold fR;rw[if_neg j,if_pos HN.o];rfl,fun _=>⟨rfl,D,by unfold tN;rw[if_neg j];exact L.o,fun x Q=> .inl Q⟩,fun P c=>(by unfold pT at c;rw[if_neg j,HN.o]at c;cases c),HC.o⟩
   ·subst A;have HN:=b9 s;clear s c H E C;go_wp2_with fail;go_ret2;have j: ¬S.down=true:=by rw[Z.o];simp
    refine⟨_,by unfold fR;rw[if_neg j,if_neg (by rw[HN.o];simp)];rfl,fun hn=>(by unfold pT at hn;rw[if_neg j,HN.o]at hn;cases hn),fun P' I=>?_,HC.o⟩;unfold pT at I;rw[if_neg j]at I;have hH:=HH.o;rw[I]at hH;have:=hH.bk L.o y.o (by rw[a0.o];exact n0.o P' I);unfold tN;rw[if_neg j];exact this
theorem vF(h:I9 89 D w dv S)(hrd:S.rd<4611686018427387904):Calls Tryz.prog 39 #[dv] w fun e w'=>Ob ES 124 89 D w dv (fR S) (pT S) (tN S) e w':=by
 cases hd:S.down
 ·exact Bn h hd hrd
 ·exact SE h hd
end
end
section
def R3(n:Nat):f7:=List.replicate n 0
theorem O2(n:Nat):(R3 n).length=n:=by simp[R3]
theorem wU(n i:Nat):tn (R3 n) i=0:=by unfold tn R3;rw[List.getD_eq_getElem?_getD,List.getElem?_replicate];split<;>rfl
theorem wV{n B:Nat}(h1:1≤n)(h8:n≤8)(hB:2+2*n≤B):(Bo.mk 1 (R3 n) 0 false).ok B:=
 ⟨Nat.le_refl _,by show 1≤_;omega,by show(R3 n).length≤8;rw[O2];exact h8,⟨by show 1≤(R3 n).length;rw[O2];exact h1,by show 2+2*(R3 n).length≤B;rw[O2];exact hB,fun i _=> .inl (wU n i)⟩,by show 0≤1;omega⟩
theorem DW{q:Nat}(hq:q≤8): ∀wx:d9,(Instr.makeSlice 118 (.int .i64 q) (.int .i64 q)).run Tryz.prog wx= .ok (.slice (some ⟨wx.heap.size,0,none⟩) q q) (wx.alloc (.cells (madeCells #[.int .i64 0] (q*1)) 3)):=fun wx=>by
 obtain⟨i0,hi0,hz0,hz1,hz2⟩:=cR dZ;have:=run_make (P:=Tryz.prog) wx 118 3 i0 (.int .i64 0) Tryz.underlying118 hi0 hz0 .i64 .i64 q q (by omega) (Int.le_refl _) (by rw[hz2];omega) (by omega);rw[hz1]at this;simp only[Int.toNat_natCast]at this;exact this
theorem OA(w:d9){q:Nat}(hq:q≤8){Z:Array Value}(hZ:Z=madeCells #[.int .i64 0] (q*1)):Zt (w.alloc (.cells Z 3)) w.heap.size q (R3 q):=by
 subst hZ;refine⟨⟨_,heap_alloc_new w _,by rw[size_madeCells];omega,fun i a=>?_⟩,by rw[O2];exact Nat.le_refl _,by simp[maxLen];omega⟩;rw[O2]at a;rw[wU];simp[madeCells,a,Nat.mod_one]
def F7(S:Dk)(n:Int):Int × Option Bo × Dk:=
 if n<1∨8<n then(1,none,S)
 else if(S.bl.length:Int)<2+2*n then(92,none,S)
 else if l7 S 1 []≠0 then(80,none,i7 S 1 [])
 else if l7 (i7 S 1 []) 0 (k9 1 (R3 n.toNat))≠0 then(80,none,i7 (i7 S 1 []) 0 (k9 1 (R3 n.toNat)))
 else(0,some ⟨1,R3 n.toNat,0,false⟩,i7 (i7 S 1 []) 0 (k9 1 (R3 n.toNat)))
section

variable{D:n9}{w:d9}{dv:Value}{S:Dk}

def Fm(F:Value→Value→Bo→Array Value)(TB TD:TypeId)(D:n9)(w:d9)(dv:Value)(S:Dk)(n:Int)(e:Ending)(w':d9):Prop:=Ob F TB TD D w dv (F7 S n).1 (F7 S n).2.1 (F7 S n).2.2 e w'
theorem jO{F:Value→Value→Bo→Array Value}{TB TD:TypeId}{D':n9}{w':d9}{S':Dk}{n c:Int}(hO:F7 S n=(c,none,S'))(hd:I9 TD D' w' dv S')(hx: ∀x,D' x→D x∨w.heap.size≤x)(hC:Ch D w w'):Fm F TB TD D w dv S n (.returned (.tuple #[.pointer none,.int .i64 c])) w':=by
 unfold Fm;rw[hO];exact⟨_,rfl,fun _=>⟨rfl,D',hd,hx⟩,fun P a=>(by cases a),hC⟩
theorem eE{q:Nat}{f:Int}(u:TypeId)(pv:Value)(older:List PanicEntry)(w:d9)(h3:w.cell? ⟨q,0,none⟩=some (.int .i64 f))(f3:w.frozen? ⟨q,0,none⟩=false):
  CallsD Tryz.prog 78 #[.pointer (some ⟨q,0,none⟩)] (.panicking ({v:= .iface u pv,recovered:=false}::older)) w fun e u' w'=>
   e= .returned (.tuple #[])∧u'= .panicking ({v:= .iface u pv,recovered:=true}::older)∧w'=w.setCell ⟨q,0,none⟩ (.int .i64 80):=by
 refine callsD_of_wpS Tryz.func78 rfl fun c₀ cs a=>?_;apply wpS_seq;apply wpS_region;simp[wpOpsS,go_sem,recoverD,a,Tryz.ntmps78,Exit.thenS];refine wpS_cond (t:=true) (by simp[Act.eval,Array.replicate]) ?_;simp only[if_true];apply wpS_region;simp[wpOpsS,go_sem,h3,f3,bodyPostS,results,Tryz.results78]
theorem FE(q:Addr)(w:d9):
  CallsD Tryz.prog 78 #[.pointer (some q)] .returning w fun e u' w'=>e= .returned (.tuple #[])∧u'= .returning∧w'=w:=by
 refine callsD_of_wpS Tryz.func78 rfl fun c₀ cs a=>?_;apply wpS_seq;apply wpS_region;simp[wpOpsS,go_sem,recoverD,a,Tryz.ntmps78,Exit.thenS];refine wpS_cond (t:=false) (by simp[Act.eval,Array.replicate]) ?_;simp only[Bool.false_eq_true,if_false];refine wpS_of_wp (wp_skip ?_)
 cases c₀
 simp_all [bodyPostS,results,Tryz.results78]
theorem LM(h:I9 89 D w dv S){n:Int}(hn:n<1∨8<n):Calls Tryz.prog 36 #[dv,.int .i64 n] w fun e w'=>Fm ES 124 89 D w dv S n e w':=by
 have HR:c6 (F7 S n=(1,none,S)):=by show _=_;unfold F7;rw[if_pos hn]
 have HD:=b9 h;obtain⟨b,f,cp,rfl,_⟩:=h;by_cases d:n<1
 ·clear hn;go_enter_defers Tryz.func36,Tryz.ntmps36;go_wp2_with fail;exact⟨.tuple #[.pointer none,.int .i64 1],by simp[results,Tryz.results36,go_sem],jO HR.o (HD.o.below (a8 _ _)) (fun x a=> .inl a) (Ch.of_below (a8 _ _))⟩
 ·have c:8<n:=by omega
  clear hn;go_enter_defers Tryz.func36,Tryz.ntmps36;go_wp2_with fail;exact⟨.tuple #[.pointer none,.int .i64 1],by simp[results,Tryz.results36,go_sem],jO HR.o (HD.o.below (a8 _ _)) (fun x a=> .inl a) (Ch.of_below (a8 _ _))⟩
theorem TL(h:I9 89 D w dv S){n:Nat}(h1:1≤n)(h8:n≤8)(hwr:S.wr<4611686018427387904):Calls Tryz.prog 36 #[dv,.int .i64 n] w fun e w'=>Fm ES 124 89 D w dv S n e w':=by
 obtain⟨j,F⟩:=c7 (w.alloc (Obj.cells #[.int .i64 0] 25));have n0:=b9 F;have j0:f8 w j:=by rw[F];exact a8 _ _
 have f0:=b9 j0;have s:c6 (w.heap.size<j.heap.size):=by show _<_;rw[F];simp
 have x0:j.cell? ⟨w.heap.size,0,none⟩=some (.int .i64 0):=by rw[F];simp[go_sem]
 have v0:j.frozen? ⟨w.heap.size,0,none⟩=false:=by rw[F];simp[go_sem]
 have I:=b9 (h.below j0);have A:c6 (¬D w.heap.size):=fun e=>by have:=h.lt e;omega
 have W0:c6 (∀x,D x→x<w.heap.size):=fun x d=>h.lt d;have HK:c6 (∀wx,Ch D j wx→wx.cell? ⟨w.heap.size,0,none⟩=some (.int .i64 0)∧wx.frozen? ⟨w.heap.size,0,none⟩=false):=fun wx d=>⟨by rw[World.cell?_of_block (w:=j) (a:=⟨w.heap.size,0,none⟩) (d.block _ s.o A.o)];exact x0,by rw[World.frozen?_of_block (w:=j) (a:=⟨w.heap.size,0,none⟩) (d.block _ s.o A.o)];exact v0⟩;have B:=b9 h8;have V0:=b9 h1;have i1:(1:Int)≤(n:Int):=by omega
 have f1:(n:Int)≤8:=by omega
 have C0:=b9 hwr;have b1: ∀(fn:Fn) (first A0:Array Value) (w:d9),(Instr.makeFunc fn first A0).run Tryz.prog w= .ok (.func fn first A0) w:=fun _ _ _ _=>rfl;have HF:c6 (F7 S n=if(S.bl.length:Int)<2+2*(n:Int)then(92,none,S)else if l7 S 1 []≠0 then(80,none,i7 S 1 [])else if l7 (i7 S 1 []) 0 (k9 1 (R3 n))≠0 then(80,none,i7 (i7 S 1 []) 0 (k9 1 (R3 n)))else(0,some ⟨1,R3 n,0,false⟩,i7 (i7 S 1 []) 0 (k9 1 (R3 n)))):=by show _=_;unfold F7;rw[if_neg (by omega),Int.toNat_natCast]
 obtain⟨L,hL⟩:=c7 S.bl.length;have HL:=b9 hL;have X0:L≤64:=by rw[hL];exact h.good.n64
 rw[←hL]at HF;obtain⟨sb,gp,cp,rfl,_⟩:=h;have O0:=DW h8;obtain⟨Z,hZ⟩:=c7 (madeCells #[.int .i64 0] (n*1));rw[←hZ]at O0;have HZ:=b9 hZ;clear F h1 h8 hwr j0 x0 v0 hL hZ;by_cases C:(L:Int)<2+2*(n:Int)
 ·have HR:c6 (F7 S n=(92,none,S)):=by show _=_;rw[HF.o,if_pos C]
  go_enter_defers Tryz.func36,Tryz.ntmps36;go_wp2_with fail;rw[←n0.o];refine(cV I.o).mono ?_;rw[←HL.o];rintro e w9 ⟨rfl,l⟩;have l:=l.symm;subst l;go_wp2_with fail;refine(eJ n (by have:=B.o;omega)).mono ?_;rintro e w9 ⟨rfl,l⟩;have l:=l.symm;subst l;have k1:=(HK.o j (Ch.refl _ _)).1;have g1:=(HK.o j (Ch.refl _ _)).2;go_wp2_with fail;exact⟨.tuple #[.pointer none,.int .i64 92],by simp[results,Tryz.results36,go_sem,k1],jO HR.o (I.o.ch (E:=fun x=>x=w.heap.size) (Ch.of_grown (A7 _ _ _ _) (fun x d=>by cases d;rfl)) (fun x d e=>A.o (e▸d))) (fun x d=> .inl d) (P7 (Ch.of_below f0.o) (Nat.le_refl _) _ _)⟩
 ·have M0:2+2*(n:Int)≤(L:Int):=by omega
  have Y:=b9 C;clear C;have F0:c6 (S.wr<9223372036854775807):=by show _<_;have:=C0.o;omega
  by_cases M:l7 S 1 []=0
  ·have N:=b9 M;clear M;obtain⟨S1,h0⟩:=c7 (i7 S 1 []);have a0:=b9 h0;have D0:c6 (S1.wr<9223372036854775807):=by show _<_;rw[h0];have h1:=dJ (S:=S) (i:=1) (b:=[]);have h2:=C0.o;omega
   clear h0;have U0:c6 (∀c∈k9 1 (R3 n),c<256):=eV (by rw[O2];exact B.o) (by omega) (fun x d=>by rw[(List.mem_replicate.1 d).2];omega);go_enter_defers Tryz.func36,Tryz.ntmps36;go_wp2_with fail;rw[←n0.o];refine(cV I.o).mono ?_;rw[←HL.o];rintro e w9 ⟨rfl,l⟩;have l:=l.symm;subst l;go_wp2_with fail;refine(eJ n (by have:=B.o;omega)).mono ?_;rintro e w9 ⟨rfl,l⟩;have l:=l.symm;subst l;go_wp2_with fail;obtain⟨O,k⟩:=c7 ((j.alloc (Obj.cells Z 3)).alloc (Obj.cells #[.int .u64 1,.slice (some ⟨j.heap.size,0,none⟩) n n] 120));rw[←k];have y:f8 j O:=by rw[k];exact a9 (a8 _ _) (a8 _ _)
   have c0:=b9 y;have B0:c6 (Zt O j.heap.size n (R3 n)):=by show Zt _ _ _ _;rw[k];exact(OA j B.o HZ.o).below (a8 _ _)
   have L0:c6 (O.cell? ⟨j.heap.size+1,0,none⟩=some (.int .u64 1)):=by show _=_;rw[k];simp[go_sem]
   have K0:c6 (O.cell? ⟨j.heap.size+1,1,none⟩=some (.slice (some ⟨j.heap.size,0,none⟩) n n)):=by show _=_;rw[k];simp[go_sem]
   have r0:=b9 (I.o.below y);have z:c6 (O.heap.size=j.heap.size+2):=by show _=_;rw[k];simp
   have H0:c6 (∀x,D x→x<w.heap.size):=fun x d=>by have h1:=W0.o x d;exact h1
   clear k y;refine(MR r0.o 1 (Bv.nil _) F0.o N.o).mono ?_;rw[←a0.o];rintro e Q ⟨rfl,⟨D3,W,T⟩,v⟩;have m0:=b9 T;have J0:=b9 W;have b0:=b9 v;have H:c6 (¬D j.heap.size∧ ¬D (j.heap.size+1)):=by have h1:=s.o;exact⟨fun e=>by have:=H0.o _ e;omega,fun e=>by have:=H0.o _ e;omega⟩
   have l0:c6 (Zt Q j.heap.size n (R3 n)):=B0.o.keep (v.block _ B0.o.lt H.o.1);have s0:c6 (Q.cell? ⟨j.heap.size+1,0,none⟩=some (.int .u64 1)):=by show _=_;rw[World.cell?_of_block (w:=O) (a:=⟨j.heap.size+1,0,none⟩) (v.block _ (c8 L0.o) H.o.2)];exact L0.o
   have o0:c6 (Q.cell? ⟨j.heap.size+1,1,none⟩=some (.slice (some ⟨j.heap.size,0,none⟩) n n)):=by show _=_;rw[World.cell?_of_block (w:=O) (a:=⟨j.heap.size+1,1,none⟩) (v.block _ (c8 K0.o) H.o.2)];exact K0.o
   have T0:c6 (Tw Q (.slice (some ⟨j.heap.size,0,none⟩) n n) (R3 n)):=by have:=l0.o.tw;rw[O2]at this;exact this
   have d0:=s0.o;have d1:=o0.o;clear T W v;go_wp2_with fail;refine(kW (g:=1) T0.o (by rw[O2];exact B.o) (fun x d=>by rw[(List.mem_replicate.1 d).2];omega) (by decide)).mono ?_;rintro e w4 ⟨rv,rfl,t0,z0⟩;have J:=b9 z0;have G0:=b9 (p7 t0 U0.o);clear t0 z0 d0 d1;by_cases k:l7 S1 0 (k9 1 (R3 n))=0
   ·have p0:=b9 k;have HR:c6 (F7 S n=(0,some ⟨1,R3 n,0,false⟩,i7 S1 0 (k9 1 (R3 n)))):=by show _=_;rw[HF.o,if_neg (show¬(L:Int)<2+2*(n:Int) by have:=Y.o;omega),if_neg (fun e=>e N.o),←a0.o,if_neg (fun e=>e k)]
    clear k;go_wp2_with fail;refine(MR (J0.o.below J.o) 0 G0.o D0.o p0.o).mono ?_;rintro e p ⟨rfl,⟨D5,U,R⟩,X⟩;have r:=m0.o
    have q0:c6 (¬D3 j.heap.size∧ ¬D3 (j.heap.size+1)∧ ¬D3 w.heap.size):=by
     have h1:=z.o;have h2:=s.o;refine⟨fun e=>?_,fun e=>?_,fun e=>?_⟩
     ·rcases r _ e with q|q
      ·exact H.o.1 q
      ·omega
     ·rcases r _ e with q|q
      ·exact H.o.2 q
      ·omega
     ·rcases r _ e with q|q
      ·exact A.o q
      ·omega
    have m:=(Ch.of_below J.o).self X;have k0:c6 (Zt p j.heap.size n (R3 n)):=l0.o.keep (m.block _ l0.o.lt q0.o.1);have d0:p.cell? ⟨j.heap.size+1,0,none⟩=some (.int .u64 1):=by rw[World.cell?_of_block (w:=Q) (a:=⟨j.heap.size+1,0,none⟩) (m.block _ (c8 s0.o) q0.o.2.1)];exact s0.o
    have d1:p.cell? ⟨j.heap.size+1,1,none⟩=some (.slice (some ⟨j.heap.size,0,none⟩) n n):=by rw[World.cell?_of_block (w:=Q) (a:=⟨j.heap.size+1,1,none⟩) (m.block _ (c8 o0.o) q0.o.2.1)];exact o0.o
    have u:=b9 (((Ch.of_below c0.o).self b0.o).trans m (fun x d=>by rcases r x d with q|q;exact .inl q;have:=z.o;exact .inr (by omega)));have t:=HK.o p u.o
    have G:c6 (∀x,D5 x→D x∨j.heap.size+2≤x):=fun x d=>by
     have h1:=z.o;rcases R x d with q|q
     ·rcases r x q with q|q
      ·exact .inl q
      ·exact .inr (by omega)
     ·have h2:=b0.o.size;have h3:=J.o.size;exact .inr (by omega)
    have I0:=b9 U;have k1: ∀o:Obj,(p.alloc o).cell? ⟨w.heap.size,0,none⟩=some (.int .i64 0):=fun o=>(HK.o _ (u.o.self (Ch.of_below (a8 p o)))).1;have g1: ∀o:Obj,(p.alloc o).frozen? ⟨w.heap.size,0,none⟩=false:=fun o=>(HK.o _ (u.o.self (Ch.of_below (a8 p o)))).2;clear R U X m r;go_wp2_with fail;refine leaves_cons (f:=78) (args:= #[.pointer (some ⟨w.heap.size,0,none⟩)]) (by simp) (by simp[go_sem]) ?_;refine(FE _ _).mono ?_;rintro e u' w'' ⟨rfl,rfl,rfl⟩;refine⟨.tuple #[.pointer (some ⟨p.heap.size,0,none⟩),.int .i64 0],by simp[results,Tryz.results36,go_sem,k1],?_⟩;unfold Fm;rw[HR.o];obtain⟨wf,K⟩:=c7 ((p.alloc (Obj.cells #[.int .u64 1,.slice (some ⟨j.heap.size,0,none⟩) n n,.pointer (some ⟨sb,0,none⟩),.int .i64 0,.bool false] 124)).setCell ⟨w.heap.size,0,none⟩ (.int .i64 0));rw[←K];have Z0:=u.o.size;have a1:=s.o;have N0:w.heap.size≠p.heap.size:=by omega
    have i0:Ch (fun x=>x=w.heap.size) p wf:=by rw[K];exact(Ch.of_below (a8 _ _)).self (Ch.of_grown (A7 _ _ _ _) (fun x d=>by cases d;rfl))
    have S0:Ch D w wf:=by rw[K];exact P7 (((Ch.of_below f0.o).self u.o).self (Ch.of_below (a8 _ _))) (Nat.le_refl _) _ _
    have y0:=I0.o.ch i0 (fun x d e=>by
     subst e;rcases G.o _ d with q|q
     ·exact A.o q
     ·omega)
    have P0:(i7 S1 0 (k9 1 (R3 n))).bl.length=L:=by rw[C6,a0.o,C6,HL.o]
    have hcut: ∃A',Bk ES 124 89 A' wf (.pointer (some ⟨p.heap.size,0,none⟩)) (.pointer (some ⟨sb,0,none⟩)) ⟨1,R3 n,0,false⟩ (i7 S1 0 (k9 1 (R3 n)))∧ ∀x,A' x→D x∨w.heap.size≤x:=by
     ·have c1:p.heap.size<wf.heap.size:=by rw[K];simp
      have R0: ¬D5 p.heap.size:=fun e=>by have:=I0.o.lt e;omega
      have Q0: ¬D5 j.heap.size:=fun e=>by
       rcases G.o _ e with q|q
       ·exact H.o.1 q
       ·omega
      have Y0:=k0.o.lt;refine⟨fun x=>(D5 x∨x=p.heap.size)∨x=j.heap.size,⟨D5,p.heap.size,.slice (some ⟨j.heap.size,0,none⟩) n n,rfl,?_,?_,y0,fun x d=> .inl (.inl d),.inl (.inr rfl),R0,fun x d=>?_,fun x d=>?_,by rw[P0];exact wV V0.o B.o (by have:=Y.o;omega)⟩,fun x d=>?_⟩
      ·rw[K,l8 0 _ (fun e=>N0 e.symm),heap_alloc_new];rfl
      ·have:=k0.o.tw;rw[O2]at this
       exact this.ch (fun x d=>by
        simp[Value.ownBlock]at d;subst d;exact i0.block _ k0.o.lt (by omega))
      ·simp[Value.ownBlock]at d;subst d;exact⟨.inr rfl,Q0,by omega⟩
      ·rcases d with (e|e)|e
       ·exact y0.lt e
       ·omega
       ·have:=i0.size;omega
      ·rcases d with (e|e)|e
       ·rcases G.o x e with q|q
        ·exact .inl q
        ·exact .inr (by omega)
       ·exact .inr (by omega)
       ·exact .inr (by omega)
    exact⟨_,rfl,fun hn=>(by cases hn),fun P hP=>(by cases hP;exact hcut),S0⟩
   ·have p0:=b9 k;have HR:c6 (F7 S n=(80,none,i7 S1 0 (k9 1 (R3 n)))):=by show _=_;rw[HF.o,if_neg (show¬(L:Int)<2+2*(n:Int) by have:=Y.o;omega),if_neg (fun e=>e N.o),←a0.o,if_pos k]
    clear k;go_wp2_with fail;refine(wW (J0.o.below J.o) 0 G0.o D0.o p0.o).mono ?_;rintro e p ⟨⟨pu,pv,rfl⟩,⟨D5,U,R⟩,X⟩;have m:=(Ch.of_below J.o).self X;have u:=b9 (((Ch.of_below c0.o).self b0.o).trans m (fun x d=>by rcases m0.o x d with q|q;exact .inl q;have:=z.o;exact .inr (by omega)));have t:=HK.o p u.o
    have G:c6 (∀x,D5 x→D x∨j.heap.size+2≤x):=fun x d=>by
     have h1:=z.o;rcases R x d with q|q
     ·rcases m0.o x q with q|q
      ·exact .inl q
      ·exact .inr (by omega)
     ·have h2:=b0.o.size;have h3:=J.o.size;exact .inr (by omega)
    refine leaves_cons (f:=78) (args:= #[.pointer (some ⟨w.heap.size,0,none⟩)]) (by simp) (by simp[go_sem]) ?_;refine(eE pu pv [] p t.1 t.2).mono ?_;rintro e u' w'' ⟨rfl,rfl,rfl⟩;refine⟨.tuple #[.pointer none,.int .i64 80],by simp[results,Tryz.results36,go_sem,t.1],jO HR.o (U.ch (E:=fun x=>x=w.heap.size) (Ch.of_grown (A7 _ _ _ _) (fun x d=>by cases d;rfl)) (fun x d e=>?_)) (fun x d=>?_) (P7 ((Ch.of_below (D:=D) f0.o).self u.o) (Nat.le_refl _) _ _)⟩
    ·subst e;have:=s.o;rcases G.o _ d with q|q
     ·exact A.o q
     ·omega
    ·have:=s.o;rcases G.o _ d with q|q
     ·exact .inl q
     ·exact .inr (by omega)
  ·have N:=b9 M;have HR:c6 (F7 S n=(80,none,i7 S 1 [])):=by show _=_;rw[HF.o,if_neg (show¬(L:Int)<2+2*(n:Int) by have:=Y.o;omega),if_pos M]
   clear M;go_enter_defers Tryz.func36,Tryz.ntmps36;go_wp2_with fail;rw[←n0.o];refine(cV I.o).mono ?_;rw[←HL.o];rintro e w9 ⟨rfl,l⟩;have l:=l.symm;subst l;go_wp2_with fail;refine(eJ n (by have:=B.o;omega)).mono ?_;rintro e w9 ⟨rfl,l⟩;have l:=l.symm;subst l;go_wp2_with fail;obtain⟨O,k⟩:=c7 ((j.alloc (Obj.cells Z 3)).alloc (Obj.cells #[.int .u64 1,.slice (some ⟨j.heap.size,0,none⟩) n n] 120));rw[←k];have y:f8 j O:=by rw[k];exact a9 (a8 _ _) (a8 _ _)
   have c0:=b9 y;have r0:=b9 (I.o.below y);have z:c6 (O.heap.size=j.heap.size+2):=by show _=_;rw[k];simp
   clear k y;refine(wW r0.o 1 (Bv.nil _) F0.o N.o).mono ?_;rintro e Q ⟨⟨pu,pv,rfl⟩,⟨D3,W,T⟩,v⟩;have hk:=(Ch.of_below c0.o).self v;have t:=HK.o Q hk;refine leaves_cons (f:=78) (args:= #[.pointer (some ⟨w.heap.size,0,none⟩)]) (by simp) (by simp[go_sem]) ?_;refine(eE pu pv [] Q t.1 t.2).mono ?_;rintro e u' w'' ⟨rfl,rfl,rfl⟩;have g0: ∀x,D3 x→D x∨j.heap.size≤x:=fun x d=>by rcases T x d with q|q;exact .inl q;have:=z.o;exact .inr (by omega)
   refine⟨.tuple #[.pointer none,.int .i64 80],by simp[results,Tryz.results36,go_sem,t.1],jO HR.o (W.ch (E:=fun x=>x=w.heap.size) (Ch.of_grown (A7 _ _ _ _) (fun x d=>by cases d;rfl)) (fun x d e=>?_)) (fun x d=>?_) (P7 ((Ch.of_below (D:=D) f0.o).self hk) (Nat.le_refl _) _ _)⟩
   ·subst e;have:=s.o;rcases g0 _ d with q|q
    ·exact A.o q
    ·omega
   ·have:=s.o;rcases g0 _ d with q|q
    ·exact .inl q
    ·exact .inr (by omega)
theorem EV(h:I9 89 D w dv S)(n:Int)(hwr:S.wr<4611686018427387904):Calls Tryz.prog 36 #[dv,.int .i64 n] w fun e w'=>Fm ES 124 89 D w dv S n e w':=by
 by_cases a:n<1∨8<n
 ·exact LM h a
 ·obtain⟨k,rfl⟩: ∃k:Nat,n=k:=⟨n.toNat,by omega⟩;exact TL h (by omega) (by omega) hwr
end
end
theorem F2{k:IntKind}{w:d9}{v:Value}{l:List Int}(h:Sv k w v l): ∃a n q,v= .slice a n q:=by
 obtain⟨a,q,e,_⟩:=h;exact⟨a,_,q,e⟩
theorem WG{w:d9}{a b c:Value}{la lb lc:f7}(t:TypeId)(ha:Bv w a la)(hb:Bv w b lb)(hc:Bv w c lc):
  Pv (w.alloc (.cells #[a,b,c] t)) (.slice (some ⟨w.heap.size,0,none⟩) 3 3) [la,lb,lc]:=by
 refine⟨_,3,rfl,Nat.le_refl _,by simp[maxLen],by simp,fun i d=>?_⟩;simp at d;have:i=0∨i=1∨i=2:=by omega
 rcases this with rfl|rfl|rfl
 ·exact⟨_,_,a,rfl,by simp,ha.below (a8 _ _)⟩
 ·exact⟨_,_,b,rfl,by simp,hb.below (a8 _ _)⟩
 ·exact⟨_,_,c,rfl,by simp,hc.below (a8 _ _)⟩
theorem OT(a b c:f7):[a,b,c].flatten=a++(b++c):=by simp
def aM(B A:Nat)(k:f7)(i:Nat):f7:=Wm.enc B++(Wm.enc A++Wm.enc k.length)++Wm.encAll (k.take i)
theorem CW(B A:Nat)(k:f7):aM B A k k.length=Wm.enc B++(Wm.enc A++(Wm.enc k.length++Wm.encAll k)):=by simp[aM]
theorem vB(B A:Nat)(k:f7):aM B A k 0=Wm.enc B++(Wm.enc A++Wm.enc k.length):=by simp[aM,Wm.encAll]
theorem vC{B A:Nat}{k:f7}{i:Nat}(hi:i<k.length):aM B A k (i+1)=aM B A k i++Wm.enc k[i]:=by
 simp only[aM,List.take_succ_eq_append_getElem hi,jP,Wm.encAll,List.append_nil,List.append_assoc]
theorem CV{B A:Nat}{k:f7}(i:Nat)(h:k.length≤64):(aM B A k i).length≤670:=by
 have e:=Wm.enc_len B;have d:=Wm.enc_len A;have c:=Wm.enc_len k.length;have b:=sS (k.take i);have a:(k.take i).length≤64:=by simp;omega
 simp only[aM,List.length_append];omega
def MN(m:Mk)(w:d9)(e:Ending)(w':d9):Prop:=
 ∃v,e= .returned (.tuple #[v,.int .i64 ((J1 m).2:Nat)])∧w'.ownsRow w.heap.size 5 1 v (J1 m).1.length ((ib (J1 m).1).map (Value.int .u8))∧f8 w w'
theorem DT{m:Mk}{w w':d9}(h:o4 m=false)(hb:f8 w w'):MN m w (.returned (.tuple #[.slice none 0 0,.int .i64 1])) w':=by
 have e:J1 m=([],1):=by simp[J1,h]
 exact⟨_,by rw[e];rfl,by rw[e];exact⟨rfl,.inl ⟨rfl,rfl⟩⟩,hb⟩
def Ew(B A:Nat)(k:f7)(w:d9)(v iv:Value)(wr:d9):Prop:=
 ∃i:Nat,iv= .int .i64 i∧i≤k.length∧wr.ownsRow w.heap.size 5 1 v (aM B A k i).length ((ib (aM B A k i)).map (Value.int .u8))∧f8 w wr
theorem SU{B A:Nat}{k:f7}{i:Nat}{w w5 w6:d9}{v v':Value}(hi:i<k.length)(hbel:f8 w w5)(ho5:w5.ownsRow w.heap.size 5 1 v (aM B A k i).length ((ib (aM B A k i)).map (Value.int .u8)))
  (ho:w6.ownsRow w.heap.size 5 1 v' ((aM B A k i).length+(ib (Wm.enc k[i])).length) ((ib (aM B A k i)).map (Value.int .u8)++(ib (Wm.enc k[i])).map (Value.int .u8))) (hg:w5.grownBy w6 v.ownBlock):Ew B A k w v' (.int .i64 ((i:Int)+1)) w6:=by
 refine⟨i+1,rfl,hi,?_,hbel.trans (g9 ho5 hg hbel.size)⟩;rw[vC hi,List.length_append,o7,List.map_append];rw[i8]at ho;exact ho
def ZT(B A:Nat)(k:f7)(ao:Option Addr)(n cap:Nat)(w:d9)(v iv:Value)(wr:d9):Prop:=
 ∃i:Nat,iv= .int .i64 i∧i≤k.length∧wr.ownsRow (w.heap.size+1) 5 1 v (aM B A k i).length ((ib (aM B A k i)).map (Value.int .u8))∧MB wr w.heap.size B A (.slice ao n cap)∧f8 w wr
theorem MB.belowB{w w':d9}{P S:Nat}{b a:Int}{v:Value}(h:MB w P b a v)(hb:Below S w w')(hl:P<S):MB w' P b a v:=
 ⟨by rw[hb.cell (p:=⟨P,0,none⟩) hl];exact h.c0,by rw[hb.cell (p:=⟨P,1,none⟩) hl];exact h.c1,by rw[hb.cell (p:=⟨P,2,none⟩) hl];exact h.c2,fun j=>by rw[hb.frozen (p:=⟨P,j,none⟩) hl];exact h.z j⟩
theorem XR{w:d9}{v:Value}{k:f7}(h:Kv w v k)(b a:Int)(hs:o4 ⟨b,a,k⟩=false):Calls Tryz.prog 85 #[.agg #[.int .i64 b,.int .i64 a,v]] w (MN ⟨b,a,k⟩ w):=by
 have HB:c6 (f8 w (w.alloc (Obj.cells #[.int .i64 b,.int .i64 a,v] 62))):=a8 _ _;have HV:c6 (Kv (w.alloc (Obj.cells #[.int .i64 b,.int .i64 a,v] 62)) v k):=h.below (a8 _ _);clear h;go_in;go_wp2_with fail;refine(gH HV.o b a).mono ?_;rw[hs];rintro e d ⟨rfl,c⟩;go_wp2_with fail;go_ret2;exact DT hs (a9 HB.o c)
theorem RH{w:d9}{v:Value}{k:f7}(h:Kv w v k)(b a:Int)(hs:o4 ⟨b,a,k⟩=false):Calls Tryz.prog 45 #[.agg #[.int .i64 b,.int .i64 a,v]] w (MN ⟨b,a,k⟩ w):=by
 have HB:c6 (f8 w (w.alloc (Obj.cells #[.int .i64 b,.int .i64 a,v] 62))):=a8 _ _;have HV:c6 (Kv (w.alloc (Obj.cells #[.int .i64 b,.int .i64 a,v] 62)) v k):=h.below (a8 _ _);clear h;go_in;go_wp2_with fail;refine(gN HV.o b a).mono ?_;rw[hs];rintro e d ⟨rfl,c⟩;go_wp2_with fail;go_ret2;exact DT hs (a9 HB.o c)
theorem SZ{w:d9}{k:f7}{ao:Option Addr}{n cap:Nat}(h:Kv w (.slice ao n cap) k)(hn:n=k.length)(hok:B9 k)(b a:Int)(hs:o4 ⟨b,a,k⟩=true):
  Calls Tryz.prog 85 #[.agg #[.int .i64 b,.int .i64 a,.slice ao n cap]] w (MN ⟨b,a,k⟩ w):=by
 have k0:=b9 h;have F0:c6 (B9 k):=hok;have L:c6 (f8 w (w.alloc (Obj.cells #[.int .i64 b,.int .i64 a,.slice ao n cap] 62))):=a8 _ _;have n0:c6 (MB (w.alloc (Obj.cells #[.int .i64 b,.int .i64 a,.slice ao n cap] 62)) w.heap.size b a (.slice ao n cap)):=A9 w b a _;have HS:c6 (o4 ⟨b,a,k⟩=true):=hs;have hp:=G6 hs;simp only at hp;have HN:c6 (n=k.length):=hn;obtain⟨B,hB⟩: ∃B:Nat,b=B:=⟨b.toNat,by omega⟩;obtain⟨A,hA⟩: ∃A:Nat,a=A:=⟨a.toNat,by omega⟩;subst hB hA;have p0:c6 (B<18446744073709551616):=by show _<_;omega
 have r0:c6 (A<18446744073709551616):=by show _<_;omega
 have m0:c6 (n<18446744073709551616):=by show _<_;omega
 have H0:c6 (n≤64):=by show _≤_;omega
 have x0:IntKind.u64.wrap (B:Int)=(B:Int):=p8 (by omega) (by omega);have y0:IntKind.u64.wrap (A:Int)=(A:Int):=p8 (by omega) (by omega);have w0:IntKind.u64.wrap (n:Int)=(n:Int):=p8 (by omega) (by omega);have I0:(n:Int)≤64:=by omega
 have D0:c6 ((Wm.enc B++(Wm.enc A++Wm.enc n)).length≤140737488355328):=by
  have h1:=Wm.enc_len B;have h2:=Wm.enc_len A;have h3:=Wm.enc_len n;show _≤_;simp only[List.length_append];omega
 have u:c6 (J1 ⟨B,A,k⟩=(aM B A k k.length,0)):=by show _=_;unfold J1;rw[if_pos hs,CW];simp[W5]
 clear h hok hs hn hp;go_in;go_wp2_with fail;refine(gH (k0.o.below L.o) B A).mono ?_;rw[HS.o];rintro e N ⟨rfl,H⟩;have J:=b9 (a9 L.o H);have r:=b9 (n0.o.keep H);clear H n0 L;go_upto_region 3 with fail
 have j0: ∀wx,f8 N wx→wx.cell? ⟨w.heap.size,0,none⟩=some (.int .i64 B):=fun wx h=>(r.o.keep h).c0;have j1: ∀wx,f8 N wx→wx.cell? ⟨w.heap.size,1,none⟩=some (.int .i64 A):=fun wx h=>(r.o.keep h).c1;have j2: ∀wx,f8 N wx→wx.cell? ⟨w.heap.size,2,none⟩=some (.slice ao n cap):=fun wx h=>(r.o.keep h).c2;refine wp_region_noPanic ?_;refine wp_region_held_drew (S:=fun wx=>f8 N wx) (by kernel_rfl) ?_ fun c=>?_
 ·exact(Below.refl _ _).drew
 refine g6 0 10 rfl c ?_;refine g6 1 11 rfl c ?_;refine g6 2 12 rfl c ?_;refine g6 4 14 rfl c ?_;refine g6 5 15 rfl c ?_;refine g6 6 16 rfl c ?_;refine g6 8 18 rfl c ?_;refine g6 9 19 rfl c ?_;refine g6 10 20 rfl c ?_;refine g6 11 21 rfl c ?_;refine C7 3 13 rfl fun K l=>?_;go_simp;refine(B8 B p0.o _).mono ?_;rintro e v0 ⟨y1,rfl,f0,d⟩;have j:Bv v0 y1 (Wm.enc B):=p7 f0 (Wm.enc_lt _ p0.o);have f:=a9 c d;obtain⟨Z,W,Q,rfl⟩:=r8 j;clear d c f0;go_simp;refine l.out _ _ ?_ fun c=>?_
 ·exact f
 clear l K;try simp only[Act.put,zz]
 refine C7 7 17 rfl fun K l=>?_;go_simp;refine(B8 A r0.o _).mono ?_;rintro e t0 ⟨y2,rfl,d0,d⟩;have q:Bv t0 y2 (Wm.enc A):=p7 d0 (Wm.enc_lt _ r0.o);have j:=j.below d;have f:=a9 c d;obtain⟨Y,U,P,rfl⟩:=r8 q;clear d c d0;go_simp;refine l.out _ _ ?_ fun c=>?_
 ·exact f
 clear l K;try simp only[Act.put,zz]
 refine C7 12 22 rfl fun K l=>?_;go_simp;refine(B8 n m0.o _).mono ?_;rintro e C ⟨y3,rfl,b0,d⟩;have F:Bv C y3 (Wm.enc n):=p7 b0 (Wm.enc_lt _ m0.o);have j:=j.below d;have q:=q.below d;have f:=a9 c d;obtain⟨X,T,O,rfl⟩:=r8 F;clear d c b0;go_simp;refine l.out _ _ ?_ fun c=>?_
 ·exact f
 clear l K;try simp only[Act.put,zz]
 refine C7 13 23 rfl fun K l=>?_;go_simp;have hP:=WG 75 j q F;have f:f8 N (C.alloc (Obj.cells #[.slice Z W Q,.slice Y U P,.slice X T O] 75)):=a9 c (a8 _ _);clear c j q F;generalize C.alloc (Obj.cells #[.slice Z W Q,.slice Y U P,.slice X T O] 75)=wp4 at hP f⊢;refine l.out _ _ ?_ fun c=>?_
 ·exact f
 clear l K;try simp only[Act.put,zz]
 refine C7 14 24 rfl fun K l=>?_;go_simp;refine(K5 hP (by rw[OT];exact D0.o)).mono ?_;rintro e w5 ⟨v5,rfl,D,d⟩;have i0:=c.size;have f:=a9 c d;clear d c hP;go_simp;refine l.out _ _ ?_ fun c=>?_
 ·exact f
 clear l K;try simp only[Act.put,zz]
 refine g6 15 4 rfl c ?_;refine wpAnyH_done (by kernel_rfl) ?_ _;refine NoPanic.normal ?_;have G0:=b9 (r.o.keep c)
 have I:c6 (Ew B A k w v5 (.int .i64 0) w5):=⟨0,rfl,by omega,by
  rw[vB,←HN.o];rw[OT]at D;exact q9 D (Nat.le_trans J.o.size i0),a9 J.o c⟩
 have k2:=G0.o.c2;have K0:=b9 (a9 J.o c);clear D i0 c j0 j1 j2 x0 y0 w0 r;by_cases h0:n=0
 ·have z0:k.length=0:=by have:=HN.o;omega
  subst h0;go_wp2_with fail;refine wp_loop_rounds 1 ?_;rw[rounds_succ];go_wp2_with fail;go_ret2;have hr:=I.o;obtain⟨i,hi,_,ho,hb⟩:=hr;have A0:i=0:=by simpa using hi.symm
  subst A0;exact⟨_,by rw[u.o];rfl,by rw[u.o,z0];exact ho,hb⟩
 ·obtain⟨y,koff,B0,m⟩: ∃y koff,ao=some ⟨y,koff,none⟩∧ ∀i,(hi:i<k.length)→w.cell? ⟨y,koff+i,none⟩=some (.int .u64 (k[i]:Nat)):=by
   rcases T2 k0.o with ⟨h1,_⟩|⟨y,koff,kc,e,_,_,_,hc⟩
   ·exact absurd (by have:=HN.o;rw[h1]at this;simpa using this) h0
   ·simp only[Value.slice.injEq]at e;exact⟨y,koff,e.1,hc⟩
  subst B0;have M:c6 (∀i,(hi:i<k.length)→w.cell? ⟨y,koff+i,none⟩=some (.int .u64 (k[i]:Nat))):=m;clear m h0;go_wp2_with fail;go_loopw [4,28] (fun v iv wr=>Ew B A k w v iv wr) (fun _ iv _=>k.length-(intOf iv).toNat)
  case atStart=>exact I.o
  case round=>
   clear I k2;obtain⟨i,rfl,J0,g,z⟩:=hrel;have HB:=b9 z;have s:=b9 g;clear z g;by_cases g0:i<k.length
   ·have s0:(i:Int)<(n:Int):=by have:=HN.o;omega
    have E:=M.o i g0;have hc:wr.cell? ⟨y,koff+i,none⟩=some (.int .u64 (k[i]:Nat)):=by rw[HB.o.cell (p:=⟨y,koff+i,none⟩) (c8 E)];exact E
    obtain⟨x,hx⟩: ∃x,k[i]=x:=⟨_,rfl⟩;rw[hx]at hc;have HX:c6 (k[i]=x):=hx;have C0:c6 (x<18446744073709551616):=by show _<_;rw[←hx];exact F0.o _ (List.getElem_mem _)
    clear hx E;go_wp2_with fail;refine(B8 x C0.o _).mono ?_;rintro e w6 ⟨y6,rfl,a0,G⟩;have HY:=b9 (z9 a0);have l0:c6 (w6.ownsRow w.heap.size 5 1 u4 (aM B A k i).length ((ib (aM B A k i)).map (Value.int .u8))):=j8 s.o G;have q0:=b9 (a9 HB.o G);obtain⟨ya,yn,yq,rfl⟩:=F2 HY.o
    have o0:c6 ((aM B A k i).length+(ib (Wm.enc x)).length≤700):=by
     have h1:=CV (B:=B) (A:=A) (k:=k) i (by have:=HN.o;have:=H0.o;omega);have h2:=Wm.enc_len x;show _≤_;rw[i8];omega
    clear a0 G s;go_upto_region 8 with (at_builtin;refine g7 (by rfl) (.tmp 32) (.tmp 34) 75 (by rfl) w.heap.size 5 .u8 1 Tryz.underlying75 t9 _ _ _ (by rfl) l0.o _ _ (by rfl) HY.o (by have:=o0.o;simp only[maxLen];omega) (by have:=o0.o;omega) q0.o.size ?_;intro v7 w7 g t)
    have R:c6 (Ew B A k w v7 (.int .i64 ((i:Int)+1)) w7):=SU g0 q0.o l0.o (by rw[HX.o];exact g) t;clear g t;go_wp2_with fail;go_roundw
    case rel=>exact R.o
    case measure=>simp[intOf];omega
   ·have s0: ¬(i:Int)<(n:Int):=by have:=HN.o;omega
    obtain rfl:i=k.length:=by omega
    go_wp2_with fail;go_ret2;exact⟨_,by rw[u.o];rfl,by rw[u.o];exact s.o,HB.o⟩
theorem SY{w:d9}{v:Value}{k:f7}(h:Kv w v k)(hok:B9 k)(b a:Int):Calls Tryz.prog 85 #[.agg #[.int .i64 b,.int .i64 a,v]] w (MN ⟨b,a,k⟩ w):=by
 cases hs:o4 ⟨b,a,k⟩
 ·exact XR h b a hs
 ·obtain⟨d,c,rfl,_⟩:=O7 h;exact SZ h rfl hok b a hs
theorem JT{w:d9}{k:f7}{ao:Option Addr}{n cap:Nat}(h:Kv w (.slice ao n cap) k)(hn:n=k.length)(hok:B9 k)(b a:Int)(hs:o4 ⟨b,a,k⟩=true):
  Calls Tryz.prog 45 #[.agg #[.int .i64 b,.int .i64 a,.slice ao n cap]] w (MN ⟨b,a,k⟩ w):=by
 have d0:=b9 h;have B0:c6 (B9 k):=hok;have T:c6 (f8 w (w.alloc (Obj.cells #[.int .i64 b,.int .i64 a,.slice ao n cap] 62))):=a8 _ _;have j0:c6 (MB (w.alloc (Obj.cells #[.int .i64 b,.int .i64 a,.slice ao n cap] 62)) w.heap.size b a (.slice ao n cap)):=A9 w b a _;have HS:c6 (o4 ⟨b,a,k⟩=true):=hs;have hp:=G6 hs;simp only at hp;have HN:c6 (n=k.length):=hn;obtain⟨B,hB⟩: ∃B:Nat,b=B:=⟨b.toNat,by omega⟩;obtain⟨A,hA⟩: ∃A:Nat,a=A:=⟨a.toNat,by omega⟩;subst hB hA;have D0:c6 (B<18446744073709551616):=by show _<_;omega
 have F0:c6 (A<18446744073709551616):=by show _<_;omega
 have C0:c6 (n<18446744073709551616):=by show _<_;omega
 have G0:c6 (n≤64):=by show _≤_;omega
 have x0:IntKind.u64.wrap (B:Int)=(B:Int):=p8 (by omega) (by omega);have y0:IntKind.u64.wrap (A:Int)=(A:Int):=p8 (by omega) (by omega);have w0:IntKind.u64.wrap (n:Int)=(n:Int):=p8 (by omega) (by omega);have H0:(n:Int)≤64:=by omega
 have P0:c6 ((Wm.enc B++(Wm.enc A++Wm.enc n)).length≤140737488355328):=by
  have W:=Wm.enc_len B;have h2:=Wm.enc_len A;have h3:=Wm.enc_len n;show _≤_;simp only[List.length_append];omega
 have m0:c6 (J1 ⟨B,A,k⟩=(aM B A k k.length,0)):=by show _=_;unfold J1;rw[if_pos hs,CW];simp[W5]
 clear h hok hs hn hp;go_in;go_wp2_with fail;refine(gN (d0.o.below T.o) B A).mono ?_;rw[HS.o];rintro e w2 ⟨rfl,G⟩;have t0:=b9 (a9 T.o G);have y:=b9 (j0.o.keep G);clear G j0 T;have k0:=y.o.c0;go_wp2_with fail;refine(D7 B D0.o _).mono ?_;rintro e w3 ⟨v3,rfl,a0,F⟩;have s0:=b9 (a9 t0.o F);have O:=b9 (y.o.keep F);have h0:c6 (w3.ownsRow (w.heap.size+1) 5 1 v3 (Wm.enc B).length ((ib (Wm.enc B)).map (Value.int .u8))):=q9 a0 (by have:=c8 y.o.c0;simp only at this;omega);clear F a0 k0 y t0;have k1:=O.o.c1;go_wp2_with fail;refine(D7 A F0.o _).mono ?_;rintro e w4 ⟨y4,rfl,Z,r⟩;have I:=b9 (z9 Z);have M:c6 (w4.ownsRow (w.heap.size+1) 5 1 v3 (Wm.enc B).length ((ib (Wm.enc B)).map (Value.int .u8))):=j8 h0.o r;have r0:=b9 (a9 s0.o r);have u:=b9 (O.o.keep r);obtain⟨N0,L0,J0,rfl⟩:=F2 I.o;have f:c6 ((Wm.enc B).length+(ib (Wm.enc A)).length≤700):=by have W:=Wm.enc_len B;have h2:=Wm.enc_len A;show _≤_;rw[i8];omega
 clear Z r k1 O s0 h0;go_upto_region 5 with (at_builtin;refine g7 (by rfl) (.tmp 13) (.tmp 17) 75 (by rfl) (w.heap.size+1) 5 .u8 1 Tryz.underlying75 t9 _ _ _ (by rfl) M.o _ _ (by rfl) I.o (by have:=f.o;simp only[maxLen];omega) (by have:=f.o;omega) (by have:=c8 u.o.c0;simp only at this;omega) ?_;intro v5 w5 c d)
 obtain⟨U,E⟩: ∃L,L=Wm.enc B++Wm.enc A:=⟨_,rfl⟩
 have g0:c6 (w5.ownsRow (w.heap.size+1) 5 1 v5 U.length ((ib U).map (Value.int .u8))):=by
  show World.ownsRow _ _ _ _ _ _ _;rw[E,List.length_append,o7,List.map_append,←i8 (Wm.enc A)];exact c
 have S:c6 (Below (w.heap.size+1) w4 w5):=g9 M.o d (by have:=c8 u.o.c0;simp only at this;omega);have q0:c6 (f8 w w5):=r0.o.trans (S.o.mono (by omega));have N:c6 (MB w5 w.heap.size B A (.slice ao n cap)):=u.o.belowB S.o (by omega);have l0:c6 (U=Wm.enc B++Wm.enc A):=E;clear c d E S u r0 M f I;have k2:=N.o.c2;go_wp2_with fail;refine(D7 n C0.o _).mono ?_;rintro e w6 ⟨y6,rfl,Y,q⟩;have H:c6 (Sv .u8 w6 y6 (ib (Wm.enc n))):=z9 Y;have K:c6 (w6.ownsRow (w.heap.size+1) 5 1 v5 U.length ((ib U).map (Value.int .u8))):=j8 g0.o q;have p0:=b9 (a9 q0.o q);have t:=b9 (N.o.keep q);obtain⟨M0,K0,I0,rfl⟩:=F2 H.o;have f:c6 (U.length+(ib (Wm.enc n)).length≤700):=by have W:=Wm.enc_len B;have h2:=Wm.enc_len A;have h3:=Wm.enc_len n;show _≤_;rw[l0.o,i8,List.length_append];omega
 clear Y q k2 N q0 g0;go_upto_region 6 with (at_builtin;refine g7 (by rfl) (.tmp 19) (.tmp 24) 75 (by rfl) (w.heap.size+1) 5 .u8 1 Tryz.underlying75 t9 _ _ _ (by rfl) K.o _ _ (by rfl) H.o (by have:=f.o;simp only[maxLen];omega) (by have:=f.o;omega) (by have:=c8 t.o.c0;simp only at this;omega) ?_;intro v7 w7 c d)
 have Q:c6 (Below (w.heap.size+1) w6 w7):=g9 K.o d (by have:=c8 t.o.c0;simp only at this;omega);have o0:c6 (f8 w w7):=p0.o.trans (Q.o.mono (by omega));have i0:c6 (MB w7 w.heap.size B A (.slice ao n cap)):=t.o.belowB Q.o (by omega)
 have f0:c6 (ZT B A k ao n cap w v7 (.int .i64 0) w7):=⟨0,rfl,by omega,by
  rw[vB,←HN.o,←List.append_assoc,←l0.o,List.length_append,o7,List.map_append,←i8 (Wm.enc n)];exact c,i0.o,o0.o⟩
 clear c d Q t p0 K f H o0 i0 x0 y0 w0;go_wp2_with fail;go_loopw [4,5] (fun v iv wr=>ZT B A k ao n cap w v iv wr) (fun _ iv _=>k.length-(intOf iv).toNat)
 case atStart=>exact f0.o
 case round=>
  clear f0;obtain⟨i,rfl,O0,c,b0,C⟩:=hrel;have HB:=b9 C;have HM:=b9 b0;have l:=b9 c;clear C c b0;have k2:=HM.o.c2;by_cases j:i<k.length
  ·have v0:(i:Int)<(n:Int):=by have:=HN.o;omega
   obtain⟨z,koff,z0,g⟩: ∃z koff,ao=some ⟨z,koff,none⟩∧ ∀i,(hi:i<k.length)→w.cell? ⟨z,koff+i,none⟩=some (.int .u64 (k[i]:Nat)):=by
    rcases T2 d0.o with ⟨W,_⟩|⟨z,koff,kc,e,_,_,_,hc⟩
    ·rw[W]at j;simp at j
    ·simp only[Value.slice.injEq]at e;exact⟨z,koff,e.1,hc⟩
   subst z0;have D:=g i j;have hc:wr.cell? ⟨z,koff+i,none⟩=some (.int .u64 (k[i]:Nat)):=by rw[HB.o.cell (p:=⟨z,koff+i,none⟩) (c8 D)];exact D
   obtain⟨x,hx⟩: ∃x,k[i]=x:=⟨_,rfl⟩;rw[hx]at hc;have HX:c6 (k[i]=x):=hx;have A0:c6 (x<18446744073709551616):=by show _<_;rw[←hx];exact B0.o _ (List.getElem_mem _)
   clear hx D g;go_wp2_with fail;refine(D7 x A0.o _).mono ?_;rintro e w8 ⟨y8,rfl,X,m⟩;have HY:c6 (Sv .u8 w8 y8 (ib (Wm.enc x))):=z9 X;have J:c6 (w8.ownsRow (w.heap.size+1) 5 1 u4 (aM B A k i).length ((ib (aM B A k i)).map (Value.int .u8))):=j8 l.o m;have n0:=b9 (a9 HB.o m);have s:=b9 (HM.o.keep m);obtain⟨ya,yn,yq,rfl⟩:=F2 HY.o
   have f:c6 ((aM B A k i).length+(ib (Wm.enc x)).length≤700):=by
    have W:=CV (B:=B) (A:=A) (k:=k) i (by have:=HN.o;have:=G0.o;omega);have h2:=Wm.enc_len x;show _≤_;rw[i8];omega
   clear X m l hc k2 HM HB;go_upto_region 8 with (at_builtin;refine g7 (by rfl) (.tmp 33) (.tmp 39) 75 (by rfl) (w.heap.size+1) 5 .u8 1 Tryz.underlying75 t9 _ _ _ (by rfl) J.o _ _ (by rfl) HY.o (by have:=f.o;simp only[maxLen];omega) (by have:=f.o;omega) (by have:=c8 s.o.c0;simp only at this;omega) ?_;intro v9 w9 c d)
   have P:c6 (Below (w.heap.size+1) w8 w9):=g9 J.o d (by have:=c8 s.o.c0;simp only at this;omega)
   have R:c6 (ZT B A k (some ⟨z,koff,none⟩) n cap w v9 (.int .i64 ((i:Int)+1)) w9):=⟨i+1,rfl,j,by
    rw[vC j,List.length_append,o7,List.map_append,HX.o,←i8 (Wm.enc x)];exact c,s.o.belowB P.o (by omega),n0.o.trans (P.o.mono (by omega))⟩
   clear c d P s n0 J;go_wp2_with fail;go_roundw
   case rel=>exact R.o
   case measure=>simp[intOf];omega
  ·have v0: ¬(i:Int)<(n:Int):=by have:=HN.o;omega
   obtain rfl:i=k.length:=by omega
   go_wp2_with fail;go_ret2;exact⟨_,by rw[m0.o];rfl,by rw[m0.o];exact q9 l.o (by omega),HB.o⟩
theorem rK{w:d9}{v:Value}{k:f7}(h:Kv w v k)(hok:B9 k)(b a:Int):Calls Tryz.prog 45 #[.agg #[.int .i64 b,.int .i64 a,v]] w (MN ⟨b,a,k⟩ w):=by
 cases hs:o4 ⟨b,a,k⟩
 ·exact RH h b a hs
 ·obtain⟨d,c,rfl,_⟩:=O7 h;exact JT h rfl hok b a hs
end Go.Proofs.YtfhoilcbhmeofaaGreat
