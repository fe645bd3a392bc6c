/- Pages that change all or none: what laying does to the disk, what Put does to a book that is right, what Open finds. Nothing is walked here. -/
import Derived.Test.YtfhoilcbhmeofaaGreatB16
set_option maxRecDepth 100000
set_option maxHeartbeats 16000000
namespace Go.Proofs.YtfhoilcbhmeofaaGreat
open Go.RowKit
section
theorem BC{ops:Array Oper}{o:Oper}{a:Act}{w:d9}{K:Act→d9→Prop}{Q:Exit→Act→d9→Prop}{X:Prop}
  (hg:o.guard=none) (s x:Operand) (hop:o.op=Op.call {callee:=Callee.builtin Builtin.append,args:= #[s,x],argTypes:= #[79,79]})
  {base:Nat} (v:Value) (ps:List (Int × f7)) (hs:a.eval s=v) (hw:WL base w v ps)
  (q:Nat) (p:Int) (u:Value) (d:f7) (hx:a.eval x= .slice (some ⟨q,0,none⟩) 1 1) (h0:w.cell? ⟨q,0,none⟩=some (.int .i64 p)) (h1:w.cell? ⟨q,1,none⟩=some u) (hu:w.ownsRow base 5 1 u d.length (cb d)) (hd: ∀c∈d,c<256) (hp:0≤p∧p<8) (hn:ps.length≤16) (hbase:base≤w.heap.size)
  (hK: ∀v' w',WL base w' v' (ps++[(p,d)])→Below base w w'→K (a.put o.dst v') w'):
  if Region.wanted o (yielded ops a.tmps)=true then Oper.wp Tryz.prog o a w K Q else X:=by
 have k:Region.wanted o (yielded ops a.tmps)=true:=by simp[Region.wanted,hg]
 rw[if_pos k];obtain⟨i0,C,i,h,f⟩:=aY EN
 have l:u.oneCell'=true:=by
  rcases hu.2 with ⟨rfl,_⟩|⟨g,F,cur,rfl,_⟩<;>rfl
 obtain⟨qs,B,m,A,z⟩:=id hw
 obtain⟨v',w',e,t,r,_,_⟩:=run_append_own_at (P:=Tryz.prog) w base 79 o.type 77 i0 (.agg #[.int .i64 0,.slice none 0 0]) 2 32 Tryz.underlying79 C i h f rfl (by decide) v ps.length (eD qs) m ⟨q,0,none⟩ 1 1 [.int .i64 p,u] rfl (fun j y b=>by
  match j,b with
  |0,b=>simp at b;subst b;simpa[Addr.add]using h0
  |1,b=>simp at b;subst b;simpa[Addr.add]using h1) (fun y n=>by simp at n;rcases n with rfl|rfl;rfl;exact l) (by simp only[maxLen];omega) (by omega) hbase
 unfold Oper.wp;simp[execOp,hop,resolve,invoke,builtin,hs,hx,e,Result.andThen];obtain⟨E,D⟩:=UP hw B m A z hu hd hp hbase t r;exact hK v' w' E D
theorem iK{base:Nat}{w:d9}{v:Value}{ps:List (Int × f7)}(h:WL base w v ps): ∃x y z,v= .slice x y z:=by
 obtain⟨qs,c,a,_⟩:=h;rcases a.2 with ⟨rfl,_⟩|⟨g,b,cur,rfl,_⟩
 ·exact⟨_,_,_,rfl⟩
 ·exact⟨_,_,_,rfl⟩
theorem cY{D:n9}{w w':d9}{v:Value}{l:f7}(h:Kv w v l)(hc:Ch D w w')(hd:l≠[]→ ∀x,v.ownBlock=some x→ ¬D x):Kv w' v l:=by
 obtain⟨o,c,e,m,k,j,g⟩:=h;refine⟨o,c,e,m,k,j,fun i d=>?_⟩;obtain⟨b,a,f,n⟩:=g i d;exact⟨b,a,f,hc.cell n (hd (fun q=>by subst q;simp[ib]at d) b (by rw[e,f];rfl))⟩
theorem Gx(Ls:List (List Cl))(ks:f7)(mb b:Int):(UE Ls ks mb b).length≤6:=by
 unfold UE
 split
 ·exact AB _ _ 6
 ·simp
theorem Ee{w w6 w8 w9:d9}(h:f8 w6 w8)(h':Below w.heap.size w8 w9):Ch (fun x=>w.heap.size≤x) w6 w9:=
 (Ch.of_below h).self ⟨h'.os,h'.tape,h'.output,h'.size,fun k hk hn=>h'.block k (by omega)⟩
theorem Cs{P:Bo}{S S':Dk}{ps:List (Int × f7)}{t:f7}{B:Nat}(hk:P.ok B)(hB:B≤64)(hf:x9 P.tab.length ps=0)(hl:D4 P.tab ps 1 P.tab S=(some t,S')):t.length=P.tab.length:=
 (KV hk hB (eG ps [] hf).1 hl).2
theorem dU{P:Bo}{S:Dk}{ps:List (Int × f7)}{B:Nat}(hk:P.ok B)(hB:B≤64):(A5 P S ps).2.1.tab.length=P.tab.length:=by
 unfold A5
 split
 ·rfl
 ·split
  ·rfl
  ·rename_i b
   split
   ·rfl
   ·split
    ·rfl
    ·split
     ·rfl
     ·rename_i t S' a
      split
      ·exact Cs hk hB (Classical.not_not.1 b) a
      ·rfl
def M0(m:Mk)(b a:Int)(ks:f7):Option Int:=
 if B6 b a=false∨64<ks.length∨K1 ks=false then some 1
 else if M9 m.b m.a b a=130 then some 130
 else if M9 m.b m.a b a=0 then some (if ks=m.k then 0 else 93)
 else if m.b+1<b then some 131 else none
theorem nQ{m:Mk}{b a:Int}{ks:f7}(h:B6 b a=false∨64<ks.length∨K1 ks=false):M0 m b a ks=some 1:=by unfold M0;rw[if_pos h]
theorem AF{m:Mk}{b a:Int}{ks:f7}(h: ¬(B6 b a=false∨64<ks.length∨K1 ks=false))(hj:M9 m.b m.a b a=130):M0 m b a ks=some 130:=by unfold M0;rw[if_neg h,if_pos hj]
theorem GX{m:Mk}{b a:Int}{ks:f7}(h: ¬(B6 b a=false∨64<ks.length∨K1 ks=false))(hj:M9 m.b m.a b a=0):M0 m b a ks=some (if ks=m.k then 0 else 93):=by unfold M0;rw[if_neg h,if_neg (by omega),if_pos hj]
theorem wP{m:Mk}{b a:Int}{ks:f7}(h: ¬(B6 b a=false∨64<ks.length∨K1 ks=false))(hj:M9 m.b m.a b a≠130)(hj0:M9 m.b m.a b a≠0)(hb:m.b+1<b):M0 m b a ks=some 131:=by unfold M0;rw[if_neg h,if_neg hj,if_neg hj0,if_pos hb]
theorem GY{m:Mk}{b a:Int}{ks:f7}(h: ¬(B6 b a=false∨64<ks.length∨K1 ks=false))(hj:M9 m.b m.a b a≠130)(hj0:M9 m.b m.a b a≠0)(hb: ¬m.b+1<b):M0 m b a ks=none:=by unfold M0;rw[if_neg h,if_neg hj,if_neg hj0,if_neg hb]
def dF(Ls:List (List Cl))(m:Mk)(b a:Int)(ks:f7):List (Int × f7):=UE Ls m.k m.b b++[(0,(J1 ⟨b,a,ks⟩).1)]
section

variable{A:n9}{w w1:d9}{sv dv:Value}{k:Int}{P:Bo}{S:Dk}{sp:Nat}

theorem ST.high(h:ST A w (.pointer (some ⟨sp,0,none⟩)) dv k P S){E:n9}(hc:Ch E w w1)(hA: ∀x,A x→ ¬E x)(hs: ¬E sp):ST A w1 (.pointer (some ⟨sp,0,none⟩)) dv k P S:=by
 obtain⟨sp',g,e,a,f,d,c⟩:=h
 cases e
 have b:=(Array.getElem?_eq_some_iff.1 a).1;exact⟨sp,g,rfl,by rw[hc.block sp b hs];exact a,f,d.ch hc hA,c⟩
theorem ST.b64(h:ST A w sv dv k P S):S.bl.length≤64:=by
 obtain⟨sp,j,e,g,f,⟨D,c,b,i,a⟩,d⟩:=h;exact a.dsk.good.n64
def Mj(A:n9)(w:d9)(sv dv:Value)(k:Int)(P:Bo)(S:Dk)(m:Mk)(Ls:List (List Cl))(b a:Int)(ks:f7)(e:Ending)(w':d9):Prop:=
 (i6 P S=true∧ ∃S',e= .returned (.int .i64 80)∧ST A w' sv dv k (J6 P) S'∧F0 8 S S'∧Ch A w w')∨
 (i6 P S=false∧ ∃c S',M0 m b a ks=some c∧e= .returned (.int .i64 c)∧ST A w' sv dv k P S'∧F0 8 S S'∧Ch A w w')∨
 (i6 P S=false∧M0 m b a ks=none∧ ∃S' A',F0 8 S S'∧e= .returned (.int .i64 (A5 P S' (dF Ls m b a ks)).1)∧ST A' w' sv dv k (A5 P S' (dF Ls m b a ks)).2.1 (A5 P S' (dF Ls m b a ks)).2.2∧(∀x,A' x→A x∨w.heap.size≤x)∧Ch A w w')
theorem kZ(h:ST A w sv dv k P S){m:Mk}{Ls:List (List Cl)}(hM:i6 P S=false→B7 (A0 P S 0)=(m,0))(hD:i6 P S=false→C8 P S 6=some Ls)(hrd:S.rd<4611686018427387000)(hwr:S.wr<4611686018427387000){kv:Value}{ks:f7}(hk:Kv w kv ks)(hok:B9 ks)(hkA:ks≠[]→ ∀x,kv.ownBlock=some x→ ¬A x)(b a:Int):
  Calls Tryz.prog 25 #[sv,.int .i64 b,.int .i64 a,kv] w (Mj A w sv dv k P S m Ls b a ks):=by
 have HM:=b9 hM;have HD:=b9 hD;have f1:=b9 hrd;have a2:=b9 hwr;have g2:=b9 h.ok.1;have p2:=b9 h.b64;have n2:=b9 (sK h);obtain⟨sp,W1,Q0,X1⟩:=h.ptr;subst W1;have a0:c6 (∀x,A x→x<w.heap.size):=fun x hx=>h.lt hx;have Y:=b9 Q0;have d2:=b9 h;have i1:=b9 hok;have l2:=b9 hk;have o1:=b9 hkA;obtain⟨ka,kc,S0,_,_⟩:=O7 hk;obtain⟨kn,v0⟩:=c7 ks.length;rw[←v0]at S0;subst S0;have n1:=b9 v0;clear h hM hD hrd hwr hk hok hkA Q0 X1 v0;go_in;go_wp2_with fail;refine(X6 d2.o (by have:=f1.o;omega)).mono ?_;rintro e w1 ⟨c,m',ov,H,rfl,r,hcase,hst1,j,l⟩
 cases hs:i6 P S
 rotate_left
 ·have hc:c=80∧m'=C1:=by
   rcases hcase with ⟨h1,_,h3⟩|⟨_,i,_⟩|⟨_,i,_⟩
   ·exact⟨h1,h3⟩
   ·rw[hs]at i;cases i
   ·rw[hs]at i;cases i
  obtain⟨rfl,rfl⟩:=hc;have HS:=b9 hs;have i0:c6 (ST A w1 (.pointer (some ⟨sp,0,none⟩)) dv k (J6 P) H):=by have h:=hst1;unfold fW at h;rw[if_pos hs]at h;exact h
  have g:=b9 j;have o0:=b9 l;obtain⟨oa,on,oc,t0⟩: ∃x y z,ov= .slice x y z:=by obtain⟨x,z,e⟩:=y9 r;exact⟨x,_,z,e⟩
  subst t0;clear r hcase hst1 j l hs;go_wp2_with fail;go_ret;exact .inl ⟨HS.o,H,rfl,i0.o.below (a8 _ _),g.o.mono (by omega),o0.o.self (Ch.of_below (a8 _ _))⟩
 have HS:=b9 hs
 have hc:c=0∧m'=m:=by
  rcases hcase with ⟨_,i,_⟩|⟨_,_,i,_⟩|⟨h1,_,i⟩
  ·rw[hs]at i;cases i
  ·rw[HM.o hs]at i;exact absurd rfl i
  ·rw[HM.o hs]at i;cases i;exact⟨h1,rfl⟩
 obtain⟨rfl,rfl⟩:=hc;rw[F5 hs]at hst1;have i0:=b9 hst1;have g:=b9 j;have o0:=b9 l;have l1:=b9 (z9 r);have i2:c6 (∀x,ov.ownBlock=some x→ ¬A x):=fun x hx e=>by have h1:=(r.lt x hx).1;have i:=a0.o x e;omega
 have q1:=b9 (cY l2.o l o1.o);have U:=(kJ (n2.o 0) (by rw[HM.o hs])).1;rw[HM.o hs]at U;have R0:0≤m'.b∧m'.b≤1099511627776:=by have h:=G6 U;exact⟨h.1,h.2.1⟩
 have m1:=b9 R0;obtain⟨oa,on,oc,t0⟩: ∃x y z,ov= .slice x y z:=by obtain⟨x,z,e⟩:=y9 r;exact⟨x,_,z,e⟩
 subst t0;clear r hcase hst1 j l hs U R0;go_upto_region 2 with fail
 have F:c6 (f8 w1 (w1.alloc (Obj.cells #[.int .i64 m'.b,.int .i64 m'.a,.slice oa on oc] 62))):=a8 _ _;have k0:c6 _:=A9 w1 m'.b m'.a (.slice oa on oc);generalize w1.heap.size=T9 at k0⊢;generalize w1.alloc (Obj.cells #[.int .i64 m'.b,.int .i64 m'.a,.slice oa on oc] 62)=w2 at F k0⊢;have h0:=b9 (i0.o.below F.o);have n0:=b9 (o0.o.self (Ch.of_below F.o));have k1:=b9 (l1.o.below F.o);have J0:=b9 (q1.o.below F.o);clear i0 o0 l1 q1 F;obtain⟨C,hC⟩:=c7 (B6 b a);have L0:=b9 hC;clear hC;go_wp2_with fail;refine(wJ b a _).mono ?_;rw[←L0.o];rintro e w3 ⟨rfl,s0⟩;replace s0:=s0.symm;subst s0
 cases C
 ·have f:c6 (M0 m' b a ks=some 1):=nQ (.inl L0.o.symm);go_wp2_with fail;go_ret;exact .inr (.inl ⟨HS.o,1,H,f.o,rfl,h0.o,g.o.mono (by omega),n0.o⟩)
 by_cases g0:64<kn
 ·have H1:(64:Int)<(kn:Int):=by omega
  have f:c6 (M0 m' b a ks=some 1):=nQ (.inr (.inl (by rw[←n1.o];exact g0)));clear g0;go_wp2_with fail;go_ret;exact .inr (.inl ⟨HS.o,1,H,f.o,rfl,h0.o,g.o.mono (by omega),n0.o⟩)
 have H1: ¬(64:Int)<(kn:Int):=by omega
 have Q1:c6 (¬64<ks.length):=by show¬_;rw[←n1.o];exact g0
 clear g0;obtain⟨R,hR⟩:=c7 (K1 ks);have D0:=b9 hR;clear hR;go_wp2_with fail;refine(BX J0.o).mono ?_;rw[←D0.o];rintro e w3 ⟨rfl,u⟩;have C0:=b9 (h0.o.below u);have N0:=b9 (n0.o.self (Ch.of_below u));have j1:=b9 (k1.o.below u);have p1:=b9 (J0.o.below u);have N:c6 _:=k0.o.keep u;clear u h0 n0 k1 J0 k0
 cases R
 ·have f:c6 (M0 m' b a ks=some 1):=nQ (.inr (.inr D0.o.symm));go_wp2_with fail;go_ret;exact .inr (.inl ⟨HS.o,1,H,f.o,rfl,C0.o,g.o.mono (by omega),N0.o⟩)
 have l0:c6 (¬(B6 b a=false∨64<ks.length∨K1 ks=false)):=by
  rintro(h|h|h)
  ·rw[←L0.o]at h;cases h
  ·exact Q1.o h
  ·rw[←D0.o]at h;cases h
 obtain⟨J,hJ⟩:=c7 (M9 m'.b m'.a b a);have HJ:=b9 hJ;clear hJ;have y0:=N.o.c0;have y1:=N.o.c1;have y2:=N.o.c2;go_wp2_with fail;refine(sG m'.b m'.a b a _).mono ?_;rw[←HJ.o];rintro e w4 ⟨rfl,s⟩;have L:=b9 (C0.o.below s);have v:=b9 (N0.o.self (Ch.of_below s));have G0:=b9 (j1.o.below s);have I0:=b9 (p1.o.below s);have M:c6 _:=N.o.keep s;clear s C0 N0 j1 p1 N y0 y1 y2;by_cases f0:J=130
 ·subst f0;have f:=b9 (AF l0.o HJ.o.symm);go_wp2_with fail;go_ret;exact .inr (.inl ⟨HS.o,130,H,f.o,rfl,L.o,g.o.mono (by omega),v.o⟩)
 have F1:((J:Int)==130)=false:=by rw[beq_eq_false_iff_ne];omega
 have s1:=b9 f0;by_cases w0:J=0
 ·subst w0;have f:=b9 (GX l0.o HJ.o.symm);have y2:=M.o.c2;clear f0 F1;go_wp2_with fail;refine(EF I0.o G0.o).mono ?_;rintro e w5 ⟨⟨t,rfl,ht⟩,z0⟩;have d1:=b9 (L.o.below z0);have x1:=b9 (v.o.self (Ch.of_below z0));have a1:=b9 ht;clear z0 ht y2
  cases t
  ·have Z:c6 (M0 m' b a ks=some 93):=by show _=_;rw[f.o,if_neg (fun e=>by have:=a1.o.2 e;cases this)]
   go_wp2_with fail;go_ret;exact .inr (.inl ⟨HS.o,93,H,Z.o,rfl,d1.o,g.o.mono (by omega),x1.o⟩)
  ·have Z:c6 (M0 m' b a ks=some 0):=by show _=_;rw[f.o,if_pos (a1.o.1 rfl)]
   go_wp2_with fail;go_ret;exact .inr (.inl ⟨HS.o,0,H,Z.o,rfl,d1.o,g.o.mono (by omega),x1.o⟩)
 have q2:((J:Int)==0)=false:=by rw[beq_eq_false_iff_ne];omega
 have r1:=b9 w0;clear f0 w0;have y0:=M.o.c0;have s2:IntKind.i64.wrap (m'.b+1)=m'.b+1:=by have:=m1.o;rw[IntKind.wrap_i64];omega
 by_cases x0:m'.b+1<b
 ·have f:=b9 (wP l0.o (by rw[←HJ.o];exact s1.o) (by rw[←HJ.o];exact r1.o) x0);go_wp2_with fail;go_ret;exact .inr (.inl ⟨HS.o,131,H,f.o,rfl,L.o,g.o.mono (by omega),v.o⟩)
 ·have f:=b9 (GY l0.o (by rw[←HJ.o];exact s1.o) (by rw[←HJ.o];exact r1.o) x0);have y1:=M.o.c1;have y2:=M.o.c2;have f2:c6 (i6 P H=false):=by show _=_;rw[C3 g.o];exact HS.o
  have m2:c6 (C8 P H 6=some Ls):=by show _=_;rw[dR g.o];exact HD.o HS.o
  go_wp2_with fail;refine(qW L.o f2.o m2.o (by have h1:=g.o.rd;have i:=f1.o;omega) G0.o i2.o m'.b m'.a b (by have:=m1.o;omega)).mono ?_;rintro e w6 ⟨lv,S6,rfl,Q,T,b0,W⟩;have O0:=b9 (Q.low v.o.size);have b1:=b9 T;have g1:c6 (F0 8 S S6):=(g.o.trans b0).mono (by omega);have v1:=b9 (v.o.self W);have P1:=b9 ((cY I0.o W o1.o).below (d8 w6 1));have j0:=b9 v1.o.size;have q0:c6 (sp<w6.heap.size):=by have h1:=Y.o;have i:=j0.o;show _<_;omega
  have I1:c6 (S6.wr<4611686018427387904):=by have h1:=g1.o.wr;have i:=a2.o;show _<_;omega
  obtain⟨bv,G1⟩: ∃bv,w6.cell? ⟨sp,0,none⟩=some bv∧ ∃pb,bv= .pointer (some ⟨pb,0,none⟩):=by
   obtain⟨sp',bv,e',I,B0,⟨D,pb,tv,e2,_⟩,Y0⟩:=T
   cases e'
   exact⟨bv,by rw[cell_of_row w6 sp 0 _ _ (0,0) I];rfl,pb,e2⟩
  obtain⟨V0,pb,rfl⟩:=G1;have n:=b9 V0;obtain⟨U1,R1,T1,D1⟩:=iK Q;subst D1;clear Q T b0 W y0 y1 y2 x0 V0 L v G0 I0 M;obtain⟨m,hm⟩:=c7 m';subst hm;have N1:=b9 O0.o;go_wp2_with fail;refine wp_region_noPanic ?_;refine wp_region_held_drew (S:=fun wx=>wx.cell? ⟨sp,0,none⟩=some (.pointer (some ⟨pb,0,none⟩))) (by kernel_rfl) ?_ fun d=>?_
  ·exact n.o
  refine g6 0 62 rfl d ?_;refine g6 1 63 rfl d ?_;refine g6 2 64 rfl d ?_;refine g6 3 65 rfl d ?_;refine g6 4 66 rfl d ?_;refine g6 5 67 rfl d ?_;refine g6 6 68 rfl d ?_;refine g6 7 69 rfl d ?_;refine g6 8 70 rfl d ?_;refine C7 9 71 rfl fun K G=>?_;go_simp;refine(hY (w:=w6.drew) P1.o i1.o b a).mono ?_;rintro e9 w7 ⟨v7,rfl,d0,W0⟩;obtain⟨E,hE⟩:=c7 (J1 ⟨b,a,ks⟩);rw[←hE]at d0;have HE:=b9 hE;have P0:c6 (∀c∈E.1,c<256):=by rw[hE];exact nB i1.o
  have A1:=b9 (a9 (d8 w6 1) W0);have k2:=b9 (q9 d0 j0.o);obtain⟨va,vn,vc,V1⟩: ∃x y z,v7= .slice x y z:=by obtain⟨x,z,e⟩:=y9 d0;exact⟨x,_,z,e⟩
  subst V1;clear d0 W0 hE;refine G.out _ _ ?_ fun d=>?_
  ·exact(by show World.cell? _ _=_;rw[A1.o.cell (p:=⟨sp,0,none⟩) q0.o];exact n.o)
  clear G K;try simp only[Act.put,zz]
  refine C7 10 72 rfl fun K G=>?_;go_simp;have p0:c6 (f8 w6 (w7.alloc (Obj.cells #[.int .i64 0,.slice va vn vc] 77))):=a9 A1.o (a8 _ _);have M1:=b9 (N1.o.below p0.o);have j2:c6 ((w7.alloc (Obj.cells #[.int .i64 0,.slice va vn vc] 77)).ownsRow w.heap.size 5 1 (.slice va vn vc) E.1.length (cb E.1)):=j8 k2.o (a8 _ _);refine G.out _ _ ?_ fun d=>?_
  ·exact(by show World.cell? _ _=_;rw[p0.o.cell (p:=⟨sp,0,none⟩) q0.o];exact n.o)
  clear G K;try simp only[Act.put,zz]
  refine C7 11 73 rfl fun K G=>?_;refine BC rfl (.tmp 66) (.tmp 72) rfl (base:=w.heap.size) (.slice U1 R1 T1) (UE Ls m.k m.b b) (by simp[Act.eval]) M1.o w7.heap.size 0 (.slice va vn vc) E.1 (by simp[Act.eval]) (by simp[go_sem]) (by simp[go_sem]) j2.o P0.o (by omega) (by have:=Gx Ls m.k m.b b;omega) (by have h1:=p0.o.size;have i:=j0.o;omega) ?_;intro v9 w9 O U0;have L1:=b9 O;have m0:=b9 (Ee p0.o U0);have b2:=b9 (b1.o.high m0.o (fun x hx e=>by have:=a0.o x hx;omega) (by have:=Y.o;omega));obtain⟨la,ln,lc,Y1⟩:=iK O;subst Y1;have H0:=b9 (m0.o.cell n.o (by have:=Y.o;simp only;omega));clear O U0;refine G.out _ _ ?_ fun d=>?_
  ·exact H0.o
  clear G K;try simp only[Act.put,zz]
  refine C7 12 74 rfl fun K G=>?_;go_simp;obtain⟨sp',bv',e',I,B0,Z0,Y0⟩:=b2.o
  cases e'
  have Z1:bv'= .pointer (some ⟨pb,0,none⟩):=by have h9:=H0.o;rw[cell_of_row w9 sp 0 _ _ (0,0) I]at h9;simpa using h9
  subst Z1;have t1:c6 _:=I;have K0:c6 _:=B0;refine(oA Z0 (L1.o.tx a0.o) I1.o).mono ?_;rintro e9 r2 ⟨rfl,⟨A',T0,X0⟩,X⟩;have o2:c6 _:=T0;have B1:=b9 X0;have r0:=b9 X;have O1:=b9 (X.cell H0.o K0.o);clear T0 X0 X I B0 Z0 Y0;refine G.out _ _ ?_ fun d=>?_
  ·exact O1.o
  clear G K;try simp only[Act.put,zz]
  refine g6 13 8 rfl d ?_;refine wpAnyH_done (by kernel_rfl) ?_ _;refine NoPanic.normal ?_;go_wp2_with fail;go_ret;have z1:dF Ls m b a ks=UE Ls m.k m.b b++[(0,E.1)]:=by unfold dF;rw[HE.o]
  refine .inr (.inr ⟨HS.o,f.o,S6,A',g1.o,by rw[z1];rfl,?_,fun x hx=>?_,?_⟩)
  ·rw[z1];have hl:=(Array.getElem?_eq_some_iff.1 t1.o).1
   exact⟨sp,_,rfl,by rw[r0.o.block sp hl K0.o];exact t1.o,fun e=>by
    rcases B1.o sp e with q|q
    ·exact K0.o q
    ·omega,o2.o,by
    rw[dU (B:=S.bl.length) g2.o p2.o];exact b1.o.ok.2⟩
  ·rcases B1.o x hx with q|q
   ·exact .inl q
   ·have h1:=m0.o.size;have i:=j0.o;right;omega
  ·exact(v1.o.trans m0.o (fun x hx=> .inr hx)).self r0.o
end
end
section
def L8(k:Int)(S:Dk):Int × Option Bo × Dk:=
 if s9 k=false then(1,none,S)else match F7 S 7 with
 |(c,none,S')=>(c,none,S')
 |(_,some P,S')=>if(A5 P S' [(0,(J1 C1).1)]).1≠0 then((A5 P S' [(0,(J1 C1).1)]).1,none,(A5 P S' [(0,(J1 C1).1)]).2.2)else(0,some (A5 P S' [(0,(J1 C1).1)]).2.1,(A5 P S' [(0,(J1 C1).1)]).2.2)
theorem vS{S S':Dk}{c:Int}{P:Bo}(h:F7 S 7=(c,some P,S')):c=0∧P=⟨1,R3 7,0,false⟩:=by
 unfold F7 at h
 split at h
 ·cases h
 ·split at h
  ·cases h
  ·split at h
   ·cases h
   ·split at h
    ·cases h
    ·cases h;exact⟨rfl,rfl⟩
theorem OQ(S:Dk):(F7 S 7).2.2.wr≤S.wr+2:=by
 have b:= @dJ S 1 [];have a:= @dJ (i7 S 1 []) 0 (k9 1 (R3 (7:Int).toNat));unfold F7
 split
 ·show S.wr≤_;omega
 ·split
  ·show S.wr≤_;omega
  ·split
   ·show(i7 S 1 []).wr≤_;omega
   ·split
    ·show(i7 _ _ _).wr≤_;omega
    ·show(i7 _ _ _).wr≤_;omega
theorem vT{S S':Dk}{c:Int}(h:F7 S 7=(c,none,S')):c≠0:=by
 unfold F7 at h
 split at h
 ·cases h;decide
 ·split at h
  ·cases h;decide
  ·split at h
   ·cases h;decide
   ·split at h
    ·cases h;decide
    ·cases h
theorem UO{base:Nat}{w:d9}{p:Int}{v:Value}{d:f7}(hv:w.ownsRow base 5 1 v d.length (cb d))(hd: ∀c∈d,c<256)(hp:0≤p∧p<8)(hb:base≤w.heap.size):
  WL base (w.alloc (Obj.cells #[.int .i64 p,v] 77)) (.slice (some ⟨w.heap.size,0,none⟩) 1 1) [(p,d)]:=by
 refine⟨[(p,v)],rfl,⟨rfl,.inr ⟨w.heap.size,1, #[.int .i64 p,v],rfl,hb,heap_alloc_new w _,Nat.le_refl _,by simp[maxLen],rfl,rfl⟩⟩,fun i b f=>?_,fun q a=>?_⟩
 ·have e:i=0:=by simp at b;omega
  subst e;exact⟨rfl,j8 hv (a8 _ _),hd⟩
 ·simp at a;subst a;exact hp
theorem pW:B9 C1.k:=by intro x a;simp[C1]at a
section

variable{D:n9}{w:d9}{dv:Value}{S:Dk}

def IL(D:n9)(w:d9)(dv:Value)(k:Int)(S:Dk)(e:Ending)(w':d9):Prop:=
 ∃v,e= .returned (.tuple #[v,.int .i64 (L8 k S).1])∧((L8 k S).2.1=none→v= .pointer none∧ ∃D',I9 89 D' w' dv (L8 k S).2.2∧ ∀x,D' x→D x∨w.heap.size≤x)∧
  (∀P,(L8 k S).2.1=some P→ ∃A' sp,v= .pointer (some ⟨sp,0,none⟩)∧w.heap.size≤sp∧ST A' w' v dv k P (L8 k S).2.2∧ ∀x,A' x→D x∨w.heap.size≤x)∧Ch D w w'
theorem YH{k c:Int}{S':Dk}{w':d9}{D':n9}(h:L8 k S=(c,none,S'))(hd:I9 89 D' w' dv S')(hD: ∀x,D' x→D x∨w.heap.size≤x)(hc:Ch D w w'):IL D w dv k S (.returned (.tuple #[.pointer none,.int .i64 c])) w':=by
 unfold IL;rw[h];exact⟨_,rfl,fun _=>⟨rfl,D',hd,hD⟩,fun P e=>(by cases e),hc⟩
theorem Bk.dsk{A:n9}{v:Value}{P:Bo}(h:BP A w v dv P S): ∃D',I9 89 D' w dv S∧ ∀x,D' x→A x:=by
 obtain⟨D',b,a,_⟩:=h.disk;exact⟨D',b,a⟩
theorem lP(h:I9 89 D w dv S)(k:Int)(hwr:S.wr<4611686018427387000):Calls Tryz.prog 5 #[dv,.int .i64 k] w (IL D w dv k S):=by
 have HD:=b9 h;have L:=b9 hwr;obtain⟨F,a0⟩: ∃F,dv= .pointer (some ⟨F,0,none⟩):=by obtain⟨F,gp,p0,e,_⟩:=h;exact⟨F,e⟩
 subst a0;obtain⟨K,hK⟩:=c7 (s9 k);have HK:=b9 hK;clear h hwr hK;go_in;go_wp2_with fail;refine(Z3 F k _).mono ?_;unfold RM;rw[←HK.o];rintro e n ⟨rfl,p⟩;replace p:=p.symm;subst p
 cases K
 ·have HF:c6 (L8 k S=(1,none,S)):=by show _=_;unfold L8;rw[if_pos HK.o.symm]
  go_wp2_with fail;go_ret2;exact YH HF.o HD.o (fun x i=> .inl i) (Ch.refl _ _)
 ·go_wp2_with fail;refine(EV HD.o 7 (by have:=L.o;omega)).mono ?_;obtain⟨c,o,m,X⟩: ∃c o m,F7 S 7=(c,o,m):=⟨_,_,_,rfl⟩;have HO:=b9 X;unfold Fm Ob;rw[X];rintro e n ⟨v1,rfl,s,d,j⟩;clear X
  cases o with
  |none=>
   obtain⟨rfl,D',G,I⟩:=s rfl;have o0:(c !=0)=true:=by rw[bne_iff_ne];exact vT HO.o
   have HF:c6 (L8 k S=(c,none,m)):=by show _=_;unfold L8;rw[if_neg (by rw[←HK.o];simp),HO.o]
   have k0:=b9 G;have HX:=b9 I;have l:=b9 j;clear s d G I j;go_wp2_with fail;go_ret2;exact YH HF.o k0.o HX.o l.o
  |some P=>
   obtain⟨rfl,hP⟩:=vS HO.o;obtain⟨A,b,hA⟩:=d P rfl;have l0:=b9 b;have HA:=b9 hA;have l:=b9 j;have h0:c6 (P.tab.length=7):=by rw[hP];rfl
   have g0:=b9 b.good
   have d0:c6 (m.wr<4611686018427387904):=by
    have C:=HO.o;have Y:=L.o;have h3:=OQ S;rw[C]at h3;show _<_;simp only at h3;omega
   have m0:c6 (∀x,A x→x<n.heap.size):=fun x i=>b.lt i;have f0:c6 (m.bl.length≤64):=by obtain⟨D',C,_⟩:=b.dsk;exact C.good.n64
   obtain⟨R,b0⟩: ∃R,v1= .pointer (some ⟨R,0,none⟩):=by obtain⟨D',R,tv,e,_⟩:=b;exact⟨R,e⟩
   subst b0;clear s d b hA j hP;go_wp2_with fail;refine(hY (Sv.nil .u64 n:Kv n (.slice none 0 0) []) pW 0 0).mono ?_;rintro e O ⟨v2,rfl,r,t⟩;obtain⟨E,U⟩:=c7 (J1 C1);have HE:=b9 U;have B:c6 (∀c∈E.1,c<256):=by rw[U];exact nB pW
   have j0:c6 (O.ownsRow n.heap.size 5 1 v2 E.1.length (cb E.1)):=by rw[U];exact r
   obtain⟨va,vn,vc,Z⟩: ∃x y z,v2= .slice x y z:=by obtain⟨x,z,e⟩:=y9 r;exact⟨x,_,z,e⟩
   subst Z;have c0:c6 (WL n.heap.size (O.alloc (Obj.cells #[.int .i64 0,.slice va vn vc] 77)) (.slice (some ⟨O.heap.size,0,none⟩) 1 1) [(0,E.1)]):=UO j0.o B.o (by omega) t.size;have v:c6 (f8 n (O.alloc (Obj.cells #[.int .i64 0,.slice va vn vc] 77))):=a9 t (a8 _ _);clear r t U;go_wp2_with fail;refine(oA (l0.o.below v.o) (c0.o.tx m0.o) d0.o).mono ?_;rintro e W ⟨rfl,⟨A',f,J⟩,H⟩;obtain⟨c,P',S',a⟩: ∃c P' S',A5 P m [(0,E.1)]=(c,P',S'):=⟨_,_,_,rfl⟩;have M:c6 (A5 P m [(0,(J1 C1).1)]=(c,P',S')):=by rw[←HE.o];exact a
   rw[a]at f⊢;have g:=b9 f
   have N:c6 (∀x,A' x→D x∨w.heap.size≤x):=fun x i=>by
    rcases J x i with q|q
    ·exact HA.o x q
    ·have C:=v.o.size;have Y:=l.o.size;right;omega
   have u:=b9 ((l.o.self (Ch.of_below v.o)).trans H (fun x i=>HA.o x i));clear f J H;by_cases T:c=0;rotate_left
   ·have n0:(c !=0)=true:=by rw[bne_iff_ne];exact T
    have HF:c6 (L8 k S=(c,none,S')):=by show _=_;unfold L8;rw[if_neg (by rw[←HK.o];simp),HO.o];simp only[M.o];rw[if_pos T]
    clear T a;go_wp2_with fail;go_ret2;obtain⟨D',C,Y⟩:=g.o.dsk;exact YH HF.o C (fun x i=>N.o x (Y x i)) u.o
   ·subst T;have HF:c6 (L8 k S=(0,some P',S')):=by show _=_;unfold L8;rw[if_neg (by rw[←HK.o];simp),HO.o];simp only[M.o];rw[if_neg (by simp)]
    have i0:c6 (P'.tab.length=7):=by have h:=dU (P:=P) (S:=m) (ps:=[(0,E.1)]) g0.o f0.o;rw[a]at h;exact h.trans h0.o
    clear a;go_wp2_with fail;go_ret2;unfold IL;rw[HF.o];refine⟨_,rfl,fun e=>(by cases e),fun Q e=>?_,u.o.self (Ch.of_below (a8 _ _))⟩
    cases e
    exact⟨A',W.heap.size,rfl,u.o.size,⟨W.heap.size,_,rfl,heap_alloc_new W _,fun e=>by have:=g.o.lt e;omega,g.o.below (a8 _ _),i0.o⟩,N.o⟩
end
end
section
open Ieee Go.RowKit

def Fz (a b : Cl) : Int := AA a.k b.k
theorem Cq (a b : Cl) : ltOf Fz a b = decide (a.k < b.k) := by
 unfold ltOf Fz AA;by_cases c : a.k < b.k
 ·simp [c]
 ·by_cases d : b.k < a.k <;> simp [c, d]
theorem Mv : Sort.SWO (ltOf Fz) where
 irrefl x := by rw [Cq]; simp
 trans x y z h1 h2 := by rw [Cq] at *; simp at *; omega
 ntrans x y z h1 h2 := by rw [Cq] at *; simp at *; omega
def Mc (w : d9) (g : Nat) (m : List Cl) : Prop := ∀ i j, (h : i < m.length) → j < 6 → w.cell? ⟨g, i * 6 + j, none⟩ = (W6 m[i])[j]? ∧ w.frozen? ⟨g, i * 6 + j, none⟩ = false
theorem GI (c : Cl) {j : Nat} (hj : j < 6) : (W6 c)[j]? = some (W6 c)[j]! := by
 have h : j < (W6 c).length := by rw [bE]; exact hj
 rw [List.getElem?_eq_getElem h, getElem!_pos (W6 c) j h]
theorem Ia {w : d9} {base n g cap : Nat} {m : List Cl} (h : w.ownsRow base 132 6 (.slice (some ⟨g, 0, none⟩) n cap) n (l9 m)) (hn : n = m.length) : Mc w g m := by
 intro i j k f;rcases h.2 with ⟨e, _⟩ | ⟨g', cap', cur, d, r, c, o, q, p, a⟩
 ·cases e
 ·cases d
  have b : i * 6 + j < n * 6 := by omega
  have l : w.cell? ⟨g, i * 6 + j, none⟩ = cur[i * 6 + j]? := by rw [cell_of_row w g (i * 6 + j) cur 132 (0, 0) c]
  refine ⟨?_, by simp [World.frozen?, c]⟩;rw [l, ← oL m i j k f, ← a];simp [b]
theorem pM [Inhabited Cl] {w : d9} {g : Nat} {m : List Cl} (h : Mc w g m) : Sort.HoldsK W6 6 w g 0 m.toArray := by
 intro j c;rw [Sort.size_flatK] at c;have f : j < m.length * 6 := by simpa using c
 rw [Sort.get_flatK _ _ _ _ c];have d : j / 6 < m.length := by omega
 obtain ⟨a, b⟩ := h (j / 6) (j % 6) d (by omega);have e : m.toArray[j / 6]! = m[j / 6] := by rw [getElem!_pos m.toArray (j / 6) (by simpa using d)]; simp
 rw [e];rw [show j / 6 * 6 + j % 6 = j by omega] at a b;rw [Nat.zero_add];refine ⟨?_, b⟩;rw [a, GI _ (by omega)];rfl
theorem DV [Inhabited Cl] {w : d9} {g : Nat} {d : Array Cl} (h : Sort.HoldsK W6 6 w g 0 d) : Mc w g d.toList := by
 intro i j e c;have b : i < d.size := by simpa using e
 have f : d[i]! = d.toList[i] := by rw [getElem!_pos d i b]; simp
 obtain ⟨a, x⟩ := h.cell b c;rw [f] at a;simp only [Nat.zero_add] at a x;exact ⟨a.trans (GI _ c).symm, x⟩
theorem uG (x y : Cl) (W : d9) :
  Calls Tryz.prog 148 #[.agg #[.int .u64 x.k, .bool x.p.h, .int .u64 x.p.b, .bool x.c.h, .int .u64 x.c.b, .int .i64 x.n], .agg #[.int .u64 y.k, .bool y.p.h, .int .u64 y.p.b, .bool y.c.h, .int .u64 y.c.b, .int .i64 y.n]] W fun e w' => e = .returned (.int .i64 (Fz x y)) ∧ ∃ q os', w' = Sort.grow (W.drewN q) os' := by
 unfold Fz;generalize d : AA x.k y.k = r;have a := fun W' => zZ x.k y.k W';rw [d] at a;clear d;go_in;go_wp2_with (go_at_call 149; refine (a _).mono ?_; rintro e w' ⟨rfl, rfl⟩);go_ret;exact ⟨rfl, 0, _, by rw [Sort.alloc_eq_grow, Sort.alloc_eq_grow, Sort.grow_grow]; rfl⟩
theorem YY [Inhabited Cl] (blk off size : Nat) (w : d9) : CmpLays Tryz.prog 148 #[] W6 6 Fz blk off size w :=
 fun _ _ _ _ x y => uG x y _
theorem EU [Inhabited Cl] {w : d9} {g n : Nat} {os : Array Obj} (d : Array Cl) : w.grownBy (sortWorldK W6 6 w g 0 n d os) (some g) := by
 refine ⟨rfl, rfl, rfl, by simp [sortWorldK, Sort.putRowK], fun k b a => ?_⟩;unfold sortWorldK;rw [Sort.heap_grow_old _ _ (by simpa [Sort.putRowK] using b)];have : g ≠ k := fun e => a (by rw [e]);simp [Sort.putRowK, Sort.putRow, Sort.mapBlock, Sort.ahead, Array.getElem?_modify, this]
def cG (m d : List Cl) : Prop := d.Perm m ∧ d.Pairwise (fun a b => a.k ≤ b.k)
theorem FW [Inhabited Cl] {m : List Cl} {d' : Array Cl} (h1 : Sort.PermIn 0 m.toArray.size m.toArray d') (h2 : Sort.SortedIn (ltOf Fz) 0 m.toArray.size d') : cG m d'.toList := by
 obtain ⟨c, _, a⟩ := h1;have n : d'.size = m.length := by simpa using c
 constructor
 ·have l : (d'.extract 0 m.toArray.size).toList = d'.toList := by
   rw [← c]; simp
  have k : (m.toArray.extract 0 m.toArray.size).toList = m := by simp
  rw [l, k] at a; exact a
 ·rw [List.pairwise_iff_getElem];intro i j g f d;have e : i < d'.size := by simpa using g
  have b : j < d'.size := by simpa using f
  have h := h2 i j (Nat.zero_le _) d (by rw [← c]; exact b);rw [Cq, getElem!_pos d' i e, getElem!_pos d' j b] at h;simpa using h
theorem LW {g cap : Nat} {m : List Cl} {w : d9} (hM : Mc w g m) (hg : g < w.heap.size) (hl : m.length < 4611686018427387904) :
  Calls Tryz.prog 147 #[.slice (some ⟨g, 0, none⟩) m.length cap, .func (.func 148) #[] #[]] w fun e w' => e = .returned (.tuple #[]) ∧ ∃ d, Mc w' g d ∧ cG m d ∧ w.grownBy w' (some g) := by
 have eg := enters_of Tryz.func148 (by kernel_rfl) rfl
 haveI : Inhabited Cl := ⟨j9⟩
 have a := AnyQ.slices_SortFunc lays6c 6 Tryz.isAgg132 Tryz.sizeOf132 W6 (fun _ => rfl) (fun x v b => by simp [W6] at b; rcases b with rfl | rfl | rfl | rfl | rfl | rfl <;> rfl) Fz Mv 148 #[] g 0 cap m.toArray w eg (YY g 0 _ w) (pM hM) hg (by simpa using hl);refine a.mono ?_;rintro e w' ⟨rfl, d', n, os, c, f, rfl⟩;exact ⟨rfl, d'.toList, DV (holdsK_sortWorldK_c W6 6 w g 0 m.toArray d' n os (pM hM) hg (by simpa using c.1)), FW c f, EU d'⟩
theorem LX (p : Option Addr) (cap : Nat) (w : d9) :
  Calls Tryz.prog 147 #[.slice p 0 cap, .func (.func 148) #[] #[]] w fun e w' => e = .returned (.tuple #[]) ∧ w' = w :=
 AnyF.slices_SortFunc_none lays6c p cap _ w
def Mh (m : List Cl) (w : d9) (e : Ending) (w' : d9) : Prop :=
 ∃ ao cap d, e = .returned (.slice ao d.length cap) ∧ d.length ≤ cap ∧ cap ≤ maxLen ∧ cG m d ∧ (d ≠ [] → ∃ g, ao = some ⟨g, 0, none⟩ ∧ w.heap.size ≤ g ∧ g < w'.heap.size ∧ Mc w' g d) ∧ (ao = none → cap = 0) ∧ f8 w w'
theorem oK {Ls : List (List Cl)} {i : Nat} (hi : i < Ls.length) : (Ls.take (i + 1)).flatten = (Ls.take i).flatten ++ B3 Ls i := by
 rw [List.take_succ_eq_append_getElem hi, List.flatten_append, aW hi]; simp
theorem FB {Ls : List (List Cl)} (h : ∀ i, i < 6 → (B3 Ls i).length ≤ 16) (h6 : Ls.length = 6) : ∀ i, i ≤ 6 → (Ls.take i).flatten.length ≤ 16 * i := by
 intro i
 induction i with
 | zero => intro _; simp
 | succ i a =>
  intro b;rw [oK (by omega), List.length_append];have d := a (by omega);have c := h i (by omega);omega
def CsR (w : d9) (Ls : List (List Cl)) (lv iv : Value) (wr : d9) : Prop :=
 ∃ i : Nat, iv = .int .i64 i ∧ i ≤ 6 ∧ wr.ownsRow w.heap.size 132 6 lv (Ls.take i).flatten.length (l9 (Ls.take i).flatten) ∧ f8 w wr
theorem lM {w : d9} {Q : Nat} {f : Nat → Value} {Ls : List (List Cl)} (h : SH w Q f Ls) (hle : ∀ i, i < 6 → (B3 Ls i).length ≤ 16) :
  Calls Tryz.prog 72 #[.pointer (some ⟨Q, 0, none⟩)] w (Mh Ls.flatten w) := by
 have W := b9 h;have C := b9 hle;have u := b9 h.len;have B : c6 ((w.alloc (Obj.cells #[] 132)).ownsRow w.heap.size 132 6 (.slice (some ⟨w.heap.size, 0, none⟩) 0 0) 0 []) := World.ownsRow_made w #[] 0 (Nat.le_refl _) (by simp [maxLen]) rfl;have D : c6 (f8 w (w.alloc (Obj.cells #[] 132))) := a8 _ _;clear h hle;go_in;go_upto_region 2 with fail
 generalize w.alloc (Obj.cells #[] 132) = wa at B D ⊢;have A : c6 (CsR w Ls (.slice (some ⟨w.heap.size, 0, none⟩) 0 0) (.int .i64 0) wa) := ⟨0, rfl, by omega, by simpa [l9] using B.o, D.o⟩;generalize Value.slice (some ⟨w.heap.size, 0, none⟩) 0 0 = lv0 at A ⊢;clear B D;go_wp2_with fail;go_loopw [3, 6] (fun lv iv wr => CsR w Ls lv iv wr) (fun _ iv _ => 6 - (intOf iv).toNat)
 case atStart => exact A.o
 case round =>
  obtain ⟨i, rfl, i0, b, hB⟩ := hrel;have k := b9 b;have HB := b9 hB;clear b hB A;by_cases p : i < 6;rotate_left
  ·have N : ¬ (i : Int) < 6 := by omega
   have hi : i = 6 := by omega
   subst hi;obtain ⟨m, P⟩ := c7 Ls.flatten;have R : (Ls.take 6).flatten = m := by rw [P, List.take_of_length_le (by rw [u.o]; exact Nat.le_refl _)]
   rw [R] at k;have HM := b9 P;have Z : c6 (m.length ≤ 96) := by have h := FB C.o u.o 6 (Nat.le_refl _); rw [R] at h; exact h
   clear P R;by_cases I : m = []
   ·subst I
    obtain ⟨F, a, x, v, r⟩ : ∃ F a, u3 = .slice F 0 a ∧ a ≤ maxLen ∧ (F = none → a = 0) := by
     rcases k.o.2 with ⟨e, _⟩ | ⟨g, a, cur, x, E, hh, n, j, T, S⟩
     ·exact ⟨none, 0, e, by simp [maxLen], fun _ => rfl⟩
     ·exact ⟨_, a, x, j, fun e => by cases e⟩
    subst x;have d0 := b9 v;have Y := b9 r;clear v r;go_wp2_with fail;refine B4 (LX F a wr) ?_;go_wp2_with fail;go_ret;rw [← HM.o];exact ⟨F, a, [], rfl, Nat.zero_le _, d0.o, ⟨List.Perm.refl _, List.Pairwise.nil⟩, fun e => absurd rfl e, Y.o, HB.o⟩
   ·obtain ⟨g, a, x, E, J, n, j⟩ : ∃ g a, u3 = .slice (some ⟨g, 0, none⟩) m.length a ∧ w.heap.size ≤ g ∧ g < wr.heap.size ∧ m.length ≤ a ∧ a ≤ maxLen := by
     rcases k.o.2 with ⟨_, h0⟩ | ⟨g, a, cur, x, E, hh, n, j, T, S⟩
     ·exact absurd (List.eq_nil_of_length_eq_zero h0) I
     ·exact ⟨g, a, x, E, (Array.getElem?_eq_some_iff.1 hh).1, n, j⟩
    subst x;have a0 := b9 (Ia k.o rfl);have HG : c6 (w.heap.size ≤ g ∧ g < wr.heap.size ∧ m.length ≤ a ∧ a ≤ maxLen) := ⟨E, J, n, j⟩;clear E J n j;go_wp2_with fail;refine (LW a0.o HG.o.2.1 (by have := Z.o; omega)).mono ?_;rintro e w2 ⟨rfl, d, H, y, z⟩;have HD : c6 (Mc w2 g d ∧ cG m d) := ⟨H, y⟩;have g0 := b9 (HB.o.grown z HB.o.size (by simp; exact HG.o.1));have U := b9 z.size;have K := y.1.length_eq.symm;rw [K] at HG ⊢;clear H y z K;go_wp2_with fail;go_ret;rw [← HM.o];exact ⟨_, a, d, rfl, HG.o.2.2.1, HG.o.2.2.2, HD.o.2, fun _ => ⟨g, rfl, HG.o.1, Nat.lt_of_lt_of_le HG.o.2.1 U.o, HD.o.1⟩, fun e => (by cases e), g0.o⟩
  ·have N : (i : Int) < 6 := by omega
   have b0 : c6 (i < Ls.length) := by rw [u.o]; exact p
   have L := b9 (W.o.below HB.o);obtain ⟨l, O⟩ := c7 (B3 Ls i);have HL := b9 O;have q := L.o.cv i p;rw [← O] at q;obtain ⟨pa, pc, t⟩ := q.form;obtain ⟨pn, G⟩ := c7 l.length;rw [← G] at t;rw [t] at q;have c0 := b9 q;have m0 := L.o.c i p;rw [t] at m0
   have M : c6 ((Ls.take i).flatten.length + l.length ≤ 112) := by
    have h1 := FB C.o u.o i (by omega);have h2 := C.o i p;show _ ≤ _;rw [O]; omega
   clear O q t G;go_upto_region 6 with (at_builtin; refine i9 (by rfl) (.tmp 9) (.tmp 14) (by rfl) w.heap.size _ _ _ (by rfl) k.o _ l (by rfl) c0.o (by have := M.o; simp only [maxLen]; omega) (by have := M.o; omega) HB.o.size ?_; intro v6 w6 b s)
   have f0 := b9 (HB.o.trans (g9 k.o s HB.o.size));have X : c6 (w6.ownsRow w.heap.size 132 6 v6 (Ls.take (i + 1)).flatten.length (l9 (Ls.take (i + 1)).flatten)) := by show World.ownsRow _ _ _ _ _ _ _; rw [oK b0.o, List.length_append, G4, ← HL.o]; exact b
   clear b s m0;go_wp2_with fail;go_roundw
   case rel => exact ⟨i + 1, by go_num, p, X.o, f0.o⟩
   case measure => simp [intOf]; omega
end
section
section

variable{A:n9}{w w1:d9}{sv dv:Value}{k:Int}{P:Bo}{S:Dk}{sp:Nat}

def Md(A:n9)(w:d9)(sv dv:Value)(k:Int)(P:Bo)(S:Dk)(Ls:List (List Cl))(key:Nat)(n:Int)(e:Ending)(w':d9):Prop:=
 ∃(c:Nat) (v:Vl) (S':Dk),e= .returned (.tuple #[.agg #[.bool v.h,.int .u64 v.b],.int .i64 c])∧((i6 P S=true∧c=80∧v=K0)∨(i6 P S=false∧c=0∧v=G7 Ls key n))∧ST A w' sv dv k (fW P S) S'∧F0 6 S S'∧Ch A w w'
theorem sX{D:n9}{w0 w1:d9}{g:Nat}(h:Ch D w0 w1)(hg:D g∨w0.heap.size≤g)(a b:Value):Ch D w0 ((w1.setCell ⟨g,0,none⟩ a).setCell ⟨g,1,none⟩ b):=by
 have s: ∀{x:d9} (i:Nat) (u:Value),Ch D w0 x→Ch D w0 (x.setCell ⟨g,i,none⟩ u):=fun i u d=>d.trans (k8 _ g i u) (fun y c=>by subst c;exact hg);exact s _ _ (s _ _ h)
theorem ST.two(h:ST A w (.pointer (some ⟨sp,0,none⟩)) dv k P S){g:Nat}(hg: ¬A g)(hp:sp≠g)(a b:Value):ST A ((w.setCell ⟨g,0,none⟩ a).setCell ⟨g,1,none⟩ b) (.pointer (some ⟨sp,0,none⟩)) dv k P S:=by
 have s: ∀{x:d9} (i:Nat) (u:Value),ST A x (.pointer (some ⟨sp,0,none⟩)) dv k P S→ST A (x.setCell ⟨g,i,none⟩ u) (.pointer (some ⟨sp,0,none⟩)) dv k P S:=fun i u c=>c.setB (fun y _ d e=>by subst e;exact hg d) (fun s e=>by cases e;exact hp);exact s _ _ (s _ _ h)
theorem rN(h:ST A w sv dv k P S){Ls:List (List Cl)}(hD:i6 P S=false→C8 P S 6=some Ls)(hrd:S.rd<4611686018427387904)(key:Nat)(n:Int):
  Calls Tryz.prog 28 #[sv,.int .u64 key,.int .i64 n] w (Md A w sv dv k P S Ls key n):=by
 have HD:=b9 hD;have l0:=b9 hrd;obtain⟨sp,g0,T,h0⟩:=h.ptr;subst g0;have f0:c6 (∀x,A x→x<w.heap.size):=fun x hx=>h.lt hx;have d0:=b9 T;have G:c6 (f8 w (w.alloc (Obj.cells #[.bool false,.int .u64 0] 55))):=a8 _ _;have Y:=b9 (h.below G.o);have r:c6 ((w.alloc (Obj.cells #[.bool false,.int .u64 0] 55)).cell? ⟨w.heap.size,0,none⟩=some (.bool false)∧(w.alloc (Obj.cells #[.bool false,.int .u64 0] 55)).cell? ⟨w.heap.size,1,none⟩=some (.int .u64 0)∧ ∀j,(w.alloc (Obj.cells #[.bool false,.int .u64 0] 55)).frozen? ⟨w.heap.size,j,none⟩=false):=⟨by simp[go_sem],by simp[go_sem],by intro j;simp[go_sem]⟩;clear h hD hrd T h0;go_in;go_upto_region 1 with fail
 obtain⟨R,hR⟩:=c7 w.heap.size;rw[←hR]at r⊢;have HR:=b9 hR;clear hR;generalize w.alloc (Obj.cells #[.bool false,.int .u64 0] 55)=w0 at G Y r⊢;have u:c6 (¬A R):=fun e=>by have C:=f0.o _ e;have i:=HR.o;omega
 have Z:c6 (sp≠R):=by have C:=d0.o;have i:=HR.o;show _≠_;omega
 go_wp2_with fail;refine(cD Y.o l0.o).mono ?_;rintro e t ⟨c,f,S1,rfl,a,i0,hcase,hst1,z,d⟩;have j0:=b9 hst1;have b0:=b9 z;have m0:=b9 ((Ch.of_below G.o).self d)
 have B:c6 (t.cell? ⟨R,0,none⟩=some (.bool false)∧t.cell? ⟨R,1,none⟩=some (.int .u64 0)∧ ∀j,t.frozen? ⟨R,j,none⟩=false):=⟨d.cell r.o.1 u.o,d.cell r.o.2.1 u.o,fun j=>by
  have e:=d.block R (c8 r.o.1) u.o;have hz:=r.o.2.2 j;unfold World.frozen? at hz⊢;rw[e];exact hz⟩
 have H:c6 ((c=80∧i6 P S=true)∨(c=0∧i6 P S=false∧Ls.length=6∧ ∀j,j<6→Cv t (f j) (B3 Ls j))):=by
  rcases hcase with h|⟨_,C,i⟩|⟨C,i,L',I,h4⟩
  ·exact .inl h
  ·rw[HD.o C]at i;cases i
  ·have e:=HD.o i;rw[e]at I
   cases I
   exact .inr ⟨C,i,T4 e,h4⟩
 obtain⟨a0,n0,p0,Q⟩:=a 0 (by omega);obtain⟨a1,n1,p1,O⟩:=a 1 (by omega);obtain⟨a2,n2,p2,N⟩:=a 2 (by omega);obtain⟨a3,n3,p3,M⟩:=a 3 (by omega);obtain⟨a4,n4,p4,K⟩:=a 4 (by omega);obtain⟨a5,n5,p5,J⟩:=a 5 (by omega);have HE:c6 (f 0= .slice a0 n0 p0∧f 1= .slice a1 n1 p1∧f 2= .slice a2 n2 p2∧f 3= .slice a3 n3 p3∧f 4= .slice a4 n4 p4∧f 5= .slice a5 n5 p5):=⟨Q,O,N,M,K,J⟩;rw[Q,O,N,M,K,J];clear a i0 hcase hst1 z d Q O N M K J;go_upto_region 2 with fail
 have s:c6 (f8 t (t.alloc (Obj.cells #[.slice a0 n0 p0,.slice a1 n1 p1,.slice a2 n2 p2,.slice a3 n3 p3,.slice a4 n4 p4,.slice a5 n5 p5] 84))):=a8 _ _
 have E:c6 (∀L:List (List Cl),L.length=6→(∀j,j<6→Cv t (f j) (B3 L j))→SH (t.alloc (Obj.cells #[.slice a0 n0 p0,.slice a1 n1 p1,.slice a2 n2 p2,.slice a3 n3 p3,.slice a4 n4 p4,.slice a5 n5 p5] 84)) t.heap.size f L):=fun L C i=>by
  have h:=gI t f C i;obtain⟨Q,O,N,M,K,J⟩:=HE.o;rw[Q,O,N,M,K,J]at h;exact h
 obtain⟨T8,U⟩:=c7 t.heap.size;rw[←U]at E⊢;clear U;generalize t.alloc (Obj.cells #[.slice a0 n0 p0,.slice a1 n1 p1,.slice a2 n2 p2,.slice a3 n3 p3,.slice a4 n4 p4,.slice a5 n5 p5] 84)=w2 at s E⊢;have F:=b9 (c8 B.o.1);have q:c6 (w2.cell? ⟨R,0,none⟩=some (.bool false)∧w2.cell? ⟨R,1,none⟩=some (.int .u64 0)∧ ∀j,w2.frozen? ⟨R,j,none⟩=false):=⟨by rw[s.o.cell (p:=⟨R,0,none⟩) F.o];exact B.o.1,by rw[s.o.cell (p:=⟨R,1,none⟩) F.o];exact B.o.2.1,fun j=>by rw[s.o.frozen (p:=⟨R,j,none⟩) F.o];exact B.o.2.2 j⟩;have X:=b9 (j0.o.below s.o);have c0:=b9 (m0.o.self (Ch.of_below s.o));rcases H.o with ⟨rfl,i⟩|⟨rfl,i,I,h4⟩
 ·have HS:=b9 i;obtain⟨r0,r1,rz⟩:=q.o;have z0:=rz 0;have z1:=rz 1;have y:c6 _:=sX c0.o (.inr (by rw[HR.o];exact Nat.le_refl _)) (g:=R) (.bool false) (.int .u64 0);have D:c6 _:=X.o.two u.o Z.o (.bool false) (.int .u64 0);clear rz i;go_wp2_with fail
  (try simp only[Exit.inBlock,Exit.then])
  refine bodyPost_ret (v:= .tuple #[.agg #[.bool false,.int .u64 0],.int .i64 80]) (by rw[results_cell_tmp rfl];go_simp) rfl ?_;exact⟨80,K0,S1,rfl,.inl ⟨HS.o,rfl,rfl⟩,D.o,b0.o,y.o⟩
 ·have HS:=b9 i;have k0:=b9 (E.o Ls I h4);clear i I h4;obtain⟨v,hv⟩:=c7 (G7 Ls key n);have W:=b9 hv;clear hv;go_wp2_with fail;refine(tR k0.o key n).mono ?_;rw[←W.o];rintro e w3 ⟨rfl,l⟩;have m:=b9 (c8 q.o.1);have r0:w3.cell? ⟨R,0,none⟩=some (.bool false):=by rw[l.cell (p:=⟨R,0,none⟩) m.o];exact q.o.1
  have r1:w3.cell? ⟨R,1,none⟩=some (.int .u64 0):=by rw[l.cell (p:=⟨R,1,none⟩) m.o];exact q.o.2.1
  have z0:w3.frozen? ⟨R,0,none⟩=false:=by rw[l.frozen (p:=⟨R,0,none⟩) m.o];exact q.o.2.2 0
  have z1:w3.frozen? ⟨R,1,none⟩=false:=by rw[l.frozen (p:=⟨R,1,none⟩) m.o];exact q.o.2.2 1
  have y:c6 _:=sX (c0.o.self (Ch.of_below l)) (.inr (by rw[HR.o];exact Nat.le_refl _)) (g:=R) (.bool v.h) (.int .u64 v.b);have D:c6 _:=(X.o.below l).two u.o Z.o (.bool v.h) (.int .u64 v.b);clear l;go_wp2_with fail
  (try simp only[Exit.inBlock,Exit.then])
  refine bodyPost_ret (v:= .tuple #[.agg #[.bool v.h,.int .u64 v.b],.int .i64 0]) (by rw[results_cell_tmp rfl];go_simp) rfl ?_;exact⟨0,v,S1,rfl,.inr ⟨HS.o,rfl,W.o⟩,D.o,b0.o,y.o⟩
end
end
section
section

variable{A:n9}{w w':d9}{sv dv:Value}{k:Int}{P:Bo}{S:Dk}

def Mi(A:n9)(w:d9)(sv dv:Value)(k:Int)(P:Bo)(S:Dk)(Ls:List (List Cl))(e:Ending)(w':d9):Prop:=
 ∃S',ST A w' sv dv k (fW P S) S'∧F0 6 S S'∧Ch A w w'∧
  ((i6 P S=true∧e= .returned (.tuple #[.slice none 0 0,.int .i64 80]))∨
   (i6 P S=false∧ ∃ao cap d,e= .returned (.tuple #[.slice ao d.length cap,.int .i64 0])∧d.length≤cap∧cap≤maxLen∧cG Ls.flatten d∧(d≠[]→ ∃g,ao=some ⟨g,0,none⟩∧w.heap.size≤g∧g<w'.heap.size∧Mc w' g d)∧(ao=none→cap=0)))
theorem gK(h:ST A w sv dv k P S){Ls:List (List Cl)}(hD:i6 P S=false→C8 P S 6=some Ls)(hle: ∀i,i<6→(B3 Ls i).length≤16)(hrd:S.rd<4611686018427387904):
  Calls Tryz.prog 30 #[sv] w (Mi A w sv dv k P S Ls):=by
 have HD:c6 (i6 P S=false→C8 P S 6=some Ls):=hD;have j0:=b9 hle;have h0:=b9 hrd;have f0:c6 (ST A w sv dv k P S):=h;clear h hD hrd hle;go_in;go_wp2_with fail;refine(cD f0.o h0.o).mono ?_;rintro e m ⟨c,f,S1,rfl,a,b0,hcase,hst1,l,p⟩;have d0:=b9 hst1;have Q:c6 (F0 6 S S1):=l;have m0:c6 (Ch A w m):=p
 have y:c6 ((c=80∧i6 P S=true)∨(c=0∧i6 P S=false∧Ls.length=6∧ ∀j,j<6→Cv m (f j) (B3 Ls j))):=by
  rcases hcase with h|⟨_,r,b⟩|⟨r,b,L',q,z⟩
  ·exact .inl h
  ·rw[HD.o r]at b;cases b
  ·have e:=HD.o b;rw[e]at q
   cases q
   exact .inr ⟨r,b,T4 e,z⟩
 obtain⟨a0,n0,Y,G⟩:=a 0 (by omega);obtain⟨a1,n1,X,F⟩:=a 1 (by omega);obtain⟨a2,n2,W,E⟩:=a 2 (by omega);obtain⟨a3,n3,U,D⟩:=a 3 (by omega);obtain⟨a4,n4,T,C⟩:=a 4 (by omega);obtain⟨a5,Z,R,B⟩:=a 5 (by omega);have HE:c6 (f 0= .slice a0 n0 Y∧f 1= .slice a1 n1 X∧f 2= .slice a2 n2 W∧f 3= .slice a3 n3 U∧f 4= .slice a4 n4 T∧f 5= .slice a5 Z R):=⟨G,F,E,D,C,B⟩;rw[G,F,E,D,C,B];clear a b0 hcase hst1 l p G F E D C B;go_upto_region 2 with fail
 have x:c6 (f8 m (m.alloc (Obj.cells #[.slice a0 n0 Y,.slice a1 n1 X,.slice a2 n2 W,.slice a3 n3 U,.slice a4 n4 T,.slice a5 Z R] 84))):=a8 _ _
 have u:c6 (∀L:List (List Cl),L.length=6→(∀j,j<6→Cv m (f j) (B3 L j))→SH (m.alloc (Obj.cells #[.slice a0 n0 Y,.slice a1 n1 X,.slice a2 n2 W,.slice a3 n3 U,.slice a4 n4 T,.slice a5 Z R] 84)) m.heap.size f L):=fun L r b=>by
  have h:=gI m f r b;obtain⟨G,F,E,D,C,B⟩:=HE.o;rw[G,F,E,D,C,B]at h;exact h
 obtain⟨T8,N⟩:=c7 m.heap.size;rw[←N]at u⊢;clear N;generalize m.alloc (Obj.cells #[.slice a0 n0 Y,.slice a1 n1 X,.slice a2 n2 W,.slice a3 n3 U,.slice a4 n4 T,.slice a5 Z R] 84)=w2 at x u⊢;have O:=b9 (d0.o.below x.o);have v:c6 (Ch A w w2):=m0.o.self (Ch.of_below x.o);rcases y.o with ⟨rfl,b⟩|⟨rfl,b,q,z⟩
 ·have HS:c6 (i6 P S=true):=b;clear b;go_wp2_with fail;go_ret2;exact⟨S1,O.o,Q.o,v.o,.inl ⟨HS.o,rfl⟩⟩
 ·have HS:c6 (i6 P S=false):=b;have g0:c6 (SH w2 T8 f Ls):=u.o Ls q z;clear b q z;go_wp2_with fail;refine(lM g0.o j0.o).mono ?_;rintro e w3 ⟨ao,n,d,rfl,K,M,H,J,I,t⟩;have HX:c6 (d.length≤n∧n≤maxLen∧cG Ls.flatten d∧(ao=none→n=0)):=⟨K,M,H,I⟩
  have i0:c6 (d≠[]→ ∃g,ao=some ⟨g,0,none⟩∧w.heap.size≤g∧g<w3.heap.size∧Mc w3 g d):=fun hd=>by
   obtain⟨g,r,b,q,z⟩:=J hd;exact⟨g,r,Nat.le_trans v.o.size b,q,z⟩
  have c0:=b9 (O.o.below t);have l0:c6 (Ch A w w3):=v.o.self (Ch.of_below t);clear K M H J I t;obtain⟨dn,s⟩:=c7 d.length;rw[←s];have k0:c6 (dn=d.length):=s;clear s;go_wp2_with fail;go_ret2;exact⟨S1,c0.o,Q.o,l0.o,.inr ⟨HS.o,ao,n,d,by rw[k0.o];rfl,HX.o.1,HX.o.2.1,HX.o.2.2.1,i0.o,HX.o.2.2.2⟩⟩
end
end
section
def uD(ps:List (Int × f7)):Nat:=(ps.filter (fun q=>decide (q.2≠[]))).length
theorem PC(a:List (Int × f7))(q:Int × f7):uD (a++[q])=uD a+(if q.2=[]then 0 else 1):=by
 unfold uD;rw[List.filter_append,List.length_append];by_cases h:q.2=[]
 ·rw[if_pos h];simp[h]
 ·rw[if_neg h];simp[h]
def oU(W:List f7)(ps:List (Int × f7)):List f7:=ps.foldl (fun W q=>W.set q.1.toNat q.2) W
theorem qP(ps:List (Int × f7)): ∀W,(oU W ps).length=W.length:=by
 induction ps with
 |nil=>intro W;rfl
 |cons q l a=>intro W;show(oU (W.set q.1.toNat q.2) l).length=_;rw[a];simp
theorem lG{p:Nat}: ∀(ps:List (Int × f7)) (W:List f7),p<W.length→(∀q∈ps,0≤q.1)→(p:Int)∉ps.map (·.1)→bk (oU W ps) p=bk W p:=by
 intro ps
 induction ps with
 |nil=>intro W _ _ _;rfl
 |cons q l d=>
  intro W b c a;rw[List.map_cons,List.mem_cons]at a;show bk (oU (W.set q.1.toNat q.2) l) p=_;have g:=c q (by simp);rw[d _ (by simpa using b) (fun r f=>c r (by simp[f])) (fun e=>a (.inr e)),cF b,if_neg (fun e=>a (.inl (by omega)))]
theorem wY: ∀(ps:List (Int × f7)) (W:List f7) (q:Int × f7),q∈ps→(∀q∈ps,0≤q.1∧q.1.toNat<W.length)→(ps.map (·.1)).Nodup→bk (oU W ps) q.1.toNat=q.2:=by
 intro ps
 induction ps with
 |nil=>intro W q a _ _;simp at a
 |cons r l f=>
  intro W q a e c;rw[List.map_cons,List.nodup_cons]at c;show bk (oU (W.set r.1.toNat r.2) l) q.1.toNat=_;rcases List.mem_cons.1 a with rfl|a
  ·have d:=e q (by simp);rw[lG l _ (by simpa using d.2) (fun s b=>(e s (by simp[b])).1) (by rw[Int.toNat_of_nonneg d.1];exact c.1),cF d.2,if_pos rfl]
  ·exact f _ q a (fun s b=>by simpa using e s (by simp[b])) c.2
structure LC(tab t tk:f7)(b:Nat)(S0 S:Dk)(done:List (Int × f7)):Prop where
 li:LI tab t tk b S0.bl.length
 dn:S.down=false
 len:S.bl.length=S0.bl.length
 keep: ∀x,x∉tk→bk S.bl x=bk S0.bl x
 pg: ∀q∈done,(q.2=[]→tn t q.1.toNat=0)∧(q.2≠[]→tn t q.1.toNat∈tk∧bk S.bl (tn t q.1.toNat)=q.2)
 oth: ∀p:Nat,p<tab.length→(p:Int)∉done.map (·.1)→tn t p=tn tab p
 wr:S.wr=S0.wr+tk.length
 cnt:tk.length=uD done
 lf:S0.left= -1→S.left= -1
 rd:S.rd=S0.rd
theorem LC.start{tab:f7}{S:Dk}(h:II tab S.bl.length)(hd:S.down=false):LC tab tab [] 1 S S []:=
 ⟨LI.start h,hd,rfl,fun _ _=>rfl,fun q hq=>by simp at hq,fun _ _ _=>rfl,rfl,rfl,fun h=>h,rfl⟩
section

variable{tab t tk:f7}{b:Nat}{S0 S:Dk}{done:List (Int × f7)}{p:Nat}{d:f7}

theorem LC.zero(h:LC tab t tk b S0 S done)(hp:p<tab.length)(hn:(p:Int)∉done.map (·.1))(h0: ∀q∈done,0≤q.1∧q.1<(tab.length:Int)):LC tab (t.set p 0) tk b S0 S (done++[((p:Int),[])]):=by
 have g:=h.li.len;refine⟨h.li.zero p,h.dn,h.len,h.keep,fun q a=>?_,fun r f c=>?_,h.wr,by rw[PC,if_pos rfl];exact h.cnt,h.lf,h.rd⟩
 ·rcases List.mem_append.1 a with a|a
  ·have d:p≠q.1.toNat:=fun e=>hn (List.mem_map.2 ⟨q,a,by have:=(h0 q a).1;omega⟩);rw[W9 (by have:=h0 q a;omega),if_neg d];exact h.pg q a
  ·simp at a;subst a;refine⟨fun _=>?_,fun e=>absurd rfl e⟩;show tn (t.set p 0) (p:Int).toNat=0;rw[Int.toNat_natCast,W9 (by omega),if_pos rfl]
 ·rw[List.map_append,List.mem_append]at c;have d:p≠r:=fun e=>c (.inr (by subst e;simp));rw[W9 (by omega),if_neg d];exact h.oth r f (fun e=>c (.inl e))
theorem LC.next(h:LC tab t tk b S0 S done)(h64: ∀x∈tab,x<64)(hx:q8 tab b<S0.bl.length)(hd:d≠[])(hp:p<tab.length)(hn:(p:Int)∉done.map (·.1))(h0: ∀q∈done,0≤q.1∧q.1<(tab.length:Int)):LC tab (t.set p (q8 tab b)) (q8 tab b::tk) (q8 tab b) S0 (M7 S (q8 tab b) d) (done++[((p:Int),d)]):=by
 have w:=h.li.len;have v:=mN (t:=tab) (b:=b);have o:q8 tab b<S.bl.length:=by rw[h.len];exact hx
 have l: ∀x∈tk,x≠q8 tab b:=fun x hx e=>by have:=(h.li.tk2 x hx).2.1;omega
 refine⟨h.li.next h64 hx p,h.dn,by show(S.bl.set _ _).length=_;rw[List.length_set];exact h.len,fun x g=>?_,fun q f=>?_,fun r n i=>?_,by show S.wr+1=_;rw[h.wr,List.length_cons];omega,by rw[PC,if_neg hd,List.length_cons,h.cnt],fun e=>by show bB S.left= -1;rw[h.lf e];rfl,h.rd⟩
 ·rw[List.mem_cons]at g;show bk (S.bl.set (q8 tab b) d) x=_;by_cases k:x<S.bl.length
  ·rw[cF k,if_neg (fun e=>g (.inl e.symm))];exact h.keep x (fun e=>g (.inr e))
  ·have u:bk (S.bl.set (q8 tab b) d) x=[]:=by unfold bk;rw[List.getD_eq_getElem?_getD,List.getElem?_eq_none (by simpa using k)];rfl
   have s:bk S0.bl x=[]:=by unfold bk;rw[List.getD_eq_getElem?_getD,List.getElem?_eq_none (by rw[←h.len];omega)];rfl
   rw[u,s]
 ·rcases List.mem_append.1 f with f|f
  ·have j:p≠q.1.toNat:=fun e=>hn (List.mem_map.2 ⟨q,f,by have:=(h0 q f).1;omega⟩);rw[W9 (by have:=h0 q f;omega),if_neg j];refine⟨(h.pg q f).1,fun e=>?_⟩;obtain⟨a,c⟩:=(h.pg q f).2 e;refine⟨by simp[a],?_⟩;have m:tn t q.1.toNat<S.bl.length:=by rw[h.len];exact(h.li.tk2 _ a).2.2.1
   show bk (S.bl.set (q8 tab b) d) _=_;rw[cF m,if_neg (fun e=>l _ a e.symm)];exact c
  ·simp at f;subst f;refine⟨fun e=>absurd e hd,fun _=>?_⟩;show tn (t.set p (q8 tab b)) (p:Int).toNat∈_∧bk (S.bl.set (q8 tab b) d) (tn (t.set p (q8 tab b)) (p:Int).toNat)=d;rw[Int.toNat_natCast,W9 (by omega),if_pos rfl];exact⟨by simp,by rw[cF o,if_pos rfl]⟩
 ·rw[List.map_append,List.mem_append]at i;have j:p≠r:=fun e=>i (.inr (by subst e;simp));rw[W9 (by omega),if_neg j];exact h.oth r n (fun e=>i (.inl e))
end

theorem uI{S:Dk}{k:Nat}{d:f7}(hd:S.down=false)(hk:k<S.bl.length)(hl:S.left=0)(hb:d.length≤1024):l7 S k d=80∧i7 S k d=mG S:=by
 have a:=yF hd hk;exact⟨by unfold l7;rw[if_neg (fun e=>e a),if_neg (by omega),if_pos hl],by unfold i7;rw[if_neg (fun e=>e a),if_neg (by omega),if_pos hl]⟩
theorem Cu{tab:f7}{S0:Dk}(hT:II tab S0.bl.length)(h64: ∀x∈tab,x<64): ∀(ps:List (Int × f7)) (done:List (Int × f7)) (t tk:f7) (b:Nat) (S:Dk),LC tab t tk b S0 S done→UB tab.length (done++ps)→tk.length+ps.length≤tab.length→
  (∃t' tk' b' S',D4 tab ps b t S=(some t',S')∧LC tab t' tk' b' S0 S' (done++ps))∨
  (∃(S':Dk) (tk':f7),D4 tab ps b t S=(none,S')∧S'.down=true∧S'.bl.length=S0.bl.length∧(∀x,x∉tk'→bk S'.bl x=bk S0.bl x)∧(∀x∈tk',2≤x∧x∉tab)∧S0.left≠ -1∧S'.rd=S0.rd∧S'.wr≤S0.wr+tab.length):=by
 intro ps
 induction ps with
 |nil=>intro done t tk b S h _ _;exact .inl ⟨t,tk,b,S,rfl,by rw[List.append_nil];exact h⟩
 |cons a l u=>
  obtain⟨p,d⟩:=a;intro done t tk b S h c z;rw[List.length_cons]at z;have s:=c.pg (p,d) (by simp);have f:=c.ln (p,d) (by simp);have m:=c.nd;simp only at s f;obtain⟨q,rfl⟩: ∃q:Nat,p=q:=⟨p.toNat,by omega⟩
  have k:(q:Int)∉done.map (·.1):=fun e=>by
   rw[List.map_append,List.map_cons,List.nodup_append]at m;exact m.2.2 _ e _ (by simp) rfl
  have v: ∀r∈done,0≤r.1∧r.1<(tab.length:Int):=fun r y=>c.pg r (by simp[y]);have w:done++(((q:Int),d)::l)=(done++[((q:Int),d)])++l:=by simp
  unfold D4;by_cases hd:d=[]
  ·subst hd;rw[if_pos rfl,Int.toNat_natCast];rw[w]at c⊢;exact u (done++[((q:Int),[])]) _ tk b S (h.zero (by omega) k v) c (by omega)
  ·rw[if_neg hd,Int.toNat_natCast];have i:=zL h.li hT (by omega);have j:q8 tab b<S.bl.length:=by rw[h.len];exact i
   by_cases g:S.left=0
   ·obtain⟨o,n⟩:=uI h.dn j g f;rw[if_neg (by rw[o];omega),n];refine .inr ⟨mG S,tk,rfl,rfl,h.len,h.keep,fun x i=>⟨(h.li.tk2 x i).1,(h.li.tk2 x i).2.2.2⟩,fun e=>?_,h.rd,by show S.wr≤_;rw[h.wr];omega⟩;rw[h.lf e]at g;omega
   ·obtain⟨o,n⟩:=lC h.dn j g f;rw[if_pos o,n];rw[w]at c⊢;exact u (done++[((q:Int),d)]) _ _ _ _ (h.next h64 i hd (by omega) k v) c (by simp;omega)
structure Iv(P:Bo)(S:Dk)(W:List f7):Prop where
 ok:P.ok S.bl.length
 n8:P.tab.length=8
 w8:W.length=8
 b64:S.bl.length≤64
 ov:P.over=false
 dn:S.down=false
 root:bk S.bl P.home=k9 P.gen P.tab
 oth: ∀g t,m8 (bk S.bl (1-P.home)) S.bl.length=some (g,t)→g<P.gen
 pg: ∀p,p<8→(tn P.tab p=0∧bk W p=[])∨(tn P.tab p≠0∧bk W p=bk S.bl (tn P.tab p)∧bk W p≠[])
theorem yG{S:Dk}{k:Nat}(hd:S.down=false)(hk:k<S.bl.length):M6 S k=bk S.bl k:=(Ay hd hk).2.1
theorem Fe{S:Dk}(hd:S.down=false)(k:Nat):(dI S k).down=false∧(dI S k).bl=S.bl:=by
 induction k with
 |zero=>exact⟨hd,rfl⟩
 |succ k a=>unfold dI;rw[Az];exact⟨by unfold R8;split;exact a.1;exact a.1,a.2⟩
end
end Go.Proofs.YtfhoilcbhmeofaaGreat
