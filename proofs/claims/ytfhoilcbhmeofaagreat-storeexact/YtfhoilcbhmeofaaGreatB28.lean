/- The reference's Apply: its walk. -/
import Derived.Test.YtfhoilcbhmeofaaGreatB27
set_option maxRecDepth 100000
set_option maxHeartbeats 16000000
namespace Go.Proofs.YtfhoilcbhmeofaaGreat
open Go.RowKit
section
section

variable{A:n9}{w:d9}{sv dv kv:Value}{k:Int}{P:Bo}{S:Dk}{m:Mk}{ks:f7}

def BgR(A:n9)(w:d9)(sp:Nat)(dv:Value)(k:Int)(P:Bo)(S:Dk)(m:Mk)(ov kv:Value)(ks:f7)(R1 R2 T:Nat)(f:Nat→Value)(g:Nat→List Cl)(b:Int)(iv:Value)(wr:d9):Prop:=
 ∃(i:Nat) (f2:Nat→Value),iv= .int .i64 i∧1≤i∧i≤7∧(b=m.b∨i=1)∧UD A w sp dv k P S m ov kv ks R1 R2 T f g wr∧S7 wr R2 f2 (lA m b i g)
theorem UD.chR{A:n9}{w wr wx:d9}{sp R1 R2 T:Nat}{dv ov kv:Value}{k:Int}{P:Bo}{S:Dk}{m:Mk}{ks:f7}{f:Nat→Value}{g:Nat→List Cl}(h:UD A w sp dv k P S m ov kv ks R1 R2 T f g wr)(hc:Ch (fun x=>x=R2∨wr.heap.size≤x) wr wx):UD A w sp dv k P S m ov kv ks R1 R2 T f g wx:=by
 refine⟨?_,h.mb.ch hc ?_,cY h.ko hc (fun q x a e=>?_),cY h.kk hc (fun q x a e=>?_),VJ h.q1 hc ?_ (fun j d q x a e=>?_),h.ch.trans hc (fun x a=>?_),h.n1,h.nT,h.nA,h.nS,h.nO,h.nK,h.nF,h.lw⟩
 ·obtain⟨sp',o,e,b,c,i,n⟩:=h.rt;have l:=(Array.getElem?_eq_some_iff.1 b).1;have r:=h.nS
  cases e
  exact⟨sp,o,rfl,by rw[hc.block sp l (by omega)];exact b,c,i.ch hc (fun x a e=>by
   have p:=i.lt a;rcases e with e|e
   ·subst e;exact h.nA a
   ·omega),n⟩
 ·have b:=c8 h.mb.c0;have c:=h.nT;simp only at b;omega
 ·have b:=h.nO q x a;have c:=mS h.ko q a;omega
 ·have b:=h.nK q x a;have c:=mS h.kk q a;omega
 ·have b:=h.q1.lt;have c:=h.n1;omega
 ·have b:=h.nF j d q x a;have c:=PB (h.q1.cv j d) q a;omega
 ·have b:=h.ch.size;have c:=h.lw;right;omega
theorem Ao{D:n9}{w w':d9}{Q i:Nat}{f:Nat→Value}{G G':Nat→List Cl}{v:Value}(h:S7 w Q f G)(hc:Ch D w w')(hq: ¬D Q)(hi:i<7)(hv:Cv w' v (G' i))(hg: ∀j,j<7→j≠i→G' j=G j)(hf: ∀j,j<7→j≠i→G j≠[]→ ∀x,(f j).ownBlock=some x→ ¬D x):
  S7 (w'.setCell ⟨Q,i,none⟩ v) Q (pR f i v) G':=by
 have a: ∀j,j<7→w'.cell? ⟨Q,j,none⟩=some (f j):=fun j b=>hc.cell (h.c j b) hq;obtain⟨m,l,e⟩:=h.form hi;have k: ∀c:Cl,f i∉W6 c:=fun c=>by rw[e];exact bK c
 refine⟨fun j b=>?_,fun j=>?_,fun j b=>?_⟩
 ·unfold pR;by_cases q:i=j
  ·subst q;rw[if_pos rfl];simp[go_sem,a i hi]
  ·rw[if_neg q,World.cell?_setCell_other _ _ _ _ (by rintro⟨⟩;exact q rfl)];exact a j b
 ·have g:=h.z j;have e:=hc.block Q h.lt hq;have d:w'.frozen? ⟨Q,j,none⟩=false:=by unfold World.frozen? at g⊢;rw[e];exact g
  simpa[go_sem]using d
 ·unfold pR;by_cases q:i=j
  ·subst q;rw[if_pos rfl];exact hv.set (a i hi) k v
  ·rw[if_neg q,hg j b (fun e=>q e.symm)];exact(YS (h.cv j b) hc (hf j b (fun e=>q e.symm))).set (a i hi) k v
theorem oX{ops:Array Oper}{o:Oper}{a:Act}{w:d9}{K:Act→d9→Prop}{Q:Exit→Act→d9→Prop}{X:Prop}
  (hg:o.guard=none) (s x:Operand) (hop:o.op=Op.call {callee:=Callee.builtin Builtin.append,args:= #[s,x],argTypes:= #[65,65]})
  {base:Nat} (v:Value) (l:List Cl) (hs:a.eval s=v) (hw:w.ownsRow base 132 6 v l.length (l9 l))
  (q:Nat) (d:Cl) (hx:a.eval x= .slice (some ⟨q,0,none⟩) 1 1) (hd:CB w q d) (hn:l.length≤100) (hbase:base≤w.heap.size)
  (hK: ∀v' w',w'.ownsRow base 132 6 v' (l++[d]).length (l9 (l++[d]))→w.grownBy w' v.ownBlock→K (a.put o.dst v') w'):
  if Region.wanted o (yielded ops a.tmps)=true then Oper.wp Tryz.prog o a w K Q else X:=by
 have h:Region.wanted o (yielded ops a.tmps)=true:=by simp[Region.wanted,hg]
 rw[if_pos h];obtain⟨i0,c,g,f,e⟩:=aY vN
 obtain⟨v',w',b,p,n,_,_⟩:=run_append_own_at (P:=Tryz.prog) w base 65 o.type 132 i0 (.agg #[.int .u64 0,.bool false,.int .u64 0,.bool false,.int .u64 0,.int .i64 0]) 6 48 Tryz.underlying65 c g f e rfl (by decide) v l.length (l9 l) hw ⟨q,0,none⟩ 1 1 (l9 [d]) (by rw[iY];rfl) (fun j y m=>GP (fun i c j m=>by
  have k:i=0:=by simpa using c
  subst k;have:j=0∨j=1∨j=2∨j=3∨j=4∨j=5:=by omega
  rcases this with rfl|rfl|rfl|rfl|rfl|rfl
  ·exact hd.c0
  ·exact hd.c1
  ·exact hd.c2
  ·exact hd.c3
  ·exact hd.c4
  ·exact hd.c5) j y m) (fun y r=>kM r) (by simp only[maxLen];omega) (by omega) hbase
 unfold Oper.wp;simp[execOp,hop,resolve,invoke,builtin,hs,hx,b,Result.andThen];exact hK v' w' (by rw[List.length_append,G4];exact p) n
def Jw(m:Mk)(b:Int)(i:Nat)(g:Nat→List Cl)(l:List Cl)(j x:Nat):List Cl:=if x=i then A4 m.k b (l.take j)else lA m b i g x
theorem KO{m:Mk}{b:Int}{i:Nat}{g:Nat→List Cl}{l:List Cl}{j:Nat}:Jw m b i g l j i=A4 m.k b (l.take j):=if_pos rfl
theorem mD{m:Mk}{b:Int}{i:Nat}{g:Nat→List Cl}{l:List Cl}{j x:Nat}(h:x≠i):Jw m b i g l j x=lA m b i g x:=if_neg h
theorem Bj{m:Mk}{b:Int}{i:Nat}{g:Nat→List Cl}{l:List Cl}(hb:b=m.b)(hi:1≤i)(hl:l=g i):Jw m b i g l l.length=lA m b (i+1) g:=by
 funext x;by_cases q:x=i
 ·subst q;rw[KO,He hb hi,List.take_length,hl]
 ·rw[mD q,VM q]
def Kg(wo:d9)(R2 i:Nat)(f2:Nat→Value)(m:Mk)(b:Int)(g:Nat→List Cl)(l:List Cl)(jv:Value)(wx:d9):Prop:=
 ∃(j:Nat) (va:Option Addr) (vn vc:Nat),jv= .int .i64 j∧j≤l.length∧Ch (fun x=>x=R2∨wo.heap.size≤x) wo wx∧S7 wx R2 (pR f2 i (.slice va vn vc)) (Jw m b i g l j)∧wx.ownsRow wo.heap.size 132 6 (.slice va vn vc) (A4 m.k b (l.take j)).length (l9 (A4 m.k b (l.take j)))
theorem vE{w:d9}{base e n:Nat}{v:Value}{xs:List Value}(h:w.ownsRow base e 6 v n xs): ∃ao c,v= .slice ao n c:=by
 rcases h.2 with ⟨rfl,rfl⟩|⟨g,a,cur,rfl,_⟩
 ·exact⟨_,_,rfl⟩
 ·exact⟨_,_,rfl⟩
theorem GU{wo w5 w6 w7:d9}{R2 i j X:Nat}{f2:Nat→Value}{m:Mk}{b:Int}{g:Nat→List Cl}{l:List Cl}{D:Cl}{va ta:Option Addr}{vn vc tn tc:Nat}(hnx:A4 m.k b (l.take (j+1))=A4 m.k b (l.take j)++[D])(hi:i<7)(hj:j<l.length)(hc5:Ch (fun x=>x=R2∨wo.heap.size≤x) wo w5)(hs2:S7 wo R2 f2 (lA m b i g))
  (hs5:S7 w5 R2 (pR f2 i (.slice va vn vc)) (Jw m b i g l j)) (ho7:w7.ownsRow wo.heap.size 132 6 (.slice ta tn tc) tn (l9 (A4 m.k b (l.take j)++[D]))) (ht:tn=(A4 m.k b (l.take j)++[D]).length) (hb6:f8 w5 w6) (hc7:Ch (fun x=>(Value.slice va vn vc).ownBlock=some x) w6 w7) (hox: ∀x,(Value.slice va vn vc).ownBlock=some x→x<X∧wo.heap.size≤x) (hr:R2<wo.heap.size):
  Kg wo R2 i f2 m b g l (.int .i64 ((j:Int)+1)) (w7.setCell ⟨R2,i,none⟩ (.slice ta tn tc)):=by
 have o: ∀a c:Value,pR (pR f2 i a) i c=pR f2 i c:=fun a c=>by funext x;unfold pR;by_cases q:i=x<;>simp[q]
 refine⟨j+1,ta,tn,tc,by go_num,hj,((hc5.self (Ch.of_below hb6)).trans hc7 (fun x d=> .inl (.inr (hox x d).2))).trans (k8 w7 R2 i _) (fun x d=> .inl (.inl d)),?_,?_⟩
 ·rw[←o (.slice va vn vc)];refine Ao (hs5.below hb6) hc7 (fun e=>by have:=(hox R2 e).2;omega) hi (by rw[KO,hnx];exact(cX ho7).1) (fun x d f=>by rw[mD f,mD f]) (fun x d f h y n e=>?_);rw[mD f]at h;unfold pR at n;rw[if_neg (fun q=>f q.symm)]at n;have p:=PB (hs2.cv x d) h n;have r:=(hox y e).2;omega
 ·rw[hnx,←ht];exact oD ho7 (k8 w7 R2 i _) (fun x d e=>by have p:=(ho7.lt x d).1;subst e;omega)
theorem KE(h:RT A w sv dv k P S)(hs:i6 P S=false)(hrd:S.rd<4611686018427387000)(hwr:S.wr<4611686018427387000)(hM:B7 (A0 P S 0)=(m,0))(hk:Kv w kv ks)(hok:B9 ks)(hkA:ks≠[]→ ∀x,kv.ownBlock=some x→ ¬A x)(b a:Int)
  (hn: ¬(B6 b a=false∨64<ks.length∨K1 ks=false)) (hc:M0 m b a ks=none) (hg16: ∀j,(gP P S 7 j).length≤16) (hgo: ∀j,∀c∈gP P S 7 j,c.okB) (hb63:b≤9223372036854775807):
  Calls Tryz.prog 50 #[sv,.int .i64 b,.int .i64 a,kv] w (PR A w sv dv k P S (tO (gP P S 7) (lA m b 7 (gP P S 7)) 6++[(0,(J1 ⟨b,a,ks⟩).1)])):=by
 have f4:c6 (B9 ks):=hok;have M4:=b9 hg16;have W2:=b9 hgo;have I5:=b9 hb63;clear hg16 hgo hb63;have k5:c6 (S.wr<4611686018427387904):=by show _<_;omega
 obtain⟨sp,R4,_,_⟩:=h.ptr;subst R4;have HT:=b9 h;have HS:c6 (i6 P S=false):=hs;have y5:c6 (S.rd<4611686018427387904):=by show _<_;omega
 have HM:c6 (B7 (A0 P S 0)=(m,0)):=hM;have HK:c6 (Kv w kv ks):=hk;have k4:c6 (ks≠[]→ ∀x,kv.ownBlock=some x→ ¬A x):=hkA;have P0:c6 (∀x,A x→x<w.heap.size):=fun x T=>h.lt T;have K4:=b9 hrd
 have G5:c6 (0≤m.b∧m.b≤1099511627776):=by
  have i2:=(kJ (gU h 0).2 (by rw[hM])).1;rw[hM]at i2;have h:=G6 i2;exact⟨h.1,h.2.1⟩
 have L5:c6 (M0 m b a ks=none):=hc;have F5:c6 (¬(B6 b a=false∨64<ks.length∨K1 ks=false)):=hn;obtain⟨ka,kc,F3,_,V4⟩:=O7 hk;obtain⟨kn,G3⟩:=c7 ks.length;rw[←G3]at F3;subst F3;have HN:c6 (Q7 b a=true):=by show _=_;rw[mK];cases q:B6 b a;exact absurd (.inl q) hn;rfl
 have HR:c6 (K1 ks=true):=by show _=_;cases q:K1 ks;exact absurd (.inr (.inr q)) hn;rfl
 have O5: ¬(kn:Int)>64:=by have: ¬64<ks.length:=fun e=>hn (.inr (.inl e));omega
 clear h hs hrd hwr hok hM hk hkA hn hc G3 V4;go_in;go_wp2_with fail;refine B4 (X9 HT.o HS.o) ?_;go_wp2_with fail;refine(Z5 b a _).mono ?_;rw[HN.o];rintro e w1 ⟨rfl,G⟩;replace G:=G.symm;subst G;go_wp2_with fail;refine(U6 HK.o).mono ?_;rw[HR.o];rintro e w1 ⟨rfl,hB⟩;have X3:=b9 (HT.o.below hB);have B1:=b9 (HK.o.below hB);have V0:c6 (Ch A w w1):=Ch.of_below hB;have j5:c6 (w.heap.size≤w1.heap.size):=hB.size;clear hB;go_wp2_with fail;refine(cL X3.o HS.o y5.o).mono ?_;unfold wT;rw[HM.o];rintro e w3 ⟨ov,rfl,P1,g2,H2⟩;have W3:=b9 g2;have Z2:c6 (Ch A w w3):=V0.o.self H2;have i4:c6 (Kv w3 ov m.k):=z9 P1;have B5:c6 (∀x,ov.ownBlock=some x→ ¬A x):=fun x T e=>by have G:=(P1.lt x T).1;have h2:=P0.o x e;have h3:=j5.o;omega
 have v1:c6 (Kv w3 (.slice ka kn kc) ks):=cY B1.o H2 k4.o;obtain⟨oa,on,oc,T4⟩: ∃x y z,ov= .slice x y z:=by obtain⟨x,z,e⟩:=y9 P1;exact⟨x,_,z,e⟩
 subst T4;clear P1 g2 H2 X3 B1 V0;go_upto_region 7 with fail
 have Z:c6 (f8 w3 (w3.alloc (Obj.cells #[.int .i64 m.b,.int .i64 m.a,.slice oa on oc] 62))):=a8 _ _;have J0:c6 _:=A9 w3 m.b m.a (.slice oa on oc);have o5:c6 (w.heap.size≤w3.heap.size):=Z2.o.size;obtain⟨T9,I2⟩:=c7 w3.heap.size;rw[←I2]at J0⊢;have l5:c6 (w.heap.size≤T9):=by rw[I2];exact o5.o
 clear I2;generalize w3.alloc (Obj.cells #[.int .i64 m.b,.int .i64 m.a,.slice oa on oc] 62)=w4 at Z J0⊢;have V3:=b9 (W3.o.below Z.o);have C4:c6 (Ch A w w4):=Z2.o.self (Ch.of_below Z.o);have g4:=b9 (i4.o.below Z.o);have o4:=b9 (v1.o.below Z.o);clear W3 Z2 i4 v1 Z;obtain⟨J,hJ⟩:=c7 (M9 m.b m.a b a);have HJ:c6 (J=M9 m.b m.a b a):=hJ;clear hJ;have y0:=J0.o.c0;have y1:=J0.o.c1;have y2:=J0.o.c2;go_wp2_with fail;refine(gT m.b m.a b a _).mono ?_;rw[←HJ.o];rintro e O ⟨rfl,f0⟩;have O2:=b9 (V3.o.below f0);have K0:c6 (Ch A w O):=C4.o.self (Ch.of_below f0);have i1:=b9 (g4.o.below f0);have l4:=b9 (o4.o.below f0);have l1:=b9 (J0.o.keep f0);have D1:c6 (F0 1 S (aF P S 0)):=J5;clear f0 V3 C4 g4 o4 J0 y0 y1 y2
 have W4: ¬(J:Int)=130∧ ¬(J:Int)=0∧ ¬m.b+1<b:=by
  have h:=L5.o;unfold M0 at h;rw[if_neg F5.o]at h;rw[←HJ.o]at h;by_cases q1:J=130
  ·rw[if_pos q1]at h;cases h
  ·rw[if_neg q1]at h;by_cases q2:J=0
   ·rw[if_pos q2]at h;cases h
   ·rw[if_neg q2]at h;by_cases q3:m.b+1<b
    ·rw[if_pos q3]at h;cases h
    ·exact⟨by omega,by omega,q3⟩
 obtain⟨Z4,Y4,S5⟩:=W4;have hw:IntKind.i64.wrap (m.b+1)=m.b+1:=by have:=G5.o;rw[IntKind.wrap_i64];omega
 have y0:=l1.o.c0;have y1:=l1.o.c1;have y2:=l1.o.c2;obtain⟨S1,O3⟩:=c7 (aF P S 0);rw[←O3]at O2 D1;clear O3;go_wp2_with fail;refine(aV O2.o (by rw[C3 D1.o];exact HS.o) (by have G:=D1.o.rd;have h2:=K4.o;omega)).mono ?_;rintro e R ⟨f,S2,rfl,F,I3,L,b2,L1,w0⟩;have HG:c6 (gP P S1 7=gP P S 7):=by show _=_;funext j;unfold gP;rw[J3 D1.o]
 rw[HG.o]at L;have U5:c6 (∀j,j<7→ ∀x,(f j).ownBlock=some x→O.heap.size≤x):=I3;have y4:=b9 L;have N2:=b9 b2;have v2:c6 (F0 (1+6) S S2):=D1.o.trans L1;have Y1:c6 (Ch A w R):=K0.o.self w0;have D5:c6 (¬A T9):=fun e=>by have G:=P0.o _ e;have h2:=l5.o;omega
 have T2:c6 (MB R T9 m.b m.a (.slice oa on oc)):=l1.o.ch w0 D5.o;have I0:c6 (Kv R (.slice oa on oc) m.k):=pJ i1.o w0 B5.o;have U2:c6 (Kv R (.slice ka kn kc) ks):=cY l4.o w0 k4.o;have Y3:c6 _:=eT L;have l0:c6 _:=eT (w:=R.alloc (Obj.cells #[f 0,f 1,f 2,f 3,f 4,f 5,f 6] 147)) (fun j hj=>(L j hj).below (a8 _ _));have H1:c6 _:=Y3.o.below (a8 _ (Obj.cells #[f 0,f 1,f 2,f 3,f 4,f 5,f 6] 147));have L0:c6 (f8 R ((R.alloc (Obj.cells #[f 0,f 1,f 2,f 3,f 4,f 5,f 6] 147)).alloc (Obj.cells #[f 0,f 1,f 2,f 3,f 4,f 5,f 6] 147))):=a9 (a8 _ _) (a8 _ _);obtain⟨a0,n0,p0,e0⟩:=F 0 (by omega);obtain⟨a1,n1,p1,e1⟩:=F 1 (by omega);obtain⟨a2,n2,p2,e2⟩:=F 2 (by omega);obtain⟨a3,n3,p3,e3⟩:=F 3 (by omega);obtain⟨a4,n4,p4,e4⟩:=F 4 (by omega);obtain⟨a5,n5,p5,e5⟩:=F 5 (by omega);obtain⟨a6,n6,p6,e6⟩:=F 6 (by omega);rw[g8]at l0;rw[e0,e1,e2,e3,e4,e5,e6]at H1 l0 L0⊢;have HE:c6 (f 0= .slice a0 n0 p0∧f 1= .slice a1 n1 p1∧f 2= .slice a2 n2 p2∧f 3= .slice a3 n3 p3∧f 4= .slice a4 n4 p4∧f 5= .slice a5 n5 p5∧f 6= .slice a6 n6 p6):=⟨e0,e1,e2,e3,e4,e5,e6⟩;clear F I3 L b2 L1 w0 e0 e1 e2 e3 e4 e5 e6 O2 K0 i1 l4 l1 Y3 Z4 Y4 hw y0 y1 y2;go_upto_region 18 with fail
 obtain⟨R1,Q3⟩:=c7 R.heap.size
 have T0:c6 (UD A w sp dv k P S2 m (.slice oa on oc) (.slice ka kn kc) ks R.heap.size (R.heap.size+1) T9 f (gP P S 7) ((R.alloc (Obj.cells #[.slice a0 n0 p0,.slice a1 n1 p1,.slice a2 n2 p2,.slice a3 n3 p3,.slice a4 n4 p4,.slice a5 n5 p5,.slice a6 n6 p6] 147)).alloc (Obj.cells #[.slice a0 n0 p0,.slice a1 n1 p1,.slice a2 n2 p2,.slice a3 n3 p3,.slice a4 n4 p4,.slice a5 n5 p5,.slice a6 n6 p6] 147))):=
  ⟨N2.o.below L0.o,T2.o.keep L0.o,I0.o.below L0.o,U2.o.below L0.o,H1.o,Y1.o.self (Ch.of_below L0.o),by omega,by have:=c8 T2.o.c0;simp only at this;omega,fun e=>by have G:=P0.o _ e;have h2:=Y1.o.size;omega,by obtain⟨s,e,G,_⟩:=N2.o.ptr;cases e;omega,
   fun q x T=>by have:=mS I0.o q T;omega,fun q x T=>by have:=mS U2.o q T;omega,fun j hj q x T=>by have:=PB (y4.o j hj) q T;omega,by have h2:=Y1.o.size;omega⟩
 rw[←Q3]at T0 l0⊢;generalize ((R.alloc (Obj.cells #[.slice a0 n0 p0,.slice a1 n1 p1,.slice a2 n2 p2,.slice a3 n3 p3,.slice a4 n4 p4,.slice a5 n5 p5,.slice a6 n6 p6] 147)).alloc (Obj.cells #[.slice a0 n0 p0,.slice a1 n1 p1,.slice a2 n2 p2,.slice a3 n3 p3,.slice a4 n4 p4,.slice a5 n5 p5,.slice a6 n6 p6] 147))=w7 at T0 l0⊢;obtain⟨r,P3⟩:=c7 (R1+1);rw[←P3]at T0 l0⊢;obtain⟨g,hg⟩:=c7 (gP P S 7);rw[←hg]at T0 l0⊢;have U0:c6 (g=gP P S 7):=hg;have H0:c6 (BgR A w sp dv k P S2 m (.slice oa on oc) (.slice ka kn kc) ks R1 r T9 f g b (.int .i64 1) w7):=⟨1,f,rfl,by omega,by omega,.inr rfl,T0.o,by rw[Au];exact l0.o⟩;clear Q3 P3 hg T0 l0 H1 L0 N2 T2 I0 U2 Y1 y4;go_upto_block 1 with fail;go_cut [] (fun wx=>UD A w sp dv k P S2 m (.slice oa on oc) (.slice ka kn kc) ks R1 r T9 f g wx∧ ∃f2,S7 wx r f2 (lA m b 7 g))
 case first=>
  go_wp2_with fail;go_loopw [13] (fun iv wr=>BgR A w sp dv k P S2 m (.slice oa on oc) (.slice ka kn kc) ks R1 r T9 f g b iv wr) (fun iv _=>7-(intOf iv).toNat)
  case atStart=>exact H0.o
  case round=>
   clear H0;obtain⟨i,f2,rfl,g5,Q5,f5,hI,hS⟩:=hrel;obtain⟨wo,i3⟩:=c7 wr;rw[←i3]at hI hS⊢;clear i3;have HI:=b9 hI;have W:=b9 hS;have y0:=HI.o.mb.c0;clear hI hS f5;by_cases R5:i≤6;rotate_left
   ·have b5: ¬(i:Int)≤6:=by omega
    obtain rfl:i=7:=by omega
    go_wp2_with fail;go_meet;exact⟨HI.o,f2,W.o⟩
   have b5:(i:Int)≤6:=by omega
   by_cases L3:b=m.b;rotate_left
   ·go_wp2_with fail;go_meet;exact⟨HI.o,f2,by have h:=W.o;rw[Av L3]at h⊢;exact h⟩
   subst L3;have h5:c6 (1≤i):=g5;have N:i<7:=by omega
   have N5:(i:Int)<7:=by omega
   obtain⟨l,hl⟩:=c7 (g i);have HL:c6 (l=g i):=hl;have L:=HI.o.q1.cv i N;rw[←hl]at L;obtain⟨pa,pc,F2⟩:=L.form;obtain⟨pn,N1⟩:=c7 l.length;rw[←N1]at F2;have Z3:c6 (f i= .slice pa pn pc):=F2;have P2:c6 (pn=l.length):=N1;have H4:c6 (pn≤16):=by show _≤_;rw[N1,hl,U0.o];exact M4.o i
   have T5:(pn:Int)≤16:=by have:=H4.o;omega
   have q0:=W.o.c i N;obtain⟨ta,tc,j3⟩:=W.o.form (i:=i) N;rw[j3]at q0;have q1:=W.o.z i;have k0:c6 (r<wo.heap.size):=W.o.lt
   have V1:c6 (Kg wo r i f2 m m.b g l (.int .i64 0) (wo.setCell ⟨r,i,none⟩ (.slice none 0 0))):=by
    refine⟨0,none,0,0,rfl,by omega,(Ch.refl _ _).trans (k8 wo r i _) (fun x T=> .inl (.inl T)),?_,?_⟩
    ·exact W.o.set N (by rw[KO];simpa[A4]using Cv.nil wo) (fun j hj hn=>mD hn)
    ·simp only[List.take_zero];exact⟨rfl,.inl ⟨rfl,rfl⟩⟩
   clear hl L F2 N1 j3;go_upto_block 2 with fail;go_cut [] (fun wx=>UD A w sp dv k P S2 m (.slice oa on oc) (.slice ka kn kc) ks R1 r T9 f g wx∧ ∃f3,S7 wx r f3 (lA m m.b (i+1) g))
   case first=>
    go_upto_region 22 with fail
    generalize wo.setCell ⟨r,i,none⟩ (.slice none 0 0)=w1 at V1⊢;clear q0 q1 y0;go_wp2_with fail;go_loopw [14] (fun jv wx=>Kg wo r i f2 m m.b g l jv wx) (fun jv _=>pn-(intOf jv).toNat)
    case atStart=>exact V1.o
    case round=>
     clear V1;obtain⟨j,va,vn,vc,rfl,hj,G2,k3,C⟩:=hrel;have HC:c6 (Ch (fun x=>x=r∨wo.heap.size≤x) wo wr):=G2;have T1:=b9 k3;have HO:=b9 C;have S0:c6 (UD A w sp dv k P S2 m (.slice oa on oc) (.slice ka kn kc) ks R1 r T9 f g wr):=HI.o.chR G2;have m0:=S0.o.q1.c i N;rw[Z3.o]at m0;have L:=S0.o.q1.cv i N;rw[Z3.o,←HL.o]at L;clear G2 k3 C;by_cases H3:j<pn;rotate_left
     ·have I4: ¬(j:Int)<(pn:Int):=by omega
      have X4:decide (j<pn)=false:=decide_eq_false H3;obtain rfl:j=l.length:=by have:=P2.o;omega
      clear L;go_wp2_with fail;go_meet;exact⟨S0.o,_,by have h:=T1.o;rw[Bj rfl h5.o HL.o]at h;exact h⟩
     ·have I4:(j:Int)<(pn:Int):=by omega
      have X4:decide (j<pn)=true:=decide_eq_true H3;have Q:j<l.length:=by have:=P2.o;omega
      go_upto_block 4 with fail;go_cut [] (fun wx=>Kg wo r i f2 m m.b g l (.int .i64 ((j:Int)+1)) wx)
      case first=>
       rcases B2 L with ⟨h0,_⟩|⟨b1,o1,c1,e1,_,_,_,k1⟩
       ·rw[h0]at Q;simp at Q
       simp only[Value.slice.injEq]at e1;have i5:=e1.1;clear e1 L;subst i5;obtain⟨x0,x1,x2,x3,x4,x5⟩:=k1 j Q;obtain⟨c,hc⟩:=c7 (l[j]);rw[←hc]at x0 x1 x2 x3 x4 x5;have V0:c6 (c=l[j]):=hc;clear k1 hc;go_upto_region 26 with fail
       clear x0 x1 x2 x3 x4 x5 m0;have F1:c6 (CB (wr.alloc (Obj.cells #[.int .u64 c.k,.bool c.p.h,.int .u64 c.p.b,.bool c.c.h,.int .u64 c.c.b,.int .i64 c.n] 132)) wr.heap.size c):=B0 wr c;have G1:c6 (f8 wr (wr.alloc (Obj.cells #[.int .u64 c.k,.bool c.p.h,.int .u64 c.p.b,.bool c.c.h,.int .u64 c.c.b,.int .i64 c.n] 132))):=a8 _ _;obtain⟨X,hX⟩:=c7 wr.heap.size;rw[←hX]at F1⊢;have HX:c6 (X=wr.heap.size):=hX;clear hX;generalize wr.alloc (Obj.cells #[.int .u64 c.k,.bool c.p.h,.int .u64 c.p.b,.bool c.c.h,.int .u64 c.c.b,.int .i64 c.n] 132)=w2 at G1 F1⊢;have X1:c6 (MB w2 T9 m.b m.a (.slice oa on oc)):=S0.o.mb.keep G1.o;have A1:c6 (Kv w2 (.slice oa on oc) m.k):=S0.o.ko.below G1.o;have y0:=X1.o.c0;have y1:=X1.o.c1;have y2:=X1.o.c2;have c0:=F1.o.c0;obtain⟨H,hH⟩:=c7 (decide (c.k∈m.k));go_wp2_with fail;refine(bF A1.o m.b m.a c.k).mono ?_;rw[←hH];rintro e w3 ⟨rfl,L2⟩;have Z1:=b9 (a9 G1.o L2);have I:c6 (CB w3 X c):=F1.o.keep L2;have V2:c6 (H=decide (c.k∈m.k)):=hH;clear L2 hH G1 F1 X1 A1 y0 y1 y2 c0;go_upto_if 89 with fail;go_cut [] (fun wx=>f8 wr wx∧CB wx X (U1 m.k m.b c))
       case first=>
        cases H
        ·have HD:c6 (U1 m.k m.b c=c):=by show _=_;unfold U1;rw[if_neg (of_decide_eq_false V2.o.symm)]
         go_wp2_with fail;go_meet;exact⟨Z1.o,by rw[HD.o];exact I.o⟩
        ·obtain⟨D,hD⟩:=c7 (U1 m.k m.b c);have S3:bP c m.b=D:=by rw[hD];unfold U1;rw[if_pos (of_decide_eq_true V2.o.symm)]
         have HD:c6 (U1 m.k m.b c=D):=hD.symm;clear hD;have c0:=I.o.c0;have c1:=I.o.c1;have c2:=I.o.c2;have c3:=I.o.c3;have c4:=I.o.c4;have c5:=I.o.c5;go_wp2_with fail;refine(xW c I5.o _).mono ?_;rw[S3];rintro e w4 ⟨rfl,K2⟩;have Z:=b9 (a9 Z1.o K2);have v:c6 (CB w4 X c):=I.o.keep K2;clear c0 c1 c2 c3 c4 c5 K2 S3 Z1 I;have c0:=v.o.c0;have c1:=v.o.c1;have c2:=v.o.c2;have c3:=v.o.c3;have c4:=v.o.c4;have c5:=v.o.c5;have z0:=v.o.z 0;have z1:=v.o.z 1;have z2:=v.o.z 2;have z3:=v.o.z 3;have z4:=v.o.z 4;have z5:=v.o.z 5;have g0:c6 (CB _ X D):=v.o.set D;have v0:c6 _:=R7 Z.o (Nat.le_of_eq HX.o.symm) (.int .u64 D.k) (.bool D.p.h) (.int .u64 D.p.b) (.bool D.c.h) (.int .u64 D.c.b) (.int .i64 D.n);go_wp2_with fail;go_meet;exact⟨v0.o,by rw[HD.o];exact g0.o⟩
       case rest=>
        clear Z1 I V2;obtain⟨M3,D2⟩:=hcut;obtain⟨D,hD⟩:=c7 (U1 m.k m.b c);rw[←hD]at D2;have X2:c6 (D=U1 m.k m.b c):=hD;have Z:=b9 M3;have g0:c6 (CB wc X D):=D2;clear hD M3 D2;have c0:=g0.o.c0;have c1:=g0.o.c1;have c2:=g0.o.c2;have c3:=g0.o.c3;have c4:=g0.o.c4;have c5:=g0.o.c5;go_wp2_with fail;refine(U7 D _).mono ?_;obtain⟨EM,Y0⟩:=c7 (aG D);rw[←Y0];rintro e O ⟨rfl,f0⟩;have v0:=b9 (a9 Z.o f0);have j0:c6 (CB O X D):=g0.o.keep f0;clear f0 c0 c1 c2 c3 c4 c5 Z g0
        cases EM
        rotate_left
        ·have j1:c6 (A4 m.k m.b (l.take (j+1))=A4 m.k m.b (l.take j)):=yA Q (by rw[←V0.o,←X2.o];exact Y0.symm);clear Y0;go_wp2_with fail;go_meet;exact⟨j+1,va,vn,vc,by go_num,Q,HC.o.self (Ch.of_below v0.o),by have h:=T1.o.below v0.o;unfold Jw at h⊢;rw[j1.o];exact h,by rw[j1.o];exact j8 HO.o v0.o⟩
        ·have j1:c6 (A4 m.k m.b (l.take (j+1))=A4 m.k m.b (l.take j)++[D]):=by have h:=rM (ks:=m.k) (b:=m.b) Q (by rw[←V0.o,←X2.o];exact Y0.symm);rw[←V0.o,←X2.o]at h;exact h
         clear Y0;have Q0:=b9 (T1.o.below v0.o);have i1:c6 (O.ownsRow wo.heap.size 132 6 (.slice va vn vc) (A4 m.k m.b (l.take j)).length (l9 (A4 m.k m.b (l.take j)))):=j8 HO.o v0.o;have K0:c6 (Ch (fun x=>x=r∨wo.heap.size≤x) wo O):=HC.o.self (Ch.of_below v0.o);have i0:c6 (∀x,(Value.slice va vn vc).ownBlock=some x→x<X∧wo.heap.size≤x):=fun x T=>⟨by rw[HX.o];exact(HO.o.lt x T).2,(HO.o.lt x T).1⟩;have j4:c6 ((A4 m.k m.b (l.take j)).length≤100):=by show _≤_;have G:=lW m.k m.b (l.take j);have h2:=H4.o;have h3:=P2.o;rw[List.length_take]at G;omega
         have m3:O.cell? ⟨r,i,none⟩=some (.slice va vn vc):=by have h:=Q0.o.c i N;unfold pR at h;rw[if_pos rfl]at h;exact h
         have W1:c6 (O.cell? ⟨r,i,none⟩=some (.slice va vn vc)):=m3;have R0:c6 (r<O.heap.size):=Q0.o.lt;have U3:c6 (wo.heap.size≤X):=by show _≤_;rw[HX.o];exact HC.o.size
         have l2:c6 (X<O.heap.size):=c8 j0.o.c0;clear T1 HO HC S0;go_upto_region 29 with fail
         refine wp_region_noPanic ?_;refine wp_region_held_drew (S:=(fun wx:d9=>wx.cell? ⟨X,0,none⟩=some (.int .u64 D.k)∧wx.cell? ⟨X,1,none⟩=some (.bool D.p.h)∧wx.cell? ⟨X,2,none⟩=some (.int .u64 D.p.b)∧wx.cell? ⟨X,3,none⟩=some (.bool D.c.h)∧wx.cell? ⟨X,4,none⟩=some (.int .u64 D.c.b)∧wx.cell? ⟨X,5,none⟩=some (.int .i64 D.n))) (by kernel_rfl) ?_ fun d=>?_
         ·exact(by have h:=j0.o.keep (d8 O 1);exact⟨h.c0,h.c1,h.c2,h.c3,h.c4,h.c5⟩)
         refine g6 0 96 rfl d ?_;refine g6 1 97 rfl d ?_;refine g6 2 98 rfl d ?_;refine g6 4 100 rfl d ?_;refine wpAnyH_ready (rs:=[3,5]) (by kernel_rfl) (by simp) ?_;refine AllReadyH.cons (o:=⟨some 99,_,_,_,_,_⟩) rfl (fun K U=>?_) (AllReadyH.cons (o:=⟨some 101,_,_,_,_,_⟩) rfl (fun K U=>?_) AllReadyH.nil)
         ·go_simp;refine U.out _ _ ?_ fun d=>?_
          ·exact(by have h:=j0.o.keep (d8 O 1);exact⟨h.c0,h.c1,h.c2,h.c3,h.c4,h.c5⟩)
          clear U K;try simp only[Act.put,zz]
          refine C7 5 101 rfl fun K U=>?_;go_simp;have G0:f8 O ((O.alloc (Obj.cells #[.int .u64 D.k,.bool D.p.h,.int .u64 D.p.b,.bool D.c.h,.int .u64 D.c.b,.int .i64 D.n] 132)).drew):=a9 (a8 _ _) (d8 _ 1);have D0:CB ((O.alloc (Obj.cells #[.int .u64 D.k,.bool D.p.h,.int .u64 D.p.b,.bool D.c.h,.int .u64 D.c.b,.int .i64 D.n] 132)).drew) O.heap.size D:=(B0 O D).keep (d8 _ 1);generalize (O.alloc (Obj.cells #[.int .u64 D.k,.bool D.p.h,.int .u64 D.p.b,.bool D.c.h,.int .u64 D.c.b,.int .i64 D.n] 132)).drew=R at G0 D0⊢;have t:=b9 G0;have Y2:=b9 D0;clear G0 D0;have m6:R.cell? ⟨r,i,none⟩=some (.slice va vn vc):=by rw[t.o.cell (p:=⟨r,i,none⟩) R0.o];exact W1.o
          have I0:c6 (R.ownsRow wo.heap.size 132 6 (.slice va vn vc) (A4 m.k m.b (l.take j)).length (l9 (A4 m.k m.b (l.take j)))):=j8 i1.o t.o;have g1:c6 (CB R X D):=j0.o.keep t.o;refine U.out _ _ ?_ fun d=>?_
          ·exact(by have h:=j0.o.keep t.o;exact⟨h.c0,h.c1,h.c2,h.c3,h.c4,h.c5⟩)
          clear U K;try simp only[Act.put,zz]
          refine C7 6 102 rfl fun K U=>?_;refine oX rfl (.tmp 99) (.tmp 101) rfl (base:=wo.heap.size) (.slice va vn vc) (A4 m.k m.b (l.take j)) (by simp[Act.eval]) I0.o O.heap.size D (by simp[Act.eval]) Y2.o j4.o (by have G:=K0.o.size;have h2:=t.o.size;omega) ?_;intro v7 w7 C b0;obtain⟨ta,tc,X0⟩:=vE C;obtain⟨tn,C0⟩:=c7 ((A4 m.k m.b (l.take j)++[D]).length);rw[←C0]at C X0;subst X0;have M2:c6 (tn=(A4 m.k m.b (l.take j)++[D]).length):=C0;have Q2:=b9 C;have Y:c6 (Ch (fun x=>(Value.slice va vn vc).ownBlock=some x) R w7):=Ch.of_grown b0 (fun x T=>T);clear C b0 C0;have m7:w7.cell? ⟨r,i,none⟩=some (.slice va vn vc):=Y.o.cell (by rw[t.o.cell (p:=⟨r,i,none⟩) R0.o];exact W1.o) (fun e=>by have G:=(i0.o r e).2;have h2:=k0.o;omega);have z7:w7.frozen? ⟨r,i,none⟩=false:=by have h:=(Q0.o.below t.o).z i;have e:=Y.o.block r (by have G:=R0.o;have h2:=t.o.size;omega) (fun e=>by have G:=(i0.o r e).2;have h2:=k0.o;omega);unfold World.frozen? at h⊢;rw[e];exact h
          have f1:c6 (CB w7 X D):=by have q: ∀(c:Nat) (u:Value),R.cell? ⟨X,c,none⟩=some u→w7.cell? ⟨X,c,none⟩=some u:=(fun c u h=>Y.o.cell h (fun e=>by have G:=(i0.o X e).1;omega));have h:=g1.o;exact⟨q _ _ h.c0,q _ _ h.c1,q _ _ h.c2,q _ _ h.c3,q _ _ h.c4,q _ _ h.c5,fun c=>by have h:=g1.o.z c;have e:=Y.o.block X (by have G:=l2.o;have h2:=t.o.size;omega) (fun e=>by have G:=(i0.o X e).1;omega);unfold World.frozen? at h⊢;rw[e];exact h⟩
          refine U.out _ _ ?_ fun d=>?_
          ·exact(by have h:=f1.o;exact⟨h.c0,h.c1,h.c2,h.c3,h.c4,h.c5⟩)
          clear U K;try simp only[Act.put,zz]
          refine g6 7 103 rfl d ?_;refine wpAnyH_ready (rs:=[8]) (by kernel_rfl) (by simp) ?_;refine AllReadyH.cons (o:=⟨none,_,_,_,_,_⟩) rfl (fun K U=>?_) AllReadyH.nil;go_simp;have C1:c6 (Kg wo r i f2 m m.b g l (.int .i64 ((j:Int)+1)) (w7.setCell ⟨r,i,none⟩ (.slice ta tn tc))):=GU j1.o N Q K0.o W.o Q0.o Q2.o M2.o t.o Y.o i0.o k0.o;have Z0:c6 (CB (w7.setCell ⟨r,i,none⟩ (.slice ta tn tc)) X D):=f1.o.other (p:=⟨r,i,none⟩) (fun e=>by have G:=U3.o;have h2:=k0.o;simp only at e;omega) _;generalize w7.setCell ⟨r,i,none⟩ (.slice ta tn tc)=w8 at C1 Z0⊢;refine U.out _ _ ?_ fun d=>?_
          ·exact(by have h:=Z0.o;exact⟨h.c0,h.c1,h.c2,h.c3,h.c4,h.c5⟩)
          clear U K;try simp only[Act.put,zz]
          refine wpAnyH_done (by kernel_rfl) ?_ _;refine NoPanic.normal ?_;go_wp2_with fail;go_meet;exact C1.o
         ·go_simp;have G0:f8 O ((O.alloc (Obj.cells #[.int .u64 D.k,.bool D.p.h,.int .u64 D.p.b,.bool D.c.h,.int .u64 D.c.b,.int .i64 D.n] 132)).drew):=a9 (a8 _ _) (d8 _ 1);have D0:CB ((O.alloc (Obj.cells #[.int .u64 D.k,.bool D.p.h,.int .u64 D.p.b,.bool D.c.h,.int .u64 D.c.b,.int .i64 D.n] 132)).drew) O.heap.size D:=(B0 O D).keep (d8 _ 1);generalize (O.alloc (Obj.cells #[.int .u64 D.k,.bool D.p.h,.int .u64 D.p.b,.bool D.c.h,.int .u64 D.c.b,.int .i64 D.n] 132)).drew=R at G0 D0⊢;have t:=b9 G0;have Y2:=b9 D0;clear G0 D0;have m6:R.cell? ⟨r,i,none⟩=some (.slice va vn vc):=by rw[t.o.cell (p:=⟨r,i,none⟩) R0.o];exact W1.o
          have I0:c6 (R.ownsRow wo.heap.size 132 6 (.slice va vn vc) (A4 m.k m.b (l.take j)).length (l9 (A4 m.k m.b (l.take j)))):=j8 i1.o t.o;have g1:c6 (CB R X D):=j0.o.keep t.o;refine U.out _ _ ?_ fun d=>?_
          ·exact(by have h:=j0.o.keep t.o;exact⟨h.c0,h.c1,h.c2,h.c3,h.c4,h.c5⟩)
          clear U K;try simp only[Act.put,zz]
          refine C7 3 99 rfl fun K U=>?_;go_simp;refine U.out _ _ ?_ fun d=>?_
          ·exact(by have h:=j0.o.keep t.o;exact⟨h.c0,h.c1,h.c2,h.c3,h.c4,h.c5⟩)
          clear U K;try simp only[Act.put,zz]
          refine C7 6 102 rfl fun K U=>?_;refine oX rfl (.tmp 99) (.tmp 101) rfl (base:=wo.heap.size) (.slice va vn vc) (A4 m.k m.b (l.take j)) (by simp[Act.eval]) I0.o O.heap.size D (by simp[Act.eval]) Y2.o j4.o (by have G:=K0.o.size;have h2:=t.o.size;omega) ?_;intro v7 w7 C b0;obtain⟨ta,tc,X0⟩:=vE C;obtain⟨tn,C0⟩:=c7 ((A4 m.k m.b (l.take j)++[D]).length);rw[←C0]at C X0;subst X0;have M2:c6 (tn=(A4 m.k m.b (l.take j)++[D]).length):=C0;have Q2:=b9 C;have Y:c6 (Ch (fun x=>(Value.slice va vn vc).ownBlock=some x) R w7):=Ch.of_grown b0 (fun x T=>T);clear C b0 C0;have m7:w7.cell? ⟨r,i,none⟩=some (.slice va vn vc):=Y.o.cell (by rw[t.o.cell (p:=⟨r,i,none⟩) R0.o];exact W1.o) (fun e=>by have G:=(i0.o r e).2;have h2:=k0.o;omega);have z7:w7.frozen? ⟨r,i,none⟩=false:=by have h:=(Q0.o.below t.o).z i;have e:=Y.o.block r (by have G:=R0.o;have h2:=t.o.size;omega) (fun e=>by have G:=(i0.o r e).2;have h2:=k0.o;omega);unfold World.frozen? at h⊢;rw[e];exact h
          have f1:c6 (CB w7 X D):=by have q: ∀(c:Nat) (u:Value),R.cell? ⟨X,c,none⟩=some u→w7.cell? ⟨X,c,none⟩=some u:=(fun c u h=>Y.o.cell h (fun e=>by have G:=(i0.o X e).1;omega));have h:=g1.o;exact⟨q _ _ h.c0,q _ _ h.c1,q _ _ h.c2,q _ _ h.c3,q _ _ h.c4,q _ _ h.c5,fun c=>by have h:=g1.o.z c;have e:=Y.o.block X (by have G:=l2.o;have h2:=t.o.size;omega) (fun e=>by have G:=(i0.o X e).1;omega);unfold World.frozen? at h⊢;rw[e];exact h⟩
          refine U.out _ _ ?_ fun d=>?_
          ·exact(by have h:=f1.o;exact⟨h.c0,h.c1,h.c2,h.c3,h.c4,h.c5⟩)
          clear U K;try simp only[Act.put,zz]
          refine g6 7 103 rfl d ?_;refine wpAnyH_ready (rs:=[8]) (by kernel_rfl) (by simp) ?_;refine AllReadyH.cons (o:=⟨none,_,_,_,_,_⟩) rfl (fun K U=>?_) AllReadyH.nil;go_simp;have C1:c6 (Kg wo r i f2 m m.b g l (.int .i64 ((j:Int)+1)) (w7.setCell ⟨r,i,none⟩ (.slice ta tn tc))):=GU j1.o N Q K0.o W.o Q0.o Q2.o M2.o t.o Y.o i0.o k0.o;have Z0:c6 (CB (w7.setCell ⟨r,i,none⟩ (.slice ta tn tc)) X D):=f1.o.other (p:=⟨r,i,none⟩) (fun e=>by have G:=U3.o;have h2:=k0.o;simp only at e;omega) _;generalize w7.setCell ⟨r,i,none⟩ (.slice ta tn tc)=w8 at C1 Z0⊢;refine U.out _ _ ?_ fun d=>?_
          ·exact(by have h:=Z0.o;exact⟨h.c0,h.c1,h.c2,h.c3,h.c4,h.c5⟩)
          clear U K;try simp only[Act.put,zz]
          refine wpAnyH_done (by kernel_rfl) ?_ _;refine NoPanic.normal ?_;go_wp2_with fail;go_meet;exact C1.o
      case rest=>
       clear L;go_wp2_with fail;go_roundw
       case rel=>exact hcut
       case measure=>simp[intOf];omega
   case rest=>
    obtain⟨R3,f3,N3⟩:=hcut;have H5:=b9 R3;have v5:=b9 N3;clear R3 N3 V1;go_wp2_with fail;go_roundw
    case rel=>exact⟨i+1,f3,by go_num,by omega,by omega,.inl rfl,H5.o,v5.o⟩
    case measure=>simp[intOf];omega
 case rest=>
  obtain⟨hI,f2,hS⟩:=hcut;have HI:=b9 hI;have W:=b9 hS;clear hI hS H0;go_wp2_with fail;refine(rK HI.o.kk f4.o b a).mono ?_;rintro e w8 ⟨v8,rfl,O1,Q1⟩;obtain⟨E,hE⟩:=c7 (J1 ⟨b,a,ks⟩);rw[←hE]at O1⊢;have v4:c6 (E=J1 ⟨b,a,ks⟩):=hE;have g3:c6 (∀c∈E.1,c<256):=by rw[hE];exact nB f4.o
  have F4:=b9 Q1;have C5:=b9 O1;obtain⟨va,vn,vc,Q4⟩: ∃x y z,v8= .slice x y z:=by obtain⟨x,z,e⟩:=y9 O1;exact⟨x,_,z,e⟩
  subst Q4;have M:=b9 (W.o.below Q1);have o0:=b9 (HI.o.below Q1);clear O1 Q1 hE;obtain⟨e0,e1,e2,e3,e4,e5,e6⟩:=HE.o;obtain⟨q0,t0,d0⟩:=M.o.form (i:=0) (by omega);obtain⟨q1,t1,d1⟩:=M.o.form (i:=1) (by omega);obtain⟨q2,t2,d2⟩:=M.o.form (i:=2) (by omega);obtain⟨q3,t3,d3⟩:=M.o.form (i:=3) (by omega);obtain⟨q4,t4,d4⟩:=M.o.form (i:=4) (by omega);obtain⟨q5,t5,d5⟩:=M.o.form (i:=5) (by omega);obtain⟨q6,t6,d6⟩:=M.o.form (i:=6) (by omega);obtain⟨m0,D3⟩:=c7 ((lA m b 7 g 0).length);rw[←D3]at d0;clear D3;obtain⟨m1,B3⟩:=c7 ((lA m b 7 g 1).length);rw[←B3]at d1;clear B3;obtain⟨m2,A3⟩:=c7 ((lA m b 7 g 2).length);rw[←A3]at d2;clear A3;obtain⟨m3,y3⟩:=c7 ((lA m b 7 g 3).length);rw[←y3]at d3;clear y3;obtain⟨m4,v3⟩:=c7 ((lA m b 7 g 4).length);rw[←v3]at d4;clear v3;obtain⟨m5,o3⟩:=c7 ((lA m b 7 g 5).length);rw[←o3]at d5;clear o3;obtain⟨m6,l3⟩:=c7 ((lA m b 7 g 6).length);rw[←l3]at d6;clear l3;have r0:=o0.o.q1.c 0 (by omega);rw[e0]at r0;have r1:=o0.o.q1.c 1 (by omega);rw[e1]at r1;have r2:=o0.o.q1.c 2 (by omega);rw[e2]at r2;have r3:=o0.o.q1.c 3 (by omega);rw[e3]at r3;have r4:=o0.o.q1.c 4 (by omega);rw[e4]at r4;have r5:=o0.o.q1.c 5 (by omega);rw[e5]at r5;have r6:=o0.o.q1.c 6 (by omega);rw[e6]at r6;have s0:=M.o.c 0 (by omega);rw[d0]at s0;have s1:=M.o.c 1 (by omega);rw[d1]at s1;have s2:=M.o.c 2 (by omega);rw[d2]at s2;have s3:=M.o.c 3 (by omega);rw[d3]at s3;have s4:=M.o.c 4 (by omega);rw[d4]at s4;have s5:=M.o.c 5 (by omega);rw[d5]at s5;have s6:=M.o.c 6 (by omega);rw[d6]at s6
  have hw:=jL (fun j hj=>o0.o.q1.cv j hj) (fun j hj=>M.o.cv j hj) (fun j hj c hc=>by rw[U0.o]at hc;exact W2.o j c hc) (fun j hj c hc=>by
   unfold lA at hc
   split at hc
   ·exact CF (fun c hc=>by rw[U0.o]at hc;exact W2.o j c hc) c hc
   ·rw[U0.o]at hc;exact W2.o j c hc)
  rw[e0,e1,e2,e3,e4,e5,e6,d0,d1,d2,d3,d4,d5,d6]at hw;have HW:c6 _:=hw;clear hw e0 e1 e2 e3 e4 e5 e6 d0 d1 d2 d3 d4 d5 d6;go_wp2_with fail;refine Calls.mono HW.o ?_;rintro e w9 ⟨lv,rfl,O0,J2⟩;obtain⟨la,ln,lc,U4⟩:=iK O0;subst U4;obtain⟨ps,M1⟩:=c7 (tO g (lA m b 7 g) 6);rw[←M1]at O0;have b4:c6 (ps=tO g (lA m b 7 g) 6):=M1;have A5:c6 (ps.length≤6):=by show _≤_;rw[M1];exact MS _ _ 6
  have M5:=b9 (a9 F4.o J2);have J4:c6 (WL wc.heap.size (w9.alloc (Obj.cells #[.int .i64 0,.slice va vn vc] 77)) (.slice la ln lc) ps):=(O0.low F4.o.size).below (a8 _ _);have L4:c6 ((w9.alloc (Obj.cells #[.int .i64 0,.slice va vn vc] 77)).ownsRow wc.heap.size 5 1 (.slice va vn vc) E.1.length (cb E.1)):=j8 (j8 C5.o J2) (a8 _ _);have D4:c6 (f8 wc (w9.alloc (Obj.cells #[.int .i64 0,.slice va vn vc] 77))):=a9 M5.o (a8 _ _);clear O0 J2 M1 r0 r1 r2 r3 r4 r5 r6 s0 s1 s2 s3 s4 s5 s6 HW;go_upto_region 33 with (at_builtin;refine W8 (by rfl) (.tmp 115) (.tmp 118) (by rfl) wc.heap.size _ ps (by rfl) J4.o _ 0 (.slice va vn vc) E.1 (by rfl) (by simp[go_sem]) (by simp[go_sem]) L4.o g3.o (by omega) (by have:=A5.o;omega) D4.o.size ?_;intro P5 W0 N0 k2)
  obtain⟨xa,xn,xc,P4⟩:=iK N0;subst P4;have b3:=b9 N0;have I1:c6 (f8 wc W0):=D4.o.trans k2;clear N0 k2;have o2:c6 (RT A W0 (.pointer (some ⟨sp,0,none⟩)) dv k P S2):=HI.o.rt.below I1.o;have A2:c6 (P.ok S2.bl.length∧P.tab.length=7):=o2.o.ok;obtain⟨sp',bv,e',G,h2,h3,h4⟩:=o2.o
  cases e'
  obtain⟨pb,S4⟩: ∃pb,bv= .pointer (some ⟨pb,0,none⟩):=by obtain⟨D',pb,tv,e,_⟩:=h3;exact⟨pb,e⟩
  subst S4;have B1:c6 _:=G;have A1:c6 (¬A sp):=h2;have v1:=b9 h3;have O4:W0.cell? ⟨sp,0,none⟩=some (.pointer (some ⟨pb,0,none⟩)):=by rw[cell_of_row W0 sp 0 _ _ (0,0) G];rfl
  clear G h2 h3 h4;go_wp2_with fail;refine(jY v1.o (b3.o.tx (fun x T=>by have G:=P0.o x T;have h2:=HI.o.ch.size;omega)) (by rw[v2.o.wr];exact k5.o)).mono ?_;rintro e N4 ⟨rfl,⟨A',K3,T3⟩,j2⟩;have K5:c6 _:=K3;have G4:=b9 T3;have C2:c6 (Ch A W0 N4):=j2;clear K3 T3 j2 O4;go_wp2_with fail;go_ret;have G:=HI.o.ch.size;have h2:=I1.o.size;refine⟨S2,A',v2.o.mono (by omega),by rw[←U0.o,←b4.o,←v4.o];rfl,?_,fun x T=>?_,(HI.o.ch.self (Ch.of_below I1.o)).trans C2.o (fun x T=> .inl T)⟩
  ·rw[←U0.o,←b4.o,←v4.o];have hl:=(Array.getElem?_eq_some_iff.1 B1.o).1
   exact⟨sp,_,rfl,by rw[C2.o.block sp hl A1.o];exact B1.o,fun e=>by
    rcases G4.o sp e with q|q
    ·exact A1.o q
    ·omega,K5.o,by rw[dU (B:=S2.bl.length) A2.o.1 (by obtain⟨D',G,_⟩:=iT v1.o;exact G.good.n64)];exact A2.o.2⟩
  ·rcases G4.o x T with q|q
   ·exact .inl q
   ·right;omega
end
end
section
section

variable{A:n9}{w:d9}{sv dv kv:Value}{k:Int}{P:Bo}{S:Dk}{m:Mk}{ks:f7}

def Ma(A:n9)(w:d9)(sv dv:Value)(k:Int)(P:Bo)(S:Dk)(m:Mk)(Ls:List (List Cl))(b a:Int)(l:List Pr)(e:Ending)(w':d9):Prop:=
 (∃c,eK m k b a Ls l=some c∧Eu A w sv dv k P S c e w')∨(eK m k b a Ls l=none∧PR A w sv dv k P S (qH k b Ls l) e w')
def Ni(A:n9)(w:d9)(sp:Nat)(dv:Value)(k:Int)(P:Bo)(S:Dk)(m:Mk)(ov:Value)(R1 R2 T:Nat)(f:Nat→Value)(g:Nat→List Cl)(b:Int)(Ls:List (List Cl))(l:List Pr)(iv:Value)(wr:d9):Prop:=
 ∃(i:Nat) (Lc:List (List Cl)) (f2:Nat→Value) (g2:Nat→List Cl),iv= .int .i64 i∧i≤l.length∧T6 k b Ls l=T6 k b Lc (l.drop i)∧Gk k m Lc∧(∀j,j<6→g2 (j+1)=B3 Lc j)∧g2 0=g 0∧
  UD A w sp dv k P S m ov ov m.k R1 R2 T f g wr∧S7 wr R2 f2 g2
theorem Hl{g2:Nat→List Cl}{Lc:List (List Cl)}{i x:Nat}{r:List Cl}(hl:Lc.length=6)(hx:x=i+1)(hg: ∀j,j<6→g2 (j+1)=B3 Lc j): ∀j,j<6→(fun j=>if j=x then r else g2 j) (j+1)=B3 (Lc.set i r) j:=fun j hj=>by
 subst hx;rw[mC (by rw[hl];exact hj)];by_cases q:i=j
 ·subst q;simp
 ·simp only;rw[if_neg (by omega),if_neg q,hg j hj]
theorem QT(h:RT A w sv dv k P S)(hs:i6 P S=false)(hrd:S.rd<4611686018427387000)(hwr:S.wr<4611686018427387000)(hM:B7 (A0 P S 0)=(m,0)){Ls:List (List Cl)}(hD:C8 P S 6=some Ls)(hG:Gk k m Ls)(hg0: ∀c∈gP P S 7 0,c.okB){tv:Value}{l:List Pr}(hq:Qv w tv l)(hqA:l≠[]→ ∀x,tv.ownBlock=some x→ ¬A x)(b a:Int):
  Calls Tryz.prog 51 #[sv,.int .i64 b,.int .i64 a,tv] w (Ma A w sv dv k P S m Ls b a l):=by
 obtain⟨sp,M5,N5,_⟩:=h.ptr;subst M5;have HT:=b9 h;have HS:=b9 hs;have l6:c6 (S.rd<4611686018427387904):=by show _<_;omega
 have F5:=b9 hrd;have Y5:c6 (S.wr<4611686018427387904):=by show _<_;omega
 have HM:=b9 hM;have HD:=b9 hD;have X1:=b9 hG;have J6:=b9 hg0;have J0:c6 (∀x,A x→x<w.heap.size):=fun x hx=>h.lt hx;have i3:=b9 hq;have T4:=b9 hqA;have Y4:=b9 hq.2;obtain⟨⟨ta,tc,g4,I,h2,h3,h4⟩,_⟩:=hq;have HL:=b9 (Nat.le_trans I h2);have HQ:=b9 h4;obtain⟨n,hn⟩:=c7 l.length;rw[←hn]at g4;subst g4;have HN:=b9 hn;have O6:(n:Int)≤9223372036854775807:=by have h:=HL.o;unfold maxLen at h;omega
 clear h N5 hs hrd hwr hM hD hG hg0 hqA I h2 h3 h4 hn;go_in;go_wp2_with fail;refine B4 (X9 HT.o HS.o) ?_;obtain⟨N,hN⟩:=c7 (B6 b a);have r3:=b9 hN;clear hN;go_wp2_with fail;refine(Z5 b a _).mono ?_;rw[mK,←r3.o];rintro e w1 ⟨rfl,I⟩;replace I:=I.symm;subst I
 cases N
 ·go_wp2_with fail;go_ret;exact .inl ⟨1,tF (.inl r3.o.symm),rfl,⟨S,HT.o,F0.refl _⟩,Ch.refl _ _⟩
 obtain⟨U,hU⟩:=c7 (cW l);have L4:=b9 hU;have I2:=xT (ca:=tc) HL.o HQ.o;rw[←HN.o,←hU]at I2;have P4:c6 _:=I2;clear hU I2;go_wp2_with fail;refine Calls.mono P4.o ?_;rintro e w1 ⟨rfl,hB⟩;have HB:=b9 hB;clear hB P4
 cases U
 ·go_wp2_with fail;go_ret;exact .inl ⟨1,tF (.inr (by unfold Q9;rw[←L4.o];simp)),rfl,⟨S,HT.o.below HB.o,F0.refl _⟩,Ch.of_below HB.o⟩
 go_wp2_with fail;go_loopw [10] (fun iv wr=> ∃i:Nat,iv= .int .i64 i∧i≤n∧(∀j,(M:j<l.length)→j<i→r9 k l[j].v=l[j].v)∧f8 w wr) (fun iv _=>n-(intOf iv).toNat)
 case atStart=>exact⟨0,rfl,by omega,fun j _ h=>by omega,HB.o⟩
 case round=>
  clear HB;obtain⟨i,rfl,hi,w0,hB⟩:=hrel;have HA:=b9 w0;have HB:=b9 hB;clear w0 hB;by_cases Y:i<n
  ·have o0:(i:Int)<(n:Int):=by omega
   have j2:=decide_eq_true Y;have g0:i<l.length:=by have:=HN.o;omega
   obtain⟨b0,U3,e0,m0,m1,m2⟩:=(i3.o.below HB.o).ql i g0;subst e0;obtain⟨p,hp⟩:=c7 (l[i]);rw[←hp]at m0 m1 m2;have HP:=b9 hp;have V1:c6 p.v.ok:=by rw[hp];exact(Y4.o _ (List.getElem_mem _)).2
   clear hp;have k0: ∀wx,f8 wr wx→wx.cell? ⟨sp,1,none⟩=some (.int .i64 k):=fun wx h=>((HT.o.below HB.o).below h).kind;have q1: ∀wx,f8 wr wx→wx.cell? _=_:=fun wx h=>(h.cell (c8 m1)).trans m1;have q2: ∀wx,f8 wr wx→wx.cell? _=_:=fun wx h=>(h.cell (c8 m2)).trans m2;clear m0 m1 m2;obtain⟨F,hF⟩:=c7 (r9 k p.v);have HF:=b9 hF;have P6:=bH;clear hF;by_cases V0:F=p.v
   ·have hq: ∀w,(binOp .neq 55 (.agg #[.bool F.h,.int .u64 F.b]) (.agg #[.bool p.v.h,.int .u64 p.v.b])).run Tryz.prog w= .ok (.bool false) w:=by rw[V0];exact NX p.v
    have o3:c6 (∀j,(M:j<l.length)→j<i+1→r9 k l[j].v=l[j].v):=fun j M l4=>by
     rcases Nat.lt_or_ge j i with q|q
     ·exact HA.o j M q
     ·obtain rfl:j=i:=by omega
      rw[←HP.o,←HF.o];exact V0
    clear V0;go_wp2_with fail
    go_region_held3 (fun wx=>f8 wr wx) (first|assumption|exact(Below.refl _ _).drew)
     (first|(go_at_call 120;refine(N3 k V1.o _).mono ?_;rw[←HF.o];rintro e w3 ⟨rfl,O⟩;have M0:=a9 (by assumption) O))
    have E:=b9 (a9 HB.o (by assumption));clear O M0;go_wp2_with fail;go_roundw
    case rel=>exact⟨i+1,by go_num,Y,o3.o,E.o⟩
    case measure=>simp[intOf];omega
   ·have hq:=DO F p.v V0;have F6:=b9 (OV g0 (by rw[←HP.o,←HF.o];exact V0));clear V0;go_wp2_with fail
    go_region_held3 (fun wx=>f8 wr wx) (first|assumption|exact(Below.refl _ _).drew)
     (first|(go_at_call 120;refine(N3 k V1.o _).mono ?_;rw[←HF.o];rintro e w3 ⟨rfl,O⟩;have M0:=a9 (by assumption) O))
    have E:=b9 (a9 HB.o (by assumption));clear O M0;go_wp2_with fail;go_ret;exact .inl ⟨1,tF (.inr F6.o),rfl,⟨S,HT.o.below E.o,F0.refl _⟩,Ch.of_below E.o⟩
  have o0: ¬(i:Int)<(n:Int):=by omega
  have A1:c6 (¬(B6 b a=false∨Q9 k l=false)):=by
   rintro(q|q)
   ·rw[←r3.o]at q;cases q
   ·rw[FD (fun j M=>HA.o j M (by have:=HN.o;omega)),←L4.o]at q;cases q
  obtain⟨w1,Z3⟩:=c7 wr;rw[←Z3]at HB⊢;have O4:=b9 (HT.o.below HB.o);have O3:c6 (Ch A w w1):=Ch.of_below HB.o;clear Z3 HB HA hi Y;go_wp2_with fail;refine(cL O4.o HS.o l6.o).mono ?_;unfold wT;rw[HM.o];rintro e w3 ⟨ov,rfl,U1,b2,A4⟩;have N4:=b9 b2;have M3:=b9 (O3.o.self A4);have b5:=b9 (z9 U1);have C6:c6 (∀x,ov.ownBlock=some x→ ¬A x):=fun x hx e=>by have I:=(U1.lt x hx).1;have h2:=J0.o x e;have h3:=O3.o.size;omega
  obtain⟨oa,on,oc,O5⟩: ∃x y z,ov= .slice x y z:=by obtain⟨x,z,e⟩:=y9 U1;exact⟨x,_,z,e⟩
  subst O5;clear U1 b2 A4 O4 O3;go_upto_region 12 with fail
  have Q:c6 (f8 w3 (w3.alloc (Obj.cells #[.int .i64 m.b,.int .i64 m.a,.slice oa on oc] 62))):=a8 _ _;have N0:c6 _:=A9 w3 m.b m.a (.slice oa on oc);have h6:=b9 M3.o.size;obtain⟨T9,X2⟩:=c7 w3.heap.size;rw[←X2]at N0⊢;have f6:c6 (w.heap.size≤T9):=by rw[X2];exact h6.o
  clear X2;generalize w3.alloc (Obj.cells #[.int .i64 m.b,.int .i64 m.a,.slice oa on oc] 62)=w4 at Q N0⊢;have M4:=b9 (N4.o.below Q.o);have j5:=b9 (M3.o.self (Ch.of_below Q.o));have Z4:=b9 (b5.o.below Q.o);clear N4 M3 b5 Q;obtain⟨J,hJ⟩:=c7 (M9 m.b m.a b a);have HJ:=b9 hJ;clear hJ;have y0:=N0.o.c0;have y1:=N0.o.c1;have y2:=N0.o.c2;go_wp2_with fail;refine(gT m.b m.a b a _).mono ?_;rw[←HJ.o];rintro e w5 ⟨rfl,j0⟩;have j1:=b9 (M4.o.below j0);have D1:=b9 (j5.o.self (Ch.of_below j0));have l3:=b9 (Z4.o.below j0);have F3:=b9 (N0.o.keep j0);have O0:c6 (F0 1 S (aF P S 0)):=J5;clear j0 M4 j5 Z4 N0 y0 y1 y2;by_cases Q2:J=0;rotate_left
  ·have l4:((J:Int) !=0)=true:=by rw[bne_iff_ne];omega
   have G1:c6 (eK m k b a Ls l=some ((J:Nat):Int)):=by show _=_;rw[HJ.o];exact ZM A1.o (by rw[←HJ.o];exact Q2)
   clear Q2;go_wp2_with fail;go_ret;exact .inl ⟨_,G1.o,rfl,⟨_,j1.o,O0.o.mono (by omega)⟩,D1.o⟩
  subst Q2;have g5:=b9 (YB HJ.o.symm);have U4:=b9 (uY i3.o D1.o T4.o);obtain⟨S1,F4⟩:=c7 (aF P S 0);rw[←F4]at j1 O0;clear F4;go_wp2_with fail;go_loopw [13] (fun iv wr=> ∃i:Nat,iv= .int .i64 i∧i≤n∧(∀j,(M:j<l.length)→j<i→l[j].k∈m.k)∧f8 w5 wr) (fun iv _=>n-(intOf iv).toNat)
  case atStart=>exact⟨0,rfl,by omega,fun j _ h=>by omega,Below.refl _ _⟩
  case round=>
   obtain⟨i,rfl,hi,w0,hB⟩:=hrel;have HA:=b9 w0;have HB:=b9 hB;clear w0 hB;by_cases Y:i<n
   ·have o0:(i:Int)<(n:Int):=by omega
    have j2:=decide_eq_true Y;have g0:i<l.length:=by have:=HN.o;omega
    obtain⟨b0,U3,e0,m0,m1,m2⟩:=(U4.o.below HB.o).ql i g0;subst e0;obtain⟨p,hp⟩:=c7 (l[i]);rw[←hp]at m0 m1 m2;have HP:=b9 hp;clear hp;have A3:=b9 (F3.o.keep HB.o);have y0: ∀wx,f8 wr wx→wx.cell? ⟨T9,0,none⟩=_:=fun wx h=>(A3.o.keep h).c0;have y1: ∀wx,f8 wr wx→wx.cell? ⟨T9,1,none⟩=_:=fun wx h=>(A3.o.keep h).c1;have y2: ∀wx,f8 wr wx→wx.cell? ⟨T9,2,none⟩=_:=fun wx h=>(A3.o.keep h).c2;have q0: ∀wx,f8 wr wx→wx.cell? _=_:=fun wx h=>(h.cell (c8 m0)).trans m0;have G6:=b9 (l3.o.below HB.o);clear m0 m1 m2;obtain⟨H,hH⟩:=c7 (decide (p.k∈m.k));have HH:=b9 hH;clear hH;go_wp2_with fail
    go_region_held3 (fun wx=>f8 wr wx) (first|assumption|exact(Below.refl _ _).drew)
     (first|(go_at_call 109;refine(bF (G6.o.below (by assumption)) m.b m.a p.k).mono ?_;rw[←HH.o];rintro e w3 ⟨rfl,O⟩;have M0:=a9 (by assumption) O))
    have E:=b9 (a9 HB.o (by assumption));clear O M0 y0 y1 y2 q0
    cases H
    ·have HE:c6 (U5 m.k l=false):=by
      show _=_;unfold U5;rw[List.all_eq_false];exact⟨l[i],List.getElem_mem _,by rw[←HP.o,←HH.o];simp⟩
     go_wp2_with fail;go_ret;exact .inl ⟨132,ZL A1.o HJ.o.symm HE.o,rfl,⟨_,j1.o.below E.o,O0.o.mono (by omega)⟩,D1.o.self (Ch.of_below E.o)⟩
    ·have o3:c6 (∀j,(M:j<l.length)→j<i+1→l[j].k∈m.k):=fun j M l4=>by
      rcases Nat.lt_or_ge j i with q|q
      ·exact HA.o j M q
      ·obtain rfl:j=i:=by omega
       rw[←HP.o];exact of_decide_eq_true HH.o.symm
     go_wp2_with fail;go_roundw
     case rel=>exact⟨i+1,by go_num,Y,o3.o,E.o⟩
     case measure=>simp[intOf];omega
   have o0: ¬(i:Int)<(n:Int):=by omega
   have b3:c6 (U5 m.k l=true):=by
    show _=_;unfold U5;rw[List.all_eq_true];intro p hp;obtain⟨j,M,rfl⟩:=List.mem_iff_getElem.1 hp;exact decide_eq_true (HA.o j M (by have:=HN.o;omega))
   have b6:=b9 (Fa (by cases q:Q9 k l;exact absurd (.inr q) A1.o;rfl) b3.o Y4.o);obtain⟨wz,W3⟩:=c7 wr;rw[←W3]at HB⊢;have K4:=b9 (j1.o.below HB.o);have i5:=b9 (D1.o.self (Ch.of_below HB.o));have X4:=b9 (l3.o.below HB.o);have f5:=b9 (F3.o.keep HB.o);clear W3 HB HA hi Y j1 D1 l3 F3 U4;go_wp2_with fail;refine(aV K4.o (by rw[C3 O0.o];exact HS.o) (by have I:=O0.o.rd;have h2:=F5.o;omega)).mono ?_;rintro e w6 ⟨f,S2,rfl,G,Q5,g1,Z1,O1,R0⟩;have HG:c6 (gP P S1 7=gP P S 7):=by show _=_;funext j;unfold gP;rw[J3 O0.o]
   rw[HG.o]at g1;have P0:=b9 g1;have f3:=b9 Z1;have M1:=b9 (O0.o.trans O1);have C1:=b9 (i5.o.self R0);have D6:c6 (¬A T9):=fun e=>by have I:=J0.o _ e;have h2:=f6.o;omega
   have D3:=b9 (f5.o.ch R0 D6.o);have l1:=b9 (pJ X4.o R0 C6.o);have V4:c6 _:=eT g1;have l0:c6 _:=eT (w:=w6.alloc (Obj.cells #[f 0,f 1,f 2,f 3,f 4,f 5,f 6] 147)) (fun j M=>(g1 j M).below (a8 _ _));have N1:c6 _:=V4.o.below (a8 _ (Obj.cells #[f 0,f 1,f 2,f 3,f 4,f 5,f 6] 147));have Q0:c6 (f8 w6 ((w6.alloc (Obj.cells #[f 0,f 1,f 2,f 3,f 4,f 5,f 6] 147)).alloc (Obj.cells #[f 0,f 1,f 2,f 3,f 4,f 5,f 6] 147))):=a9 (a8 _ _) (a8 _ _);obtain⟨a0,n0,p0,e0⟩:=G 0 (by omega);obtain⟨a1,n1,p1,e1⟩:=G 1 (by omega);obtain⟨a2,n2,p2,e2⟩:=G 2 (by omega);obtain⟨a3,n3,p3,e3⟩:=G 3 (by omega);obtain⟨a4,n4,p4,e4⟩:=G 4 (by omega);obtain⟨a5,n5,p5,e5⟩:=G 5 (by omega);obtain⟨a6,n6,p6,e6⟩:=G 6 (by omega);rw[g8]at l0;rw[e0,e1,e2,e3,e4,e5,e6]at N1 l0 Q0⊢;have HE:c6 (f 0= .slice a0 n0 p0∧f 1= .slice a1 n1 p1∧f 2= .slice a2 n2 p2∧f 3= .slice a3 n3 p3∧f 4= .slice a4 n4 p4∧f 5= .slice a5 n5 p5∧f 6= .slice a6 n6 p6):=⟨e0,e1,e2,e3,e4,e5,e6⟩;clear G Q5 g1 Z1 O1 R0 e0 e1 e2 e3 e4 e5 e6 K4 i5 X4 f5 V4;go_upto_region 22 with fail
   obtain⟨R1,H4⟩:=c7 w6.heap.size
   have W0:c6 (UD A w sp dv k P S2 m (.slice oa on oc) (.slice oa on oc) m.k w6.heap.size (w6.heap.size+1) T9 f (gP P S 7) ((w6.alloc (Obj.cells #[.slice a0 n0 p0,.slice a1 n1 p1,.slice a2 n2 p2,.slice a3 n3 p3,.slice a4 n4 p4,.slice a5 n5 p5,.slice a6 n6 p6] 147)).alloc (Obj.cells #[.slice a0 n0 p0,.slice a1 n1 p1,.slice a2 n2 p2,.slice a3 n3 p3,.slice a4 n4 p4,.slice a5 n5 p5,.slice a6 n6 p6] 147))):=
    ⟨f3.o.below Q0.o,D3.o.keep Q0.o,l1.o.below Q0.o,l1.o.below Q0.o,N1.o,C1.o.self (Ch.of_below Q0.o),by omega,by have:=c8 D3.o.c0;simp only at this;omega,fun e=>by have I:=J0.o _ e;have h2:=C1.o.size;omega,by obtain⟨s,e,I,_⟩:=f3.o.ptr;cases e;omega,
     fun q x hx=>by have:=mS l1.o q hx;omega,fun q x hx=>by have:=mS l1.o q hx;omega,fun j M q x hx=>by have:=PB (P0.o j M) q hx;omega,by have h2:=C1.o.size;omega⟩
   rw[←H4]at W0 l0⊢;generalize ((w6.alloc (Obj.cells #[.slice a0 n0 p0,.slice a1 n1 p1,.slice a2 n2 p2,.slice a3 n3 p3,.slice a4 n4 p4,.slice a5 n5 p5,.slice a6 n6 p6] 147)).alloc (Obj.cells #[.slice a0 n0 p0,.slice a1 n1 p1,.slice a2 n2 p2,.slice a3 n3 p3,.slice a4 n4 p4,.slice a5 n5 p5,.slice a6 n6 p6] 147))=w7 at W0 l0⊢;obtain⟨W,G4⟩:=c7 (R1+1);rw[←G4]at W0 l0⊢;obtain⟨g,hg⟩:=c7 (gP P S 7);rw[←hg]at W0 l0;have I6:=b9 hg;have I3:c6 (∀j,j<6→g (j+1)=B3 Ls j):=fun j M=>by rw[hg];exact fG HD.o M
   have H0:c6 (Ni A w sp dv k P S2 m (.slice oa on oc) R1 W T9 f g b Ls l (.int .i64 0) w7):=⟨0,Ls,f,g,rfl,Nat.zero_le _,by rw[List.drop_zero],X1.o,I3.o,rfl,W0.o,l0.o⟩;have I5:c6 (¬A R1):=fun e=>by have I:=J0.o _ e;have h2:=C1.o.size;omega
   clear H4 G4 hg W0 l0 N1 Q0 f3 D3 l1 C1 P0;go_wp2_with fail;go_loopw [16] (fun iv wr=>Ni A w sp dv k P S2 m (.slice oa on oc) R1 W T9 f g b Ls l iv wr) (fun iv _=>n-(intOf iv).toNat)
   case atStart=>exact H0.o
   case round=>
    clear H0;obtain⟨i,Lc,f2,g2,rfl,hi,L,o4,r4,l2,hI,hS⟩:=hrel;obtain⟨wo,X3⟩:=c7 wr;rw[←X3]at hI hS⊢;have S3:=b9 L;have X0:=b9 o4;have Y0:=b9 r4;have C2:=b9 l2;have HI:=b9 hI;have C:=b9 hS;have v6:=b9 (uY i3.o hI.ch T4.o);clear X3 L o4 r4 l2 hI hS;obtain⟨q0,t0,d0⟩:=C.o.form (i:=0) (by omega);obtain⟨q1,t1,d1⟩:=C.o.form (i:=1) (by omega);obtain⟨q2,t2,d2⟩:=C.o.form (i:=2) (by omega);obtain⟨q3,t3,d3⟩:=C.o.form (i:=3) (by omega);obtain⟨q4,t4,d4⟩:=C.o.form (i:=4) (by omega);obtain⟨q5,t5,d5⟩:=C.o.form (i:=5) (by omega);obtain⟨q6,t6,d6⟩:=C.o.form (i:=6) (by omega);have i0:c6 (f2 0=_∧f2 1=_∧f2 2=_∧f2 3=_∧f2 4=_∧f2 5=_∧f2 6=_):=⟨d0,d1,d2,d3,d4,d5,d6⟩;generalize (g2 0).length=m0 at i0;generalize (g2 1).length=m1 at i0;generalize (g2 2).length=m2 at i0;generalize (g2 3).length=m3 at i0;generalize (g2 4).length=m4 at i0;generalize (g2 5).length=m5 at i0;generalize (g2 6).length=m6 at i0;clear d0 d1 d2 d3 d4 d5 d6;by_cases Y:i<n
    ·have o0:(i:Int)<(n:Int):=by omega
     have j2:=decide_eq_true Y;have g0:i<l.length:=by have:=HN.o;omega
     obtain⟨b0,U3,e0,Z0,Q1,P1⟩:=v6.o.ql i g0;subst e0;obtain⟨p,hp⟩:=c7 (l[i]);rw[←hp]at Z0 Q1 P1;have HP:=b9 hp;have A6:c6 (p∈l):=by rw[hp];exact List.getElem_mem _
     have k3:=b9 (c8 Z0);have r0: ∀wx,f8 wo wx→wx.cell? _=_:=fun wx h=>(h.cell (c8 Z0)).trans Z0;have r6:c6 (∀wx,f8 wo wx→wx.cell? _=_):=fun wx h=>(h.cell (c8 Q1)).trans Q1;have o6:c6 (∀wx,f8 wo wx→wx.cell? _=_):=fun wx h=>(h.cell (c8 P1)).trans P1;clear hp Z0 Q1 P1;obtain⟨d0,d1,d2,d3,d4,d5,d6⟩:=i0.o;have s0: ∀wx,f8 wo wx→wx.cell? ⟨W,0,none⟩=_:=fun wx h=>((C.o.below h).c 0 (by omega)).trans (congrArg some d0);have s1: ∀wx,f8 wo wx→wx.cell? ⟨W,1,none⟩=_:=fun wx h=>((C.o.below h).c 1 (by omega)).trans (congrArg some d1);have s2: ∀wx,f8 wo wx→wx.cell? ⟨W,2,none⟩=_:=fun wx h=>((C.o.below h).c 2 (by omega)).trans (congrArg some d2);have s3: ∀wx,f8 wo wx→wx.cell? ⟨W,3,none⟩=_:=fun wx h=>((C.o.below h).c 3 (by omega)).trans (congrArg some d3);have s4: ∀wx,f8 wo wx→wx.cell? ⟨W,4,none⟩=_:=fun wx h=>((C.o.below h).c 4 (by omega)).trans (congrArg some d4);have s5: ∀wx,f8 wo wx→wx.cell? ⟨W,5,none⟩=_:=fun wx h=>((C.o.below h).c 5 (by omega)).trans (congrArg some d5);have s6: ∀wx,f8 wo wx→wx.cell? ⟨W,6,none⟩=_:=fun wx h=>((C.o.below h).c 6 (by omega)).trans (congrArg some d6);have K2: ∀wx,f8 wo wx→_:=fun wx h=>BV (w:=wx) (C.o.below h).cv p.k;rw[d0,d1,d2,d3,d4,d5,d6]at K2;have j3:c6 _:=K2;clear K2 d0 d1 d2 d3 d4 d5 d6;obtain⟨x,hx⟩:=c7 (KN g2 p.k);rw[←hx]at j3;have HX:=b9 hx;clear hx;go_wp2_with fail
     go_region_held3 (fun wx=>f8 wo wx) (first|assumption|exact(Below.refl _ _).drew)
      (first|(go_at_call 121;refine Calls.mono (j3.o _ (by assumption)) ?_;rintro e w3 ⟨rfl,O⟩;have M0:=a9 (by assumption) O))
     have E:c6 (f8 wo w3):=by assumption
     clear O M0 j3 s0 s1 s2 s3 s4 s5 s6;obtain⟨L2,K1,T1,O2,M2⟩:=b6.o p A6.o;have V1:c6 p.v.ok:=T1;rcases PJ X0.o g5.o.1 g5.o.2.2.1 L2 K1 T1 O2 M2 with ⟨k4,L⟩|⟨u,c,r,ho,hu,L1,i2,V5,L,k2⟩
     ·obtain rfl:x=0:=by rw[HX.o];exact RX Y0.o k4
      have o5:c6 (T6 k b Ls l=(92,Lc)):=by show _=_;rw[S3.o,←L,HP.o];exact IF g0 (by rw[←HP.o,L];show(92:Int)≠0;decide)
      have G1:c6 (eK m k b a Ls l=some 92):=by have h:=PL (kind:=k) (Ls:=Ls) A1.o HJ.o.symm b3.o (by rw[o5.o];show(92:Int)≠0;decide);rw[o5.o]at h;exact h
      clear k4 L L2 K1 T1 O2 M2 r0;go_wp2_with fail;go_ret;exact .inl ⟨92,G1.o,rfl,⟨_,(HI.o.below E.o).rt,M1.o.mono (by omega)⟩,(HI.o.below E.o).ch⟩
     have V3:x=u+1:=by rw[HX.o];exact RW Y0.o ho
     have Z2:=b9 V3;have U0:x<7:=by omega
     have L6:(x:Int)<7:=by omega
     have N6: ¬(x:Int)=0:=by omega
     clear V3;have HU:=b9 hu;have K6:c6 c.ok:=⟨L1.2.1,L1.2.2.1⟩;have G5:=b9 i2;have H2:=b9 L;have K5:=b9 k2;have F2:=b9 ((Hs ho).2);have P0:c6 (Cv wo (f2 x) (B3 Lc u)):=by rw[←Y0.o u HU.o,←Z2.o];exact C.o.cv x U0
     obtain⟨pa,pc,J1⟩:=P0.o.form;obtain⟨pn,J2⟩:=c7 ((B3 Lc u).length);rw[←J2]at J1;have R:=b9 J1;have y6:=b9 J2;have S4:=b9 (C.o.below E.o);have rr:=r0 w3 E.o;clear ho hu i2 V5 L k2 L2 K1 T1 O2 M2 L1 J1 J2 r0;go_upto_region 29 with fail
     clear rr;have Q:c6 (f8 w3 (w3.alloc (Obj.cells #[.int .u64 p.k,.bool false,.int .u64 0,.bool false,.int .u64 0,.int .i64 0] 132))):=a8 _ _;have B1:c6 (CB (w3.alloc (Obj.cells #[.int .u64 p.k,.bool false,.int .u64 0,.bool false,.int .u64 0,.int .i64 0] 132)) w3.heap.size ⟨p.k,K0,K0,0⟩):=B0 w3 ⟨p.k,K0,K0,0⟩;obtain⟨X,hX⟩:=c7 w3.heap.size;rw[←hX]at B1⊢;have X5:=b9 hX;clear hX;generalize w3.alloc (Obj.cells #[.int .u64 p.k,.bool false,.int .u64 0,.bool false,.int .u64 0,.int .i64 0] 132)=w4 at Q B1⊢;have R4:=b9 (S4.o.below Q.o);have sx: ∀wx,f8 w4 wx→wx.cell? ⟨W,x,none⟩=some (.slice pa pn pc):=fun wx h=>((R4.o.below h).c x U0).trans (congrArg some R.o);have c0: ∀wx,f8 w4 wx→wx.cell? ⟨X,0,none⟩=some (.int .u64 p.k):=fun wx h=>(B1.o.keep h).c0
     have K3:c6 (∀wx,f8 w4 wx→Calls Tryz.prog 122 #[.slice pa pn pc,.int .u64 p.k] wx fun e w'=>e= .returned (.tuple #[.int .i64 (I0 (B3 Lc u) p.k),.bool (I1 (B3 Lc u) p.k)])∧f8 wx w'):=fun wx h=>by
      have I:=G8 ((P0.o.below (a9 E.o (a9 Q.o h)))) p.k;rw[R.o]at I;exact I
     obtain⟨fi,T2⟩:=c7 (I0 (B3 Lc u) p.k);obtain⟨fb,U2⟩:=c7 (I1 (B3 Lc u) p.k);rw[←T2,←U2]at K3;have h5:=b9 T2;have L3:=b9 U2;clear T2 U2;go_wp2_with fail
     go_region_held3 (fun wx=>f8 w4 wx) (first|assumption|exact(Below.refl _ _).drew)
      (first|(go_at_call 122;refine Calls.mono (K3.o _ (by assumption)) ?_;rintro e w5 ⟨rfl,j0⟩;have T5:=a9 (by assumption) j0))
     have R3:c6 (f8 w4 w5):=by assumption
     clear j0 T5 K3 sx c0;have C0:=b9 (B1.o.keep R3.o);have G0:=b9 (a9 E.o (a9 Q.o R3.o));have J4:c6 (wo.heap.size≤X∧X<w5.heap.size):=by have I:=E.o.size;have h2:=X5.o;have h3:=c8 C0.o.c0;exact⟨by omega,h3⟩
     clear S4 Q B1 R4;go_upto_if 115 with fail;go_cut [] (fun wx=>f8 wo wx∧CB wx X c)
     case first=>
      cases fb
      ·have P3:c6 (c=⟨p.k,K0,K0,0⟩):=by show _=_;rw[F2.o];unfold ZD;rw[←L3.o];rfl
       go_wp2_with fail;go_meet;exact⟨G0.o,by rw[P3.o];exact C0.o⟩
      ·obtain⟨f1,_⟩:=mZ L3.o.symm;have P3:c6 (c=(B3 Lc u)[I0 (B3 Lc u) p.k]):=by show _=_;rw[F2.o];unfold ZD;rw[←L3.o,if_pos rfl,List.getD_eq_getElem?_getD,List.getElem?_eq_getElem f1];rfl
       rcases B2 (P0.o.below G0.o)with ⟨h0,_⟩|⟨b1,o1,c1,e1,_,_,_,k1⟩
       ·rw[h0]at f1;simp at f1
       rw[R.o]at e1;simp only[Value.slice.injEq]at e1;have W5:=e1.1;clear e1;subst W5;obtain⟨x0,x1,x2,x3,x4,x5⟩:=k1 _ f1;rw[←P3.o,←h5.o]at x0 x1 x2 x3 x4 x5;have r5:fi<pn:=by rw[h5.o,y6.o];exact f1
       have M6:(fi:Int)<(pn:Int):=by omega
       have Q6:=decide_eq_true r5;have sx:=((C.o.below G0.o).c x U0).trans (congrArg some R.o);obtain⟨y0,y1,y2,y3,y4,y5,yz⟩:=C0.o;have z0:=yz 0;have z1:=yz 1;have z2:=yz 2;have z3:=yz 3;have z4:=yz 4;have z5:=yz 5;clear k1 yz;go_wp2_with fail;go_meet;exact⟨R7 G0.o J4.o.1 _ _ _ _ _ _,C0.o.set c⟩
     case rest=>
      obtain⟨W2,V2⟩:=hcut;obtain⟨w6,Y3⟩:=c7 wc;rw[←Y3]at W2 V2⊢;have T0:=b9 W2;have S0:=b9 V2;clear Y3 W2 V2 C0 G0 E R3;obtain⟨c',C4⟩:=c7 (N2 k c b p.v);have Q3:=b9 C4;clear C4;have k0: ∀wx,f8 wo wx→wx.cell? ⟨sp,1,none⟩=some (.int .i64 k):=fun wx h=>(HI.o.below h).rt.kind;have r1:=r6.o;have r2:=o6.o;obtain⟨y0,y1,y2,y3,y4,y5,_⟩:=S0.o;obtain⟨v0,v1,v2,v3,v4,v5,_⟩:=S0.o.keep (d8 w6 1);go_wp2_with fail;refine wp_region_noPanic ?_;refine wp_region_held_drew (S:=fun wx=>f8 wo wx) (by kernel_rfl) ?_ fun t=>?_
      ·exact a9 T0.o (d8 w6 1)
      refine g6 0 123 rfl t ?_;refine g6 1 124 rfl t ?_;refine g6 2 125 rfl t ?_;refine g6 3 126 rfl t ?_;refine g6 5 128 rfl t ?_;refine g6 6 129 rfl t ?_;refine g6 7 130 rfl t ?_;refine g6 8 131 rfl t ?_;refine g6 9 132 rfl t ?_;refine g6 10 133 rfl t ?_;refine C7 4 127 rfl fun K hK=>?_;go_simp;clear y0 y1 y2 y3 y4 y5 v0 v1 v2 v3 v4 v5;refine hK.out _ _ ?_ fun t=>?_
      ·exact a9 T0.o (d8 w6 1)
      clear hK K;try simp only[Act.put,zz]
      refine C7 11 134 rfl fun K hK=>?_;go_simp;refine(CQ k K6.o b V1.o _).mono ?_;rw[←Q3.o];rintro e w7 ⟨rfl,I4⟩;have Y1:=b9 (a9 (d8 w6 1) I4);clear I4;refine hK.out _ _ ?_ fun t=>?_
      ·exact a9 T0.o Y1.o
      clear hK K;try simp only[Act.put,zz]
      refine g6 12 122 rfl t ?_;refine g6 13 135 rfl t ?_;refine g6 14 136 rfl t ?_;refine wpAnyH_ready (rs:=[15]) (by kernel_rfl) (by simp) ?_;refine AllReadyH.cons (o:=⟨none,_,_,_,_,_⟩) rfl (fun K hK=>?_) AllReadyH.nil;have L5:=S0.o.keep Y1.o;obtain⟨u0,u1,u2,u3,u4,u5,uz⟩:=L5;have z0:=uz 0;have z1:=uz 1;have z2:=uz 2;have z3:=uz 3;have z4:=uz 4;have z5:=uz 5;clear uz;go_simp;have T:=b9 ((S0.o.keep Y1.o).set c');have D0:c6 (f8 wo (((((((w7.setCell ⟨X,0,none⟩ (.int .u64 c'.k)).setCell ⟨X,1,none⟩ (.bool c'.p.h)).setCell ⟨X,2,none⟩ (.int .u64 c'.p.b)).setCell ⟨X,3,none⟩ (.bool c'.c.h)).setCell ⟨X,4,none⟩ (.int .u64 c'.c.b)).setCell ⟨X,5,none⟩ (.int .i64 c'.n)))):=R7 (a9 T0.o Y1.o) J4.o.1 _ _ _ _ _ _;generalize ((((((w7.setCell ⟨X,0,none⟩ (.int .u64 c'.k)).setCell ⟨X,1,none⟩ (.bool c'.p.h)).setCell ⟨X,2,none⟩ (.int .u64 c'.p.b)).setCell ⟨X,3,none⟩ (.bool c'.c.h)).setCell ⟨X,4,none⟩ (.int .u64 c'.c.b)).setCell ⟨X,5,none⟩ (.int .i64 c'.n))=w8 at T D0⊢;clear u0 u1 u2 u3 u4 u5 z0 z1 z2 z3 z4 z5;refine hK.out _ _ ?_ fun t=>?_
      ·exact D0.o
      clear hK K;try simp only[Act.put,zz]
      refine wpAnyH_done (by kernel_rfl) ?_ _;refine NoPanic.normal ?_;clear k0 r1 r2;have k6:=b9 (C.o.below D0.o);have sx: ∀wx,f8 w8 wx→wx.cell? ⟨W,x,none⟩=some (.slice pa pn pc):=fun wx h=>((k6.o.below h).c x U0).trans (congrArg some R.o);have y0: ∀wx,f8 w8 wx→wx.cell? ⟨X,0,none⟩=_:=fun wx h=>(T.o.keep h).c0;have y1: ∀wx,f8 w8 wx→wx.cell? ⟨X,1,none⟩=_:=fun wx h=>(T.o.keep h).c1;have y2: ∀wx,f8 w8 wx→wx.cell? ⟨X,2,none⟩=_:=fun wx h=>(T.o.keep h).c2;have y3: ∀wx,f8 w8 wx→wx.cell? ⟨X,3,none⟩=_:=fun wx h=>(T.o.keep h).c3;have y4: ∀wx,f8 w8 wx→wx.cell? ⟨X,4,none⟩=_:=fun wx h=>(T.o.keep h).c4;have y5: ∀wx,f8 w8 wx→wx.cell? ⟨X,5,none⟩=_:=fun wx h=>(T.o.keep h).c5
      have W4:c6 (∀wx,f8 w8 wx→Calls Tryz.prog 124 #[.slice pa pn pc,.agg #[.int .u64 c'.k,.bool c'.p.h,.int .u64 c'.p.b,.bool c'.c.h,.int .u64 c'.c.b,.int .i64 c'.n]] wx (F1 (r,0) wx)):=fun wx h=>by
       have I:=BR (P0.o.below (a9 D0.o h)) c' (by have:=X0.o.gd.pok.2.2 u HU.o;omega);rw[R.o,Q3.o,G5.o]at I;rw[Q3.o];exact I
      go_wp2_with fail
      go_region_held3 (fun wx=>f8 w8 wx) (first|assumption|exact(Below.refl _ _).drew)
       (first|(go_at_call 124;refine Calls.mono (W4.o _ (by assumption)) ?_;rintro e w9 ⟨v9,rfl,j4,i1⟩;have S5:=a9 (by assumption) i1))
      have Z:c6 (f8 w8 w9):=by assumption
      have D2:=b9 ((cX j4).1);obtain⟨va,vc,b4⟩:=D2.o.form;obtain⟨vn,f4⟩:=c7 r.length;rw[←f4]at b4;subst b4;clear i1 S5 j4 f4 W4 sx y0 y1 y2 y3 y4 y5;have G2:=b9 (a9 D0.o Z.o);have g3:=b9 (C.o.below G2.o);have sx:=(g3.o.c x U0).trans (congrArg some R.o);have sz:=g3.o.z x
      have D5:c6 (Ni A w sp dv k P S2 m (.slice oa on oc) R1 W T9 f g b Ls l (.int .i64 ((i:Int)+1)) (w9.setCell ⟨W,x,none⟩ (.slice va vn vc))):=by
       refine⟨i+1,Lc.set u r,_,fun j=>if j=x then r else g2 j,by go_num,g0,?_,K5.o,Hl X0.o.gd.pok.1 Z2.o Y0.o,?_,(HI.o.below G2.o).set _ _,g3.o.set U0 (by simp only[if_pos];exact D2.o) (fun j M hn=>if_neg hn)⟩
       ·rw[S3.o,PK g0 (by rw[←HP.o,H2.o]),←HP.o,H2.o]
       ·show(if 0=x then r else g2 0)=_;rw[if_neg (by have:=Z2.o;omega)];exact C2.o
      go_wp2_with fail;go_roundw
      case rel=>exact D5.o
      case measure=>simp[intOf];omega
    have o0: ¬(i:Int)<(n:Int):=by omega
    have l5:c6 (T6 k b Ls l=(0,Lc)):=by show _=_;rw[S3.o,List.drop_of_length_le (by have:=HN.o;omega)];rfl
    have G1:=b9 (MK A1.o HJ.o.symm b3.o (by rw[l5.o]))
    have k5:c6 (qH k b Ls l=tO g g2 6):=by
     show _=_;unfold qH;rw[l5.o];exact(UK I3.o Y0.o X1.o.gd.pok X0.o.gd.pok X1.o.gd.enc X0.o.gd.enc 6 (by omega)).symm
    clear hi Y;obtain⟨e0,e1,e2,e3,e4,e5,e6⟩:=HE.o;obtain⟨d0,d1,d2,d3,d4,d5,d6⟩:=i0.o
    obtain⟨pb,P2⟩: ∃pb,∀wx,f8 wo wx→wx.cell? ⟨sp,0,none⟩=some (.pointer (some ⟨pb,0,none⟩)):=by
     obtain⟨sp',bv,e',I,h2,⟨D',pb,tv',e2,_⟩,h4⟩:=HI.o.rt
     cases e'
     have h3:wo.cell? ⟨sp,0,none⟩=some (.pointer (some ⟨pb,0,none⟩)):=by rw[cell_of_row wo sp 0 _ _ (0,0) I,e2];rfl
     exact⟨pb,fun wx h=>(h.cell (c8 h3)).trans h3⟩
    have k3:=b9 P2;obtain⟨SS,D⟩: ∃SS:d9→Prop,∀wx,SS wx↔(wx.cell? ⟨sp,0,none⟩=some (.pointer (some ⟨pb,0,none⟩))∧(∀j,j<7→wx.cell? ⟨R1,j,none⟩=some (f j))∧ ∀j,j<7→wx.cell? ⟨W,j,none⟩=some (f2 j)):=⟨_,fun _=>Iff.rfl⟩;have i4: ∀wx,f8 wo wx→SS wx:=fun wx h=>(D wx).2 ⟨P2 wx h,(HI.o.below h).q1.c,(C.o.below h).c⟩;have j6:c6 _:=D;have Q4:c6 _:=i4;have L0: ∀wx,SS wx→wx.cell? ⟨sp,0,none⟩=some (.pointer (some ⟨pb,0,none⟩)):=fun wx h=>((D wx).1 h).1;clear P2 i4;have s0: ∀wx,SS wx→wx.cell? ⟨R1,0,none⟩=_:=fun wx h=>(((D wx).1 h).2.1 0 (by omega)).trans (congrArg some e0);have s1: ∀wx,SS wx→wx.cell? ⟨R1,1,none⟩=_:=fun wx h=>(((D wx).1 h).2.1 1 (by omega)).trans (congrArg some e1);have s2: ∀wx,SS wx→wx.cell? ⟨R1,2,none⟩=_:=fun wx h=>(((D wx).1 h).2.1 2 (by omega)).trans (congrArg some e2);have s3: ∀wx,SS wx→wx.cell? ⟨R1,3,none⟩=_:=fun wx h=>(((D wx).1 h).2.1 3 (by omega)).trans (congrArg some e3);have s4: ∀wx,SS wx→wx.cell? ⟨R1,4,none⟩=_:=fun wx h=>(((D wx).1 h).2.1 4 (by omega)).trans (congrArg some e4);have s5: ∀wx,SS wx→wx.cell? ⟨R1,5,none⟩=_:=fun wx h=>(((D wx).1 h).2.1 5 (by omega)).trans (congrArg some e5);have s6: ∀wx,SS wx→wx.cell? ⟨R1,6,none⟩=_:=fun wx h=>(((D wx).1 h).2.1 6 (by omega)).trans (congrArg some e6);have u0: ∀wx,SS wx→wx.cell? ⟨W,0,none⟩=_:=fun wx h=>(((D wx).1 h).2.2 0 (by omega)).trans (congrArg some d0);have u1: ∀wx,SS wx→wx.cell? ⟨W,1,none⟩=_:=fun wx h=>(((D wx).1 h).2.2 1 (by omega)).trans (congrArg some d1);have u2: ∀wx,SS wx→wx.cell? ⟨W,2,none⟩=_:=fun wx h=>(((D wx).1 h).2.2 2 (by omega)).trans (congrArg some d2);have u3: ∀wx,SS wx→wx.cell? ⟨W,3,none⟩=_:=fun wx h=>(((D wx).1 h).2.2 3 (by omega)).trans (congrArg some d3);have u4: ∀wx,SS wx→wx.cell? ⟨W,4,none⟩=_:=fun wx h=>(((D wx).1 h).2.2 4 (by omega)).trans (congrArg some d4);have u5: ∀wx,SS wx→wx.cell? ⟨W,5,none⟩=_:=fun wx h=>(((D wx).1 h).2.2 5 (by omega)).trans (congrArg some d5);have u6: ∀wx,SS wx→wx.cell? ⟨W,6,none⟩=_:=fun wx h=>(((D wx).1 h).2.2 6 (by omega)).trans (congrArg some d6)
    have A2:c6 (∀j,j<7→ ∀c∈g j,c.okB):=fun j M c hc=>by
     cases j with
     |zero=>rw[I6.o]at hc;exact J6.o c hc
     |succ j=>rw[I3.o j (by omega)]at hc;exact X1.o.gd.pok.2.1 j (by omega) c hc
    have H5:c6 (∀j,j<7→ ∀c∈g2 j,c.okB):=fun j M c hc=>by
     cases j with
     |zero=>rw[C2.o]at hc;exact A2.o 0 (by omega) c hc
     |succ j=>rw[Y0.o j (by omega)]at hc;exact X0.o.gd.pok.2.1 j (by omega) c hc
    have hw: ∀wx,f8 wo wx→_:=fun wx h=>jL (w:=wx) (HI.o.below h).q1.cv (C.o.below h).cv (fun j M c hc=>A2.o j M c hc) (fun j M c hc=>H5.o j M c hc);rw[e0,e1,e2,e3,e4,e5,e6,d0,d1,d2,d3,d4,d5,d6]at hw;have HW:c6 _:=hw;clear hw D e0 e1 e2 e3 e4 e5 e6 d0 d1 d2 d3 d4 d5 d6;go_wp2_with fail;refine wp_region_noPanic ?_;refine wp_region_held_drew (S:=SS) (by kernel_rfl) ?_ fun t=>?_
    ·exact Q4.o _ (d8 wo 1)
    refine QG 0 148 ?_ rfl ?_ t ?_;rotate_left
    ·intro w d;have zb:=L0 w d;have x0:=s0 w d;have z0:=u0 w d;have x1:=s1 w d;have z1:=u1 w d;have x2:=s2 w d;have z2:=u2 w d;have x3:=s3 w d;have z3:=u3 w d;have x4:=s4 w d;have z4:=u4 w d;have x5:=s5 w d;have z5:=u5 w d;have x6:=s6 w d;have z6:=u6 w d;clear d;go_simp;all_goals (with_reducible rfl)
    try simp only[Act.put,zz]
    refine QG 1 149 ?_ rfl ?_ t ?_;rotate_left
    ·intro w d;have zb:=L0 w d;have x0:=s0 w d;have z0:=u0 w d;have x1:=s1 w d;have z1:=u1 w d;have x2:=s2 w d;have z2:=u2 w d;have x3:=s3 w d;have z3:=u3 w d;have x4:=s4 w d;have z4:=u4 w d;have x5:=s5 w d;have z5:=u5 w d;have x6:=s6 w d;have z6:=u6 w d;clear d;go_simp;all_goals (with_reducible rfl)
    try simp only[Act.put,zz]
    refine QG 2 150 ?_ rfl ?_ t ?_;rotate_left
    ·intro w d;have zb:=L0 w d;have x0:=s0 w d;have z0:=u0 w d;have x1:=s1 w d;have z1:=u1 w d;have x2:=s2 w d;have z2:=u2 w d;have x3:=s3 w d;have z3:=u3 w d;have x4:=s4 w d;have z4:=u4 w d;have x5:=s5 w d;have z5:=u5 w d;have x6:=s6 w d;have z6:=u6 w d;clear d;go_simp;all_goals (with_reducible rfl)
    try simp only[Act.put,zz]
    refine QG 3 151 ?_ rfl ?_ t ?_;rotate_left
    ·intro w d;have zb:=L0 w d;have x0:=s0 w d;have z0:=u0 w d;have x1:=s1 w d;have z1:=u1 w d;have x2:=s2 w d;have z2:=u2 w d;have x3:=s3 w d;have z3:=u3 w d;have x4:=s4 w d;have z4:=u4 w d;have x5:=s5 w d;have z5:=u5 w d;have x6:=s6 w d;have z6:=u6 w d;clear d;go_simp;all_goals (with_reducible rfl)
    try simp only[Act.put,zz]
    refine QG 4 152 ?_ rfl ?_ t ?_;rotate_left
    ·intro w d;have zb:=L0 w d;have x0:=s0 w d;have z0:=u0 w d;have x1:=s1 w d;have z1:=u1 w d;have x2:=s2 w d;have z2:=u2 w d;have x3:=s3 w d;have z3:=u3 w d;have x4:=s4 w d;have z4:=u4 w d;have x5:=s5 w d;have z5:=u5 w d;have x6:=s6 w d;have z6:=u6 w d;clear d;go_simp;all_goals (with_reducible rfl)
    try simp only[Act.put,zz]
    refine QG 5 153 ?_ rfl ?_ t ?_;rotate_left
    ·intro w d;have zb:=L0 w d;have x0:=s0 w d;have z0:=u0 w d;have x1:=s1 w d;have z1:=u1 w d;have x2:=s2 w d;have z2:=u2 w d;have x3:=s3 w d;have z3:=u3 w d;have x4:=s4 w d;have z4:=u4 w d;have x5:=s5 w d;have z5:=u5 w d;have x6:=s6 w d;have z6:=u6 w d;clear d;go_simp;all_goals (with_reducible rfl)
    try simp only[Act.put,zz]
    refine C7 6 154 rfl fun K hK=>?_;go_simp;refine Calls.mono (HW.o _ (Below.drew (Below.refl _ _))) ?_;rintro e w9 ⟨lv,rfl,H1,i1⟩;obtain⟨la,ln,lc,P5⟩:=iK H1;subst P5;have Z:=b9 (a9 (d8 wo 1) i1);have C5:=b9 (H1.low (by have I:=HI.o.ch.size;simpa[go_sem]using I));clear H1 i1;refine hK.out _ _ ?_ fun t=>?_
    ·exact Q4.o _ Z.o
    clear hK K;try simp only[Act.put,zz]
    refine C7 7 155 rfl fun K hK=>?_;go_simp;have o2:=b9 ((HI.o.below Z.o).rt);have w2:=b9 o2.o.ok;obtain⟨sp',bv,e',I,h2,h3,h4⟩:=o2.o
    cases e'
    have R5:bv= .pointer (some ⟨pb,0,none⟩):=by have h9:=k3.o w9 Z.o;rw[cell_of_row w9 sp 0 _ _ (0,0) I]at h9;simpa using h9
    subst R5;have H3:c6 _:=I;have W1:=b9 h2;have G3:=b9 h3;clear I h2 h3 h4;refine(jY G3.o (C5.o.tx (fun x hx=>J0.o x hx)) (by rw[M1.o.wr];exact Y5.o)).mono ?_;rintro e T3 ⟨rfl,⟨A',D4,Y2⟩,f0⟩
    have B5:c6 (PR A w (.pointer (some ⟨sp,0,none⟩)) dv k P S (qH k b Ls l) (.returned (.int .i64 (A5 P S2 (tO g g2 6)).1)) T3):=by
     have I:=HI.o.ch.size;have h2:=Z.o.size;refine⟨S2,A',M1.o.mono (by omega),by rw[k5.o],?_,fun x hx=>?_,(HI.o.ch.self (Ch.of_below Z.o)).trans f0 (fun x hx=> .inl hx)⟩
     ·rw[k5.o];have hl:=(Array.getElem?_eq_some_iff.1 H3.o).1
      exact⟨sp,_,rfl,by rw[f0.block sp hl W1.o];exact H3.o,fun e=>by
       rcases Y2 sp e with q|q
       ·exact W1.o q
       ·omega,D4,by rw[dU (B:=S2.bl.length) w2.o.1 (by obtain⟨D',I,_⟩:=iT G3.o;exact I.good.n64)];exact w2.o.2⟩
     ·rcases Y2 x hx with q|q
      ·exact .inl q
      ·right;omega
    have H6:c6 (SS T3):=(j6.o _).2 ⟨f0.cell (k3.o _ Z.o) W1.o,fun j M=>f0.cell ((HI.o.below Z.o).q1.c j M) I5.o,fun j M=>f0.cell ((C.o.below Z.o).c j M) HI.o.nA⟩;clear D4 Y2 f0 H3 W1 G3;refine hK.out _ _ ?_ fun t=>?_
    ·exact H6.o
    clear hK K;try simp only[Act.put,zz]
    refine QG 8 8 ?_ rfl ?_ t ?_;rotate_left
    ·intro w d;have zb:=L0 w d;have x0:=s0 w d;have z0:=u0 w d;have x1:=s1 w d;have z1:=u1 w d;have x2:=s2 w d;have z2:=u2 w d;have x3:=s3 w d;have z3:=u3 w d;have x4:=s4 w d;have z4:=u4 w d;have x5:=s5 w d;have z5:=u5 w d;have x6:=s6 w d;have z6:=u6 w d;clear d;go_simp;all_goals (with_reducible rfl)
    try simp only[Act.put,zz]
    refine wpAnyH_done (by kernel_rfl) ?_ _;refine NoPanic.normal ?_;go_wp2_with fail;go_ret;exact .inr ⟨G1.o,B5.o⟩
end
end
end Go.Proofs.YtfhoilcbhmeofaaGreat
