/- awake: the walk. -/
import Derived.Test.YtfhoilcbhmeofaaGreatB25
set_option maxRecDepth 100000
set_option maxHeartbeats 16000000
namespace Go.Proofs.YtfhoilcbhmeofaaGreat
open Go.RowKit
section
theorem KD(w:d9):Calls Tryz.prog 58 #[.pointer none] w fun e w'=>e= .returned (.tuple #[.slice none 0 0,.int .i64 2])∧w'=w:=by
 go_in;go_wp2_with fail;refine B4 (bR) ?_;go_wp2_with fail;go_ret2;exact⟨rfl,rfl⟩
theorem CO{A:n9}{w:d9}{sv dv:Value}{k:Int}{P:Bo}{S:Dk}(h:RT A w sv dv k P S)(hs:i6 P S=true):Calls Tryz.prog 58 #[sv] w fun e w'=>e= .returned (.tuple #[.slice none 0 0,.int .i64 80])∧RT A w' sv dv k (J6 P) S∧Ch A w w':=by
 have HT:=b9 h;obtain⟨sp,a,_,_⟩:=h.ptr;subst a;clear h;go_in;go_wp2_with fail;refine(aD HT.o hs).mono ?_;rintro e b ⟨rfl,d,c⟩;have HF:c6 (RT A b (.pointer (some ⟨sp,0,none⟩)) dv k (J6 P) S∧Ch A w b):=⟨d,c⟩;clear d c;go_wp2_with fail;go_ret2;exact⟨rfl,HF.o⟩
structure Co(lo mid:Nat)(w3:d9)(ov:Value)(L:List Cl)(wr:d9):Prop where
 own:wr.ownsRow lo 132 6 ov L.length (l9 L)
 dom: ∀x,ov.ownBlock=some x→x<mid∨w3.heap.size≤x
 ch:Ch (fun x=>lo≤x∧(x<mid∨w3.heap.size≤x)) w3 wr
 lw:lo≤wr.heap.size
theorem PD{D:n9}{w0 w1:d9}{g o:Nat}(h:Ch D w0 w1)(hg:D g)(a b c d e f:Value):Ch D w0 ((((((w1.setCell ⟨g,o,none⟩ a).setCell ⟨g,o+1,none⟩ b).setCell ⟨g,o+2,none⟩ c).setCell ⟨g,o+3,none⟩ d).setCell ⟨g,o+4,none⟩ e).setCell ⟨g,o+5,none⟩ f):=by
 have st: ∀{w1:d9} (j:Nat) (u:Value),Ch D w0 w1→Ch D w0 (w1.setCell ⟨g,j,none⟩ u):=fun j u h=>h.trans (k8 _ g j u) (fun x i=> .inl (by subst i;exact hg));exact st _ _ (st _ _ (st _ _ (st _ _ (st _ _ (st _ _ h)))))
theorem vD{w:d9}{B e n:Nat}{v:Value}{xs:List Value}(h:w.ownsRow B e 6 v n xs): ∃ao cap,v= .slice ao n cap:=by
 rcases h.2 with ⟨rfl,rfl⟩|⟨g,cap,cur,rfl,_⟩
 ·exact⟨none,0,rfl⟩
 ·exact⟨_,cap,rfl⟩
theorem oT(w:d9):f8 w w.drew:=(Below.refl _ _).drew
section

variable{lo mid:Nat}{w3 wr wx:d9}{ov ov':Value}{L:List Cl}

theorem Co.below(h:Co lo mid w3 ov L wr)(hb:f8 wr wx):Co lo mid w3 ov L wx:=⟨j8 h.own hb,h.dom,h.ch.self (Ch.of_below hb),Nat.le_trans h.lw hb.size⟩
theorem Co.inD(h:Co lo mid w3 ov L wr){x:Nat}(hx:ov.ownBlock=some x):lo≤x∧(x<mid∨w3.heap.size≤x):=⟨(h.own.lt x hx).1,h.dom x hx⟩
theorem Co.put{g n cap k:Nat}(q:Cl)(h:Co lo mid w3 (.slice (some ⟨g,0,none⟩) n cap) L wr)(hn:n=L.length):Co lo mid w3 (.slice (some ⟨g,0,none⟩) n cap) (L.set k q) ((((((wr.setCell ⟨g,k*6,none⟩ (.int .u64 q.k)).setCell ⟨g,k*6+1,none⟩ (.bool q.p.h)).setCell ⟨g,k*6+2,none⟩ (.int .u64 q.p.b)).setCell ⟨g,k*6+3,none⟩ (.bool q.c.h)).setCell ⟨g,k*6+4,none⟩ (.int .u64 q.c.b)).setCell ⟨g,k*6+5,none⟩ (.int .i64 q.n)):=by
 have a:=h.own;rw[←hn]at a;refine⟨?_,h.dom,?_,?_⟩
 ·rw[List.length_set,←hn];exact WR q a
 ·exact PD h.ch (h.inD rfl) _ _ _ _ _ _
 ·have d:=(PD (D:=fun _=>True) (Ch.refl _ wr) (g:=g) (o:=k*6) trivial (.int .u64 q.k) (.bool q.p.h) (.int .u64 q.p.b) (.bool q.c.h) (.int .u64 q.c.b) (.int .i64 q.n)).size;exact Nat.le_trans h.lw d
theorem Co.grow{w9:d9}{q:Cl}{o:Obj}(h:Co lo mid w3 ov L wr)(ho:w9.ownsRow lo 132 6 ov' (L.length+1) (l9 (L++[q])))(hg:(wr.alloc o).grownBy w9 ov.ownBlock)(hat:ov'.ownBlock=ov.ownBlock∨ov'.ownBlock=some (wr.alloc o).heap.size):Co lo mid w3 ov' (L++[q]) w9:=by
 refine⟨by rw[List.length_append];exact ho,fun x a=>?_,?_,Nat.le_trans (Nat.le_trans h.lw (a8 wr o).size) hg.size⟩
 ·rcases hat with e|e
  ·rw[e]at a;exact h.dom x a
  ·rw[e]at a
   cases a
   exact .inr (Nat.le_trans h.ch.size (a8 wr o).size)
 ·exact(h.ch.self (Ch.of_below (a8 wr o))).self (Ch.of_grown hg (fun x a=>h.inD a))
end

theorem KZ:(Tryz.prog.info? 132).map (fun i=>(i.zero,i.size,i.bytes))=some (some (.agg #[.int .u64 0,.bool false,.int .u64 0,.bool false,.int .u64 0,.int .i64 0]),6,48):=by kernel_rfl
theorem EP{P:Program}{e:TypeId}{z:Value}{s b:Nat}(h:(P.info? e).map (fun i=>(i.zero,i.size,i.bytes))=some (some z,s,b)): ∃i,P.info? e=some i∧i.zero=some z∧i.size=s∧i.bytes=b:=by
 cases hi:P.info? e with
 |none=>rw[hi]at h;cases h
 |some i=>
  rw[hi]at h;simp at h;exact⟨i,rfl,h.1,h.2.1,h.2.2⟩
theorem IE{w:d9}{ops:Array Oper}{rest:List Oper}{o:Oper}{a:Act}{Q:Exit→Act→d9→Prop}(hgd:o.guard=none)(s x:Operand)(ho:o.op= .call {callee:= .builtin .append,args:= #[s,x],argTypes:= #[65,65]})
  {base:Nat} (v:Value) (l:List Cl) (hs:a.eval s=v) (hown:w.ownsRow base 132 6 v l.length (l9 l))
  (X:Nat) (q:Cl) (hx:a.eval x= .slice (some ⟨X,0,none⟩) 1 1) (hc:CA w X 0 q) (hn:l.length≤1000) (hb:base≤w.heap.size)
  (h: ∀v' w',w'.ownsRow base 132 6 v' (l.length+1) (l9 (l++[q]))→w.grownBy w' v.ownBlock→(v'.ownBlock=v.ownBlock∨v'.ownBlock=some w.heap.size)→wpList Tryz.prog ops Q rest (a.put o.dst v') w'):wpList Tryz.prog ops Q (o::rest) a w:=by
 obtain⟨i0,n,e,d,c⟩:=EP KZ;refine wpList_append_own_at w hgd s x 65 ho base 132 i0 (.agg #[.int .u64 0,.bool false,.int .u64 0,.bool false,.int .u64 0,.int .i64 0]) 6 48 Tryz.underlying65 n e d c rfl (by decide) v l.length (l9 l) hs hown ⟨X,0,none⟩ 1 1 (W6 q) hx rfl (fun j u b=>?_) (fun u m=>kM (l:=[q]) (by rw[vW];exact m)) (by simp only[maxLen];omega) (by omega) hb ?_
 ·have f:j=0∨j=1∨j=2∨j=3∨j=4∨j=5∨6≤j:=by omega
  obtain⟨A,z,y,t,r,p⟩:=hc;rcases f with rfl|rfl|rfl|rfl|rfl|rfl|h
  ·simp[W6]at b;subst b;simpa[WideShapes.add_plain]using A
  ·simp[W6]at b;subst b;simpa[WideShapes.add_plain]using z
  ·simp[W6]at b;subst b;simpa[WideShapes.add_plain]using y
  ·simp[W6]at b;subst b;simpa[WideShapes.add_plain]using t
  ·simp[W6]at b;subst b;simpa[WideShapes.add_plain]using r
  ·simp[W6]at b;subst b;simpa[WideShapes.add_plain]using p
  ·rw[List.getElem?_eq_none (by rw[bE];exact h)]at b;cases b
 intro v' w' k i _ g;exact h v' w' (by rw[G4,vW];exact k) i g
theorem qM(w:d9):CA (w.alloc (Obj.cells #[.int .u64 0,.bool false,.int .u64 0,.bool false,.int .u64 0,.int .i64 0] 132)) w.heap.size 0 j9:=by
 constructor<;>simp[go_sem,j9,K0]
def Lx(A:n9)(w:d9)(sv dv:Value)(k:Int)(P:Bo)(S:Dk)(e:Ending)(w':d9):Prop:=
 ∃S' ao cap d,e= .returned (.tuple #[.slice ao d.length cap,.int .i64 0])∧cG (fZ (gP P S 7) 6) d∧w'.ownsRow w.heap.size 132 6 (.slice ao d.length cap) d.length (l9 d)∧RT A w' sv dv k P S'∧F0 6 S S'∧Ch A w w'
theorem Et{g:Nat→List Cl}(h: ∀j,(g j).length≤16): ∀n,(fZ g n).length≤16*n:=by
 intro n
 induction n with
 |zero=>simp[fZ]
 |succ n a=>unfold fZ;rw[List.length_append];have:=h (n+1);omega
theorem JJ{A:n9}{w:d9}{sv dv:Value}{k:Int}{P:Bo}{S:Dk}(h:RT A w sv dv k P S)(hs:i6 P S=false)(hg16: ∀j,(gP P S 7 j).length≤16)(hrd:S.rd<4611686018427387000):Calls Tryz.prog 58 #[sv] w (Lx A w sv dv k P S):=by
 have HT:c6 (RT A w sv dv k P S):=h;have HS:=b9 hs;have q2:=b9 hrd;have S1:c6 (∀x,A x→x<w.heap.size):=fun x W=>h.lt W;obtain⟨sp,b2,P0,Q0⟩:=h.ptr;have o2:c6 (sp<w.heap.size∧ ¬A sp):=⟨P0,Q0⟩;subst b2;obtain⟨g,hg⟩:=c7 (gP P S 7);have HG:=b9 hg;have D0:c6 (∀j,(g j).length≤16):=by rw[hg];exact hg16
 clear h hs hrd P0 Q0 hg hg16;go_in;go_wp2_with fail;refine B4 (X9 HT.o HS.o) ?_;go_upto_region 5 with fail
 have M0:c6 ((w.alloc (Obj.cells #[] 132)).ownsRow w.heap.size 132 6 (.slice (some ⟨w.heap.size,0,none⟩) 0 0) 0 []):=World.ownsRow_made w #[] 0 (Nat.le_refl _) (by simp[maxLen]) rfl;have l1:c6 (RT A (w.alloc (Obj.cells #[] 132)) (.pointer (some ⟨sp,0,none⟩)) dv k P S):=HT.o.below (a8 _ _);have y1:c6 (Ch A w (w.alloc (Obj.cells #[] 132))):=Ch.of_below (a8 _ _);have K0:c6 ((w.alloc (Obj.cells #[] 132)).heap.size=w.heap.size+1):=g8 _ _;generalize G1:w.heap.size=lo at M0 K0⊢;have i0:=b9 G1;clear G1;generalize w.alloc (Obj.cells #[] 132)=w1 at M0 l1 y1 K0⊢;go_wp2_with fail;refine(aV l1.o HS.o (by have:=q2.o;omega)).mono ?_;rintro e w2 ⟨f,S2,rfl,u,I1,f1,R0,D1,J0⟩;have r2:=b9 D1;have V0:=b9 R0;have R1:c6 (Ch A w w2):=y1.o.self J0;have N1:c6 (w2.ownsRow lo 132 6 (.slice (some ⟨lo,0,none⟩) 0 0) 0 []):=U2 M0.o J0 (fun x W=>by have h1:=S1.o x W;have h2:=i0.o;omega);have B0:=b9 J0.size;have x1:=b9 I1
 have v1:c6 (∀j,j<7→ ∀x,(f j).ownBlock=some x→g j≠[]→x<w2.heap.size):=fun j hj x W g0=>by
  have h:=f1 j hj;rw[←HG.o]at h;rcases B2 h with ⟨q,_⟩|⟨b,X,j1,q,hp,_,_,q4⟩
  ·exact absurd q g0
  ·rw[q]at W
   cases W
   exact(q4 0 hp).lt
 have b0:c6 (S7 (w2.alloc (Obj.cells #[f 0,f 1,f 2,f 3,f 4,f 5,f 6] 147)) w2.heap.size f g):=eT (fun j hj=>by rw[HG.o];exact f1 j hj);obtain⟨a0,n0,p0,e0⟩:=u 0 (by omega);obtain⟨a1,n1,s,e1⟩:=u 1 (by omega);obtain⟨a2,n2,p2,e2⟩:=u 2 (by omega);obtain⟨a3,n3,p3,e3⟩:=u 3 (by omega);obtain⟨a4,n4,p4,e4⟩:=u 4 (by omega);obtain⟨a5,n5,p5,e5⟩:=u 5 (by omega);obtain⟨a6,n6,p6,e6⟩:=u 6 (by omega);rw[e0,e1,e2,e3,e4,e5,e6]at b0⊢;clear u I1 f1 R0 D1 J0 e0 e1 e2 e3 e4 e5 e6;go_upto_region 6 with fail
 have C0:c6 (RT A (w2.alloc (Obj.cells #[.slice a0 n0 p0,.slice a1 n1 s,.slice a2 n2 p2,.slice a3 n3 p3,.slice a4 n4 p4,.slice a5 n5 p5,.slice a6 n6 p6] 147)) (.pointer (some ⟨sp,0,none⟩)) dv k P S2):=V0.o.below (a8 _ _);have O0:c6 (Ch A w (w2.alloc (Obj.cells #[.slice a0 n0 p0,.slice a1 n1 s,.slice a2 n2 p2,.slice a3 n3 p3,.slice a4 n4 p4,.slice a5 n5 p5,.slice a6 n6 p6] 147))):=R1.o.self (Ch.of_below (a8 _ _));have s1:c6 ((w2.alloc (Obj.cells #[.slice a0 n0 p0,.slice a1 n1 s,.slice a2 n2 p2,.slice a3 n3 p3,.slice a4 n4 p4,.slice a5 n5 p5,.slice a6 n6 p6] 147)).ownsRow lo 132 6 (.slice (some ⟨lo,0,none⟩) 0 0) 0 []):=N1.o.alloc _;have L0:c6 ((w2.alloc (Obj.cells #[.slice a0 n0 p0,.slice a1 n1 s,.slice a2 n2 p2,.slice a3 n3 p3,.slice a4 n4 p4,.slice a5 n5 p5,.slice a6 n6 p6] 147)).heap.size=w2.heap.size+1):=g8 _ _;generalize m2:w2.heap.size=Q at b0 L0 v1 B0⊢;generalize w2.alloc (Obj.cells #[.slice a0 n0 p0,.slice a1 n1 s,.slice a2 n2 p2,.slice a3 n3 p3,.slice a4 n4 p4,.slice a5 n5 p5,.slice a6 n6 p6] 147)=J at C0 O0 s1 L0 b0⊢;clear m2 V0 R1 N1 M0 l1 y1;obtain⟨mid,S0⟩:=c7 w1.heap.size;have Y1:c6 (mid=lo+1):=by have:=K0.o;show _=_;omega
 rw[←S0]at x1 B0;clear S0 K0;have P1:c6 (¬(lo≤Q∧(Q<mid∨J.heap.size≤Q))):=fun q=>by have h1:=B0.o;have h2:=L0.o;omega
 have O1:c6 (∀j,j<7→g j≠[]→ ∀x,(f j).ownBlock=some x→ ¬(lo≤x∧(x<mid∨J.heap.size≤x))):=fun j hj g0 x W q=>by
  have h1:=x1.o j hj x W;have h2:=v1.o j hj x W g0;have h3:=L0.o;omega
 have l:c6 (Co lo mid J (.slice (some ⟨lo,0,none⟩) 0 0) [] J):=⟨by simpa[l9]using s1.o,fun x W=>by have e:lo=x:=Option.some.inj W;have:=Y1.o;omega,Ch.refl _ _,by have h1:=O0.o.size;have h2:=i0.o;omega⟩
 have A0:c6 (∀wr,Ch (fun x=>lo≤x∧(x<mid∨J.heap.size≤x)) J wr→ ∀j,j<7→wr.cell? ⟨Q,j,none⟩=some (f j)∧Cv wr (f j) (g j)):=fun wr hc j hj=>⟨hc.cell (b0.o.c j hj) P1.o,by
  by_cases g0:g j=[]
  ·have h:=b0.o.cv j hj;rw[g0]at h⊢;obtain⟨ao,j1,e,h1,h2,h3,_⟩:=h;exact⟨ao,j1,e,h1,h2,h3,fun i hi=>by simp at hi⟩
  ·exact(b0.o.cv j hj).ch hc (fun x W=>O1.o j hj g0 x W)⟩
 have Z1:c6 (∀wr,Ch (fun x=>lo≤x∧(x<mid∨J.heap.size≤x)) J wr→RT A wr (.pointer (some ⟨sp,0,none⟩)) dv k P S2∧Ch A w wr):=fun wr hc=>
  ⟨C0.o.high hc (fun x W q=>by have h1:=S1.o x W;have h2:=i0.o;omega) (fun q=>by have h1:=o2.o.1;have h2:=i0.o;omega),O0.o.trans hc (fun x W=> .inr (by have h2:=i0.o;omega))⟩
 clear s1 C0 O0 b0 P1 O1 x1 v1;go_wp2_with fail;go_loopw [5,7] (fun ov pv wr=> ∃s:Nat,1≤s∧s≤7∧pv= .int .i64 s∧Co lo mid J ov (W0 (fZ g (s-1))) wr) (fun _ pv _=>(7-intOf pv).toNat)
 case atStart=>exact⟨1,by omega,by omega,by simp,by simpa[fZ,W0]using l.o⟩
 case round=>
  clear l;obtain⟨s,F2,D2,rfl,t⟩:=hrel;obtain⟨p,hp⟩: ∃p,s=p+1:=⟨s-1,by omega⟩;have m1:=b9 hp;rw[show s-1=p by omega]at t;clear hp;have l:=b9 t;obtain⟨oo,oc,O⟩:=vD t.own;rw[bZ]at O;clear t;by_cases G2:s<7
  ·have V1:(s:Int)≤6:=by omega
   have v2:(s:Int)<7:=by omega
   have x2:(0:Int)≤(s:Int):=by omega
   obtain⟨c2,H⟩:=A0.o wr l.o.ch s (by omega);obtain⟨N,hN⟩:=c7 ((g s).length);have HN:=b9 hN;obtain⟨fa,fc,c1⟩:=H.form;rw[←hN]at c1;have Q1:=b9 c1;have y2:(N:Int)≤16:=by have:=D0.o s;omega
   clear c2 H c1 hN;subst O;go_wp2_with fail;go_loopw [5,8] (fun ov iv wr=> ∃i:Nat,i≤N∧iv= .int .i64 i∧Co lo mid J ov (W0 (fZ g p++(g s).take i)) wr) (fun _ iv _=>N-(intOf iv).toNat)
   case atStart=>exact⟨0,Nat.zero_le _,rfl,by simpa using l.o⟩
   case round=>
    clear l;obtain⟨i,hi,rfl,t⟩:=hrel;obtain⟨o,ho⟩:=c7 (W0 (fZ g p++(g s).take i));rw[←ho]at t;have o1:=b9 ho;have l:=b9 t;obtain⟨L,hL⟩:=c7 o.length;have HL:=b9 hL;obtain⟨oo,oc,O⟩:=vD t.own;rw[←hL]at O;subst O
    have A2:L≤96:=by
     rw[hL,ho,bZ,List.length_append,List.length_take];have h1:=Et D0.o p;have h2:=D0.o s;have h3:=m1.o;omega
    obtain⟨q0,H⟩:=A0.o wr t.ch s (by omega);rw[Q1.o]at q0 H;clear t ho hL;by_cases H1:i<N
    ·have m0:i<(g s).length:=by have:=HN.o;omega
     rcases B2 H with ⟨h0,_⟩|⟨b,X,j1,Y0,_,_,_,i2⟩
     ·rw[h0]at m0;simp at m0
     have J1:fa=some ⟨b,X,none⟩:=by simp at Y0;exact Y0.1
     obtain⟨c,hc⟩:=c7 ((g s)[i]);have HC:=b9 hc;have s2:=b9 J1;obtain⟨I,hI⟩:=c7 (fE o c.k);have HI:=b9 hI;have L1:I≤L:=by rw[hI,HL.o];exact Db _ _
     clear Y0 i2 hc J1 hI H q0
     have f0:c6 (∀wx,Ch (fun x=>lo≤x∧(x<mid∨J.heap.size≤x)) J wx→wx.cell? ⟨Q,s,none⟩=some (.slice (some ⟨b,X,none⟩) N fc)∧CA wx b (X+i*6) c):=fun wx I0=>by
      obtain⟨h1,h2⟩:=A0.o wx I0 s (by omega);rw[Q1.o,s2.o]at h1 h2;have h3:=h2.at i m0;rw[←HC.o]at h3;exact⟨h1,h3⟩
     obtain⟨q0,_⟩:=f0.o wr l.o.ch;go_wp2_with fail;clear q0;go_loopw [9] (fun av wr=> ∃a:Nat,a≤I∧av= .int .i64 a∧Co lo mid J (.slice oo L oc) o wr) (fun av _=>I-(intOf av).toNat)
     case atStart=>exact⟨0,Nat.zero_le _,rfl,l.o⟩
     case round=>
      clear l;obtain⟨a,ha,rfl,t⟩:=hrel;have l:=b9 t;clear t;obtain⟨q0,q1⟩:=f0.o wr l.o.ch;have k0: ∀wx,f8 wr wx→wx.cell? ⟨Q,s,none⟩=some (.slice (some ⟨b,X,none⟩) N fc):=fun wx h=>by rw[h.cell (p:=⟨Q,s,none⟩) (c8 q0)];exact q0
      have k1: ∀wx,f8 wr wx→wx.cell? ⟨b,X+i*6,none⟩=some (.int .u64 c.k):=fun wx h=>by rw[h.cell (p:=⟨b,X+i*6,none⟩) q1.lt];exact q1.c0
      by_cases K1:a<I
      ·have v0:a<L:=by omega
       have U0:=decide_eq_true (by omega);have T0:=decide_eq_true v0;obtain⟨j2,s0⟩:=OG (o:=o) (k:=c.k) (i:=a) (by rw[←HI.o];exact K1);obtain⟨og,ocap,Y,_,_,_,_⟩:=qB l.o.own (by have:=HL.o;omega);have l0:oo=some ⟨og,0,none⟩:=by simp at Y;exact Y.1
       have r:=l.o.own;rw[l0,←HL.o]at r;have r0:=(P2 r j2).1;obtain⟨y,hy⟩:=c7 (o[a].k);have r1:=r0.c0;rw[←hy]at r1;have X0:y<c.k:=by rw[hy];exact s0
       have U1:=decide_eq_true (by omega);have T1:=decide_eq_true X0;have k2: ∀wx,f8 wr wx→wx.cell? ⟨og,a*6,none⟩=some (.int .u64 y):=fun wx h=>by rw[h.cell (p:=⟨og,a*6,none⟩) (c8 r1)];exact r1
       have F:=b9 (l.o.below (oT _));clear Y r r0 r1 hy s0 q0 q1;subst l0;go_wp2_with fail;refine wp_region_noPanic ?_;refine wp_region_held_drew (S:=fun wx=>f8 wr wx) (by kernel_rfl) ?_ fun d=>?_
       ·exact(Below.refl _ _).drew
       refine g6 0 31 rfl d ?_;refine g6 1 32 rfl d ?_;refine g6 2 33 rfl d ?_;refine g6 3 34 rfl d ?_;refine g6 4 35 rfl d ?_;refine g6 5 36 rfl d ?_;refine g6 6 37 rfl d ?_;refine g6 7 38 rfl d ?_;refine g6 8 39 rfl d ?_;refine g6 9 40 rfl d ?_;refine g6 10 41 rfl d ?_;refine g6 11 42 rfl d ?_;refine g6 12 43 rfl d ?_;refine g6 13 44 rfl d ?_;refine g6 14 45 rfl d ?_;refine g6 15 46 rfl d ?_;refine g6 16 47 rfl d ?_;refine g6 17 48 rfl d ?_;refine g6 18 49 rfl d ?_;refine wpAnyH_done (by kernel_rfl) ?_ _;refine NoPanic.normal ?_;clear d k0 k1 k2;go_wp2_with fail;go_roundw
       case rel=>exact⟨a+1,K1,by simp,F.o⟩
       case measure=>simp[intOf];omega
      ·obtain rfl:a=I:=by omega
       by_cases v0:a<L
       ·have U0:=decide_eq_true (by omega);have T0:=decide_eq_true v0;have i1:fE o c.k<o.length:=by rw[←HI.o,←HL.o];exact v0
        have s0:=OH i1;obtain⟨og,ocap,Y,_,_,_,_⟩:=qB l.o.own (by have:=HL.o;omega);have l0:oo=some ⟨og,0,none⟩:=by simp at Y;exact Y.1
        have r:=l.o.own;rw[l0,←HL.o]at r;have r0:=(P2 r i1).1;obtain⟨y,hy⟩:=c7 (o[fE o c.k].k);have r1:=r0.c0;rw[←hy,←HI.o]at r1;have X0: ¬y<c.k:=by rw[hy];exact s0
        have U1:=decide_eq_false (by omega);have T1:=decide_eq_false X0;have k2: ∀wx,f8 wr wx→wx.cell? ⟨og,a*6,none⟩=some (.int .u64 y):=fun wx h=>by rw[h.cell (p:=⟨og,a*6,none⟩) (c8 r1)];exact r1
        clear Y r r0 r1 hy s0 q0 q1 i1;subst l0;go_wp2_with fail;refine wp_region_noPanic ?_;refine wp_region_held_drew (S:=fun wx=>f8 wr wx) (by kernel_rfl) ?_ fun d=>?_
        ·exact(Below.refl _ _).drew
        refine g6 0 31 rfl d ?_;refine g6 1 32 rfl d ?_;refine g6 2 33 rfl d ?_;refine g6 3 34 rfl d ?_;refine g6 4 35 rfl d ?_;refine g6 5 36 rfl d ?_;refine g6 6 37 rfl d ?_;refine g6 7 38 rfl d ?_;refine g6 8 39 rfl d ?_;refine g6 9 40 rfl d ?_;refine g6 10 41 rfl d ?_;refine g6 11 42 rfl d ?_;refine g6 12 43 rfl d ?_;refine g6 13 44 rfl d ?_;refine g6 14 45 rfl d ?_;refine g6 15 46 rfl d ?_;refine g6 16 47 rfl d ?_;refine g6 17 48 rfl d ?_;refine g6 18 49 rfl d ?_;refine wpAnyH_done (by kernel_rfl) ?_ _;refine NoPanic.normal ?_;have D:=b9 (l.o.below (oT _));clear d k0 k1 k2;generalize wr.drew=wc at D⊢;have U:=b9 D.o.own;go_upto_region 16 with (at_builtin;refine IE rfl (.tmp 52) (.tmp 54) rfl (.slice (some ⟨og,0,none⟩) L oc) o (by rfl) (U.o.alloc _) wc.heap.size j9 (by rfl) (qM wc) (by have:=HL.o;omega) (Nat.le_trans D.o.lw (a8 _ _).size) ?_;intro v9 w9 z o0 T)
        have w0:=b9 (D.o.grow z o0 T);obtain⟨v,ocap,j0,_,W1,_,_⟩:=qB z (by omega);rw[←HL.o]at j0;subst j0;clear z o0 T D U l;go_wp2_with fail;go_loopw [10] (fun kv wr=> ∃m:Nat,a≤m∧m≤L∧kv= .int .i64 m∧Co lo mid J (.slice (some ⟨v,0,none⟩) (L+1) ocap) (tS o m) wr) (fun kv _=>(intOf kv).toNat-a)
        case atStart=>exact⟨L,L1,Nat.le_refl _,by simp,by rw[HL.o,uQ];rw[←HL.o];exact w0.o⟩
        case round=>
         clear w0;obtain⟨m,l2,K,rfl,t⟩:=hrel;have G:=b9 t;clear t;obtain⟨LL,Z⟩:=c7 (L+1);have B:=b9 Z;rw[←Z]at G⊢;clear Z;have r:=G.o.own;rw[aU (by rw[←HL.o];exact K),←HL.o,←B.o]at r;have R:=b9 r;clear r;by_cases b1:a<m
         ·obtain⟨m',g2⟩: ∃m',m=m'+1:=⟨m-1,by omega⟩;subst g2;have F1:m'<o.length:=by have:=HL.o;omega
          obtain⟨Z0,B1⟩:=Hc F1;obtain⟨x0,H0⟩: ∃x,x=o[m']:=⟨_,rfl⟩;have hr:=(P2 R.o Z0).1;have C:=(P2 R.o Z0).2;rw[B1,←H0]at hr;obtain⟨d0,d1,d2,d3,d4,d5⟩:=hr;have E:m'+1<(tS o (m'+1)).length:=by rw[aU (by omega)];omega
          have ht:=(P2 R.o E).1;obtain⟨y0,M⟩: ∃y,y=(tS o (m'+1))[m'+1]:=⟨_,rfl⟩;rw[←M]at ht;obtain⟨t0,t1,t2,t3,t4,t5⟩:=ht;have z0:=C ((m'+1)*6);have z1:=C ((m'+1)*6+1);have z2:=C ((m'+1)*6+2);have z3:=C ((m'+1)*6+3);have z4:=C ((m'+1)*6+4);have z5:=C ((m'+1)*6+5);have f2:((m'+1:Nat):Int)-1=(m':Int):=by omega
          have X1:(((m'+1:Nat):Int))<(LL:Int):=by have:=B.o;omega
          have G0:((m':Int))<(LL:Int):=by have:=B.o;omega
          have A1:m'+1<LL:=by have:=B.o;omega
          have F0:m'<LL:=by omega
          have F:c6 (Co lo mid J (.slice (some ⟨v,0,none⟩) LL ocap) (tS o m') ((((((wr.setCell ⟨v,(m'+1)*6,none⟩ (.int .u64 x0.k)).setCell ⟨v,(m'+1)*6+1,none⟩ (.bool x0.p.h)).setCell ⟨v,(m'+1)*6+2,none⟩ (.int .u64 x0.p.b)).setCell ⟨v,(m'+1)*6+3,none⟩ (.bool x0.c.h)).setCell ⟨v,(m'+1)*6+4,none⟩ (.int .u64 x0.c.b)).setCell ⟨v,(m'+1)*6+5,none⟩ (.int .i64 x0.n))):=by
           have h:=G.o.put (k:=m'+1) x0 (by rw[aU (by omega),←HL.o];exact B.o);rw[H0,VF F1,←H0]at h;exact h
          obtain⟨M1,g1⟩:=c7 (m'+1);have N0:=b9 g1;rw[←g1]at t0 t1 t2 t3 t4 t5 z0 z1 z2 z3 z4 z5 F X1 A1 f2 b1⊢;clear M C Z0 B1 H0 E g1;have H2:0<M1:=by have:=N0.o;omega
          go_wp2_with fail;go_roundw
          case rel=>exact⟨m',by have:=N0.o;omega,by omega,by have:=N0.o;simp,F.o⟩
          case measure=>have:=N0.o;simp[intOf];omega
         ·obtain rfl:m=a:=by omega
          obtain⟨q0,q1⟩:=f0.o wr G.o.ch;obtain⟨d0,d1,d2,d3,d4,d5⟩:=q1;have E:m<(tS o m).length:=by rw[aU (by rw[←HL.o];exact K)];have:=HL.o;omega
          have ht:=(P2 R.o E).1;obtain⟨y0,M⟩: ∃y,y=(tS o m)[m]:=⟨_,rfl⟩;rw[←M]at ht;obtain⟨t0,t1,t2,t3,t4,t5⟩:=ht;have C:=(P2 R.o E).2;have z0:=C (m*6);have z1:=C (m*6+1);have z2:=C (m*6+2);have z3:=C (m*6+3);have z4:=C (m*6+4);have z5:=C (m*6+5);have G0:((m:Int))<(LL:Int):=by have:=B.o;omega
          have F0:m<LL:=by have:=B.o;omega
          have F:c6 (Co lo mid J (.slice (some ⟨v,0,none⟩) LL ocap) (W0 (fZ g p++(g s).take (i+1))) ((((((wr.setCell ⟨v,m*6,none⟩ (.int .u64 c.k)).setCell ⟨v,m*6+1,none⟩ (.bool c.p.h)).setCell ⟨v,m*6+2,none⟩ (.int .u64 c.p.b)).setCell ⟨v,m*6+3,none⟩ (.bool c.c.h)).setCell ⟨v,m*6+4,none⟩ (.int .u64 c.c.b)).setCell ⟨v,m*6+5,none⟩ (.int .i64 c.n))):=by
           have h:=G.o.put (k:=m) c (by rw[aU (by rw[←HL.o];exact K),←HL.o];exact B.o);rw[NG c (by rw[←HL.o];exact K)]at h;rw[List.take_succ_eq_append_getElem m0,←HC.o,←List.append_assoc,iA,←o1.o];unfold EK;rw[←HI.o];exact h
          clear M C E;go_wp2_with fail;go_roundw
          case rel=>exact⟨i+1,H1,by simp,F.o⟩
          case measure=>simp[intOf];omega
       ·have U0:=decide_eq_false (by omega);have T0:=decide_eq_false v0;clear q0 q1;go_wp2_with fail;refine wp_region_noPanic ?_;refine wp_region_held_drew (S:=fun wx=>f8 wr wx) (by kernel_rfl) ?_ fun d=>?_
        ·exact(Below.refl _ _).drew
        refine g6 0 31 rfl d ?_;refine g6 1 32 rfl d ?_;refine g6 2 33 rfl d ?_;refine g6 3 34 rfl d ?_;refine g6 4 35 rfl d ?_;refine C2 5 36 rfl d ?_;try simp only[Act.put,zz]
        refine C2 6 37 rfl d ?_;try simp only[Act.put,zz]
        refine C2 7 38 rfl d ?_;try simp only[Act.put,zz]
        refine C2 8 39 rfl d ?_;try simp only[Act.put,zz]
        refine C2 9 40 rfl d ?_;try simp only[Act.put,zz]
        refine C2 10 41 rfl d ?_;try simp only[Act.put,zz]
        refine C2 11 42 rfl d ?_;try simp only[Act.put,zz]
        refine C2 12 43 rfl d ?_;try simp only[Act.put,zz]
        refine C2 13 44 rfl d ?_;try simp only[Act.put,zz]
        refine C2 14 45 rfl d ?_;try simp only[Act.put,zz]
        refine C2 15 46 rfl d ?_;try simp only[Act.put,zz]
        refine C2 16 47 rfl d ?_;try simp only[Act.put,zz]
        refine C2 17 48 rfl d ?_;try simp only[Act.put,zz]
        refine g6 18 49 rfl d ?_;refine wpAnyH_done (by kernel_rfl) ?_ _;refine NoPanic.normal ?_;have D:=b9 (l.o.below (oT _));clear d k0 k1;generalize wr.drew=wc at D⊢;have U:=b9 D.o.own;go_upto_region 16 with (at_builtin;refine IE rfl (.tmp 52) (.tmp 54) rfl (.slice oo L oc) o (by rfl) (U.o.alloc _) wc.heap.size j9 (by rfl) (qM wc) (by have:=HL.o;omega) (Nat.le_trans D.o.lw (a8 _ _).size) ?_;intro v9 w9 z o0 T)
        have w0:=b9 (D.o.grow z o0 T);obtain⟨og,ocap,j0,_,W1,_,_⟩:=qB z (by omega);rw[←HL.o]at j0;subst j0;clear z o0 T D U l;go_wp2_with fail;go_loopw [10] (fun kv wr=> ∃m:Nat,a≤m∧m≤L∧kv= .int .i64 m∧Co lo mid J (.slice (some ⟨og,0,none⟩) (L+1) ocap) (tS o m) wr) (fun kv _=>(intOf kv).toNat-a)
        case atStart=>exact⟨L,L1,Nat.le_refl _,by simp,by rw[HL.o,uQ];rw[←HL.o];exact w0.o⟩
        case round=>
         clear w0;obtain⟨m,l2,K,rfl,t⟩:=hrel;have G:=b9 t;clear t;obtain⟨LL,Z⟩:=c7 (L+1);have B:=b9 Z;rw[←Z]at G⊢;clear Z;have r:=G.o.own;rw[aU (by rw[←HL.o];exact K),←HL.o,←B.o]at r;have R:=b9 r;clear r;by_cases b1:a<m
         ·exact absurd b1 (by omega)
         ·obtain rfl:m=a:=by omega
          obtain⟨q0,q1⟩:=f0.o wr G.o.ch;obtain⟨d0,d1,d2,d3,d4,d5⟩:=q1;have E:m<(tS o m).length:=by rw[aU (by rw[←HL.o];exact K)];have:=HL.o;omega
          have ht:=(P2 R.o E).1;obtain⟨y0,M⟩: ∃y,y=(tS o m)[m]:=⟨_,rfl⟩;rw[←M]at ht;obtain⟨t0,t1,t2,t3,t4,t5⟩:=ht;have C:=(P2 R.o E).2;have z0:=C (m*6);have z1:=C (m*6+1);have z2:=C (m*6+2);have z3:=C (m*6+3);have z4:=C (m*6+4);have z5:=C (m*6+5);have G0:((m:Int))<(LL:Int):=by have:=B.o;omega
          have F0:m<LL:=by have:=B.o;omega
          have F:c6 (Co lo mid J (.slice (some ⟨og,0,none⟩) LL ocap) (W0 (fZ g p++(g s).take (i+1))) ((((((wr.setCell ⟨og,m*6,none⟩ (.int .u64 c.k)).setCell ⟨og,m*6+1,none⟩ (.bool c.p.h)).setCell ⟨og,m*6+2,none⟩ (.int .u64 c.p.b)).setCell ⟨og,m*6+3,none⟩ (.bool c.c.h)).setCell ⟨og,m*6+4,none⟩ (.int .u64 c.c.b)).setCell ⟨og,m*6+5,none⟩ (.int .i64 c.n))):=by
           have h:=G.o.put (k:=m) c (by rw[aU (by rw[←HL.o];exact K),←HL.o];exact B.o);rw[NG c (by rw[←HL.o];exact K)]at h;rw[List.take_succ_eq_append_getElem m0,←HC.o,←List.append_assoc,iA,←o1.o];unfold EK;rw[←HI.o];exact h
          clear M C E;go_wp2_with fail;go_roundw
          case rel=>exact⟨i+1,H1,by simp,F.o⟩
          case measure=>simp[intOf];omega
    ·obtain rfl:i=N:=by omega
     have F:c6 (Co lo mid J (.slice oo L oc) (W0 (fZ g s)) wr):=by
      have h:=l.o;rw[o1.o,HN.o,List.take_length]at h;rw[show fZ g s=fZ g p++g s by rw[m1.o];rfl];exact h
     go_wp2_with fail;go_roundw
     case rel=>exact⟨s+1,by omega,by omega,by simp,F.o⟩
     case measure=>simp[intOf];omega
  ·have V1: ¬(s:Int)≤6:=by omega
   obtain rfl:s=7:=by omega
   obtain rfl:p=6:=by have:=m1.o;omega
   obtain⟨C1,I0⟩:=Z1.o wr l.o.ch
   have HF:c6 (Lx A w (.pointer (some ⟨sp,0,none⟩)) dv k P S (.returned (.tuple #[u5,.int .i64 0])) wr):=by
    refine⟨S2,oo,oc,W0 (fZ g 6),by rw[O,bZ],by rw[←HG.o];exact sH _,?_,C1,r2.o,I0⟩;have h:=l.o.own;rw[O,bZ]at h;rw[bZ,i0.o];exact h
   clear C1 I0;rw[O]at HF⊢;go_wp2_with fail;go_ret2;exact HF.o
end
def Fu:Bo:=⟨1,R3 7,0,false⟩
def Io:Dk:=⟨[1,7,0,0,0,0,0,0,0]::List.replicate 15 [],false,-1,0,2⟩
theorem Dj:F7 (mR (List.replicate 16 [])) 7=(0,some Fu,Io):=by rfl
theorem La:Iw Fu Io (List.replicate 7 []):=by
 refine⟨wV (by omega) (by omega) (by show 2+2*7≤16;omega),rfl,rfl,by show 16≤64;omega,rfl,rfl,rfl,fun g t a=>?_,fun p b=> .inl ⟨wU 7 p,MG 7 p⟩⟩;have:m8 (bk Io.bl (1-Fu.home)) Io.bl.length=none:=rfl;rw[this]at a;cases a
def rV:List (List Cl):=List.replicate 6 []
theorem oB(i:Nat):B3 rV i=[]:=by
 unfold B3 rV;rw[List.getD_eq_getElem?_getD,List.getElem?_replicate]
 split<;>rfl
theorem OJ(c:Cl): ¬gB rV c:=by rintro⟨i,_,h⟩;rw[oB]at h;simp at h
theorem Fi{k:Int}(hk:s9 k=true):Gk k C1 rV:=by
 refine⟨⟨rfl,by intro x b;simp[C1]at b,⟨rfl,fun i _ c a=>?_,fun i _=>?_⟩,fun i _=>?_⟩,hk,fun i j c d _ _ _ a _=>?_,fun c a=>absurd a (OJ c),fun c a=>absurd a (OJ c),fun c a=>absurd a (OJ c)⟩
 ·rw[oB]at a;simp at a
 ·rw[oB];simp
 ·rw[oB];rfl
 ·rw[oB]at a;simp at a
theorem Il: ∃P S,A5 Fu Io [(0,(J1 C1).1)]=(0,P,S)∧Iw P S (D2 C1 rV)∧S.left= -1∧N9 P S≤12∧S.bl.length=16:=by
 have b:UB 7 [((0:Int),(J1 C1).1)]:=⟨fun p a=>by simp at a;subst a;simp,by simp,fun p a=>by simp at a;subst a;exact kO _⟩;rcases yP La b (by simp) (by decide)with ⟨P,S,e,i,m,o,l,k,n,j,h⟩|⟨S',e,_,_,q,_⟩
 ·refine⟨P,S,e,i,h rfl,?_,j⟩;have g:uD [((0:Int),(J1 C1).1)]≤[((0:Int),(J1 C1).1)].length:=List.length_filter_le _ _;have f:Io.wr=2:=rfl;have d:Io.rd=0:=rfl;have c:Fu.gen=1:=rfl;rw[f]at l;rw[d]at k;rw[c]at m;simp only[List.length_cons,List.length_nil]at g;unfold N9;omega
 ·exact absurd rfl q
theorem Im{k:Int}(hk:s9 k=true): ∃P S,L8 k (mR (List.replicate 16 []))=(0,some P,S)∧Iw P S (D2 C1 rV)∧S.left= -1∧N9 P S≤12∧S.bl.length=16:=by
 obtain⟨P,S,e,h⟩:=Il;refine⟨P,S,?_,h⟩;unfold L8;rw[if_neg (by rw[hk];simp),Dj];simp only[e];rw[if_neg (by simp)]
def Mf(k:Int)(w:d9)(e:Ending)(w':d9):Prop:=
 ∃A P S sp sb,e= .returned (.tuple #[.pointer (some ⟨sb,0,none⟩),.pointer (some ⟨sp,0,none⟩)])∧RS A w' (.pointer (some ⟨sp,0,none⟩)) (.pointer (some ⟨sb,0,none⟩)) k P S C1 rV∧(∀x,A x→w.heap.size≤x)∧w.heap.size≤sp∧N9 P S≤12∧S.bl.length=16∧f8 w w'
theorem LK{k:Int}(hk:s9 k=true)(w:d9):Calls Tryz.prog 24 #[.int .i64 k] w (Mf k w):=by
 have HK:c6 (s9 k=true):=hk;clear hk;go_in;go_wp2_with fail;refine(DN (n:=16) (by omega) (by omega)).mono ?_;rintro e E ⟨dv,G,rfl,b,m,f⟩;have a:c6 (f8 w E∧ ∀x,G x→w.heap.size≤x):=⟨m,f⟩;obtain⟨c,r⟩: ∃c,dv= .pointer (some ⟨c,0,none⟩):=by obtain⟨c,_,_,e,_⟩:=b;exact⟨c,e⟩
 subst r;have t:=b9 b;clear b m f;go_wp2_with fail;refine(lP t.o k (by show(0:Nat)<_;omega)).mono ?_;obtain⟨P,S,D,C,A,B,i⟩:=Im HK.o;unfold IL;rw[D];rintro e z ⟨v,rfl,_,h,l⟩;obtain⟨p,sp,rfl,g,j,d⟩:=h _ rfl
 have y:c6 (∀x,p x→w.heap.size≤x):=fun x F=>by
  rcases d x F with q|q
  ·exact a.o.2 x q
  ·exact Nat.le_trans a.o.1.size q
 have s:c6 (w.heap.size≤sp):=Nat.le_trans a.o.1.size g;have u:c6 (f8 w z):=a.o.1.trans (l.to_below a.o.1.size a.o.2);have HR:c6 (RS p z (.pointer (some ⟨sp,0,none⟩)) (.pointer (some ⟨c,0,none⟩)) k P S C1 rV):=⟨j,C,Fi HK.o,A⟩;have HN:c6 (N9 P S≤12∧S.bl.length=16):=⟨B,i⟩;clear h j d l D C A B i g;go_wp2_with fail;go_ret2;exact⟨p,P,S,sp,c,rfl,HR.o,y.o,s.o,HN.o.1,HN.o.2,u.o⟩
theorem XW{w:d9}{ao:Option Addr}{n cap:Nat}{l:f7}(h:Kv w (.slice ao n cap) l){i:Nat}(hi:i<l.length): ∃b off,ao=some ⟨b,off,none⟩∧w.cell? ⟨b,off+i,none⟩=some (.int .u64 (l[i]:Int)):=by
 obtain⟨ao',cap',e,_,_,_,a⟩:=h
 cases e
 obtain⟨b,off,d,c⟩:=a i (by rw[i8];exact hi);refine⟨b,off,d,?_⟩;rw[c];simp[ib,hi]
theorem EQ{w:d9}{a b:Value}{la lb:List f7}(ha:PS w a la)(hb:PS w b lb)(hn:la.length≠lb.length):
  Calls Tryz.prog 20 #[a,b] w fun e w'=>e= .returned (.bool (decide (la=lb)))∧Below w.heap.size w w':=by
 have c:decide (la=lb)=false:=decide_eq_false (fun e=>hn (by rw[e]));rw[c];obtain⟨g,ca,rfl,_,_⟩:=ha.form;obtain⟨bo,cb,rfl,_,_⟩:=hb.form;have f:((la.length:Int)==(lb.length:Int))=false:=by simp;omega
 have d:(la.length:Int)≠(lb.length:Int):=by omega
 clear ha hb hn c;go_in;go_wp2_with fail;go_ret;exact⟨rfl,I5 _⟩
theorem zH{w:d9}{ao bo:Option Addr}{ca cb:Nat}:
  Calls Tryz.prog 20 #[.slice ao 0 ca,.slice bo 0 cb] w fun e w'=>e= .returned (.bool true)∧Below w.heap.size w w':=by
 go_in;go_wp2_with fail;refine wp_loop_rounds 1 ?_;rw[rounds_succ];go_wp2_with fail;go_ret;exact⟨rfl,I5 _⟩
def ZY(la lb:List f7)(w:d9)(iv:Value)(wr:d9):Prop:=
 ∃k:Nat,k≤la.length∧iv= .int .i64 k∧(∀i,i<k→bk la i=bk lb i)∧Below w.heap.size w wr
theorem zG{w:d9}{la lb:List f7}{b1 o1 c1 b2 o2 c2 n:Nat}(hna:la.length=n)(hnb:lb.length=n)(hm:n≤maxLen)
  (ha: ∀i,i<n→ ∃u,w.cell? ⟨b1,o1+i,none⟩=some u∧Bv w u (bk la i)) (hb: ∀i,i<n→ ∃u,w.cell? ⟨b2,o2+i,none⟩=some u∧Bv w u (bk lb i)):
  Calls Tryz.prog 20 #[.slice (some ⟨b1,o1,none⟩) n c1,.slice (some ⟨b2,o2,none⟩) n c2] w fun e w'=>e= .returned (.bool (decide (la=lb)))∧Below w.heap.size w w':=by
 have HA:=b9 ha;have HB:=b9 hb;have f:=b9 hna;have G:=b9 hnb;have O:(n:Int)≤9223372036854775807:=by simp only[maxLen]at hm;omega
 obtain⟨A,F⟩:=c7 (decide (la=lb));rw[←F];have D:=b9 F;clear ha hb hna hnb hm F;go_in;go_wp2_with fail;go_loopw [5] (fun iv wr=>ZY la lb w iv wr) (fun iv _=>n-(intOf iv).toNat)
 case atStart=>exact⟨0,Nat.zero_le _,rfl,fun i E=>by omega,I5 _⟩
 case round=>
  obtain⟨k,J,rfl,x,a⟩:=hrel;have Q:k≤n:=by rw[←f.o];exact J
  have B:=b9 x;clear x J;by_cases q:k<n
  ·obtain⟨u1,j,c⟩:=HA.o k q;obtain⟨u2,g,b⟩:=HB.o k q;obtain⟨s,m⟩: ∃p,bk la k=p:=⟨_,rfl⟩;obtain⟨r,l⟩: ∃p,bk lb k=p:=⟨_,rfl⟩;rw[m]at c;rw[l]at b;have z:=b9 m;have y:=b9 l;clear m l;have v:=c.below a;have t:=b.below a;obtain⟨N,L,rfl,_⟩:=C9 c;obtain⟨M,K,rfl,_⟩:=C9 b
   have W: ∀wx,Below wr.heap.size wr wx→wx.cell? ⟨b1,o1+k,none⟩=some (.slice N s.length L):=fun wx h=>by
    rw[(a9 a h).cell (p:=⟨b1,o1+k,none⟩) (c8 j)];exact j
   have U: ∀wx,Below wr.heap.size wr wx→wx.cell? ⟨b2,o2+k,none⟩=some (.slice M r.length K):=fun wx h=>by
    rw[(a9 a h).cell (p:=⟨b2,o2+k,none⟩) (c8 g)];exact g
   have T: ∀wx,Below wr.heap.size wr wx→(convert 75 9 (.slice N s.length L)).run Tryz.prog wx= .ok (.string (BB s)) wx:=fun wx h=>xJ (v.below h);have S: ∀wx,Below wr.heap.size wr wx→(convert 75 9 (.slice M r.length K)).run Tryz.prog wx= .ok (.string (BB r)) wx:=fun wx h=>xJ (t.below h);have R:Below wr.heap.size wr wr.drew:=(Below.refl _ _).drew;have C:=b9 a;have I:=b9 c.2;have H:=b9 b.2;clear c b v t j g a;by_cases d:s=r
   ·subst d
    have HR:c6 (∀wx,Below wr.heap.size wr wx→ZY la lb w (.int .i64 ((k:Int)+1)) wx):=fun wx h=>
     ⟨k+1,by rw[f.o];exact q,rfl,fun i E=>(by
      by_cases e:i=k
      ·subst e;rw[z.o,y.o]
      ·exact B.o i (by omega)),a9 C.o h⟩
    go_wp2_with fail;go_region_held3 (fun wx=>Below wr.heap.size wr wx) (first|assumption) (fail);all_goals go_wp2_with fail
    all_goals go_roundw
    case rel=>exact HR.o _ (by assumption)
    case measure=>simp[intOf];omega
   ·have P:((BB s).toList==(BB r).toList)=false:=by rw[NE I.o H.o];exact decide_eq_false d
    have HF:c6 (A=false):=by
     show _=_;rw[D.o];exact decide_eq_false (fun e=>d (by rw[←z.o,←y.o,e]))
    clear d;go_wp2_with fail;go_region_held3 (fun wx=>Below wr.heap.size wr wx) (first|assumption) (fail);all_goals go_wp2_with fail
    all_goals (try simp only[Exit.inBlock,Exit.then])
    all_goals go_ret
    all_goals exact⟨by rw[HF.o];rfl,a9 C.o (by assumption)⟩
  ·obtain rfl:k=n:=by omega
   have HT:c6 (A=true):=by
    show _=_;rw[D.o];exact decide_eq_true (Ji (by rw[f.o,G.o]) (fun i E=>B.o i (by rw[f.o]at E;exact E)))
   go_wp2_with fail;go_ret;exact⟨by rw[HT.o];rfl,a⟩
theorem zF{w:d9}{a b:Value}{la lb:List f7}(ha:PS w a la)(hb:PS w b lb):
  Calls Tryz.prog 20 #[a,b] w fun e w'=>e= .returned (.bool (decide (la=lb)))∧Below w.heap.size w w':=by
 by_cases f:la.length=lb.length
 ·obtain⟨y,ca,rfl,r,q,p,j⟩:=ha;obtain⟨bo,cb,rfl,o,n,m,h⟩:=hb;by_cases l:la.length=0
  ·have d:la=[]:=List.eq_nil_of_length_eq_zero l;have c:lb=[]:=List.eq_nil_of_length_eq_zero (by omega);subst d;subst c;exact zH
  ·obtain⟨x,t,_,rfl,_,_⟩:=j 0 (by omega);obtain⟨v,s,_,rfl,_,_⟩:=h 0 (by omega);rw[←f];refine zG rfl f.symm (by omega) (fun i k=>?_) fun i k=>?_
   ·obtain⟨_,_,u,d,c,g⟩:=j i k
    cases d
    exact⟨u,c,g⟩
   ·obtain⟨_,_,u,d,c,g⟩:=h i (by omega)
    cases d
    exact⟨u,c,g⟩
 ·exact EQ ha hb f
theorem rA(b:Nat)(w:d9):Calls Tryz.prog 31 #[.int .u64 b] w fun e w'=>e= .returned (.agg #[.bool true,.int .u64 b])∧Below w.heap.size w w':=by
 go_in;go_wp2_with fail;refine bodyPost_ret (v:= .agg #[.bool true,.int .u64 b]) (by simp[results,Tryz.results31,go_sem]) rfl ⟨rfl,a8 _ _⟩
theorem KP(k b:Nat)(w:d9):Calls Tryz.prog 27 #[.int .u64 k,.int .u64 b] w fun e w'=>e= .returned (.agg #[.int .u64 k,.bool true,.int .u64 b])∧Below w.heap.size w w':=by
 go_in;go_wp2_with fail;have i:(w.alloc (Obj.cells #[.int .u64 0,.bool false,.int .u64 0] 57)).cell? ⟨w.heap.size,0,none⟩=some (.int .u64 0):=by simp[go_sem]
 have g:(w.alloc (Obj.cells #[.int .u64 0,.bool false,.int .u64 0] 57)).cell? ⟨w.heap.size,1,none⟩=some (.bool false):=by simp[go_sem]
 have f:(w.alloc (Obj.cells #[.int .u64 0,.bool false,.int .u64 0] 57)).cell? ⟨w.heap.size,2,none⟩=some (.int .u64 0):=by simp[go_sem]
 have d: ∀j,(w.alloc (Obj.cells #[.int .u64 0,.bool false,.int .u64 0] 57)).frozen? ⟨w.heap.size,j,none⟩=false:=by intro j;simp[go_sem]
 have l:c6 (Below w.heap.size w (w.alloc (Obj.cells #[.int .u64 0,.bool false,.int .u64 0] 57))):=a8 _ _;generalize w.alloc (Obj.cells #[.int .u64 0,.bool false,.int .u64 0] 57)=w0 at l i g f d⊢;refine(rA b w0).mono ?_;rintro e c ⟨rfl,a⟩;have s:c.cell? ⟨w.heap.size,0,none⟩=some (.int .u64 0):=by rw[a.cell (p:=⟨w.heap.size,0,none⟩) (c8 i)];exact i
 have r:c.cell? ⟨w.heap.size,1,none⟩=some (.bool false):=by rw[a.cell (p:=⟨w.heap.size,1,none⟩) (c8 g)];exact g
 have q:c.cell? ⟨w.heap.size,2,none⟩=some (.int .u64 0):=by rw[a.cell (p:=⟨w.heap.size,2,none⟩) (c8 f)];exact f
 have x:c.frozen? ⟨w.heap.size,0,none⟩=false:=by rw[a.frozen (p:=⟨w.heap.size,0,none⟩) (c8 i)];exact d 0
 have u:c.frozen? ⟨w.heap.size,1,none⟩=false:=by rw[a.frozen (p:=⟨w.heap.size,1,none⟩) (c8 g)];exact d 1
 have t:c.frozen? ⟨w.heap.size,2,none⟩=false:=by rw[a.frozen (p:=⟨w.heap.size,2,none⟩) (c8 f)];exact d 2
 have n:=b9 (a9 l.o a);clear a i g f d;obtain⟨R,m⟩:=c7 w.heap.size;have HR:=b9 m;rw[←m]at s r q x u t⊢;clear m;go_wp2_with fail;refine bodyPost_ret (v:= .agg #[.int .u64 k,.bool true,.int .u64 b]) (by simp[results,Tryz.results27,go_sem,s,r,q]) rfl ⟨rfl,?_⟩;rw[←HR.o];have h:Below w.heap.size w c:=n.o;rw[←HR.o]at h;exact((h.setCell (Nat.le_refl _) _).setCell (Nat.le_refl _) _).setCell (Nat.le_refl _) _
theorem fC{w:d9}{av bv:Value}{ks:f7}(ha:Kv w av ks)(hb:Kv w bv ks)(b a:Int):
  Calls Tryz.prog 32 #[.agg #[.int .i64 b,.int .i64 a,av],.agg #[.int .i64 b,.int .i64 a,bv]] w fun e w'=>e= .returned (.bool true)∧Below w.heap.size w w':=by
 obtain⟨aa,ac,rfl,al,am⟩:=O7 ha;obtain⟨ba,bc,rfl,bl,bm⟩:=O7 hb;obtain⟨n,l⟩:=c7 ks.length;rw[←l]at ha hb al⊢;have HN:=b9 l;have H:(n:Int)≤9223372036854775807:=by simp only[maxLen]at am;omega
 have c:c6 (Below w.heap.size w ((w.alloc (Obj.cells #[.int .i64 b,.int .i64 a,.slice aa n ac] 62)).alloc (Obj.cells #[.int .i64 b,.int .i64 a,.slice ba n bc] 62))):=a9 (a8 _ _) (a8 _ _);have HA:=b9 (ha.below c.o);have HB:=b9 (hb.below c.o);have f:c6 (MB ((w.alloc (Obj.cells #[.int .i64 b,.int .i64 a,.slice aa n ac] 62)).alloc (Obj.cells #[.int .i64 b,.int .i64 a,.slice ba n bc] 62)) w.heap.size b a (.slice aa n ac)):=(A9 w b a (.slice aa n ac)).keep (a8 _ _)
 have d:c6 (MB ((w.alloc (Obj.cells #[.int .i64 b,.int .i64 a,.slice aa n ac] 62)).alloc (Obj.cells #[.int .i64 b,.int .i64 a,.slice ba n bc] 62)) (w.heap.size+1) b a (.slice ba n bc)):=by
  have h:=A9 (w.alloc (Obj.cells #[.int .i64 b,.int .i64 a,.slice aa n ac] 62)) b a (.slice ba n bc);rwa [g8]at h
 clear ha hb l al am bl bm;go_in;go_upto_region 1 with fail
 obtain⟨R,y⟩:=c7 w.heap.size;obtain⟨T,v⟩:=c7 (w.heap.size+1);rw[←v]at d⊢;rw[←y]at f⊢;generalize (w.alloc (Obj.cells #[.int .i64 b,.int .i64 a,.slice aa n ac] 62)).alloc (Obj.cells #[.int .i64 b,.int .i64 a,.slice ba n bc] 62)=t at c HA HB f d⊢;clear y v;obtain⟨G,F,r,_⟩:=f.o;obtain⟨E,D,m,_⟩:=d.o;have K:(b !=b)=false:=by simp
 have L:(a !=a)=false:=by simp
 go_wp2_with fail;go_loopw [5] (fun iv wr=> ∃i:Nat,iv= .int .i64 i∧i≤n∧Below t.heap.size t wr) (fun iv _=>n-(intOf iv).toNat)
 case atStart=>exact⟨0,rfl,by omega,Below.refl _ _⟩
 case round=>
  obtain⟨i,rfl,J,k⟩:=hrel;have HW:=b9 k;have N:wr.cell? ⟨R,2,none⟩=some (.slice aa n ac):=by rw[k.cell (p:=⟨R,2,none⟩) (c8 r)];exact r
  have M:wr.cell? ⟨T,2,none⟩=some (.slice ba n bc):=by rw[k.cell (p:=⟨T,2,none⟩) (c8 m)];exact m
  clear k G F r E D m;by_cases s:i<n
  ·have j:(i:Int)<(n:Int):=by omega
   have g:i<ks.length:=by rw[←HN.o];exact s
   obtain⟨p,po,C,A⟩:=XW (HA.o.below HW.o) g;obtain⟨q,qo,B,z⟩:=XW (HB.o.below HW.o) g;subst C B;obtain⟨x,u⟩:=c7 (ks[i]);rw[←u]at A z;have I:((x:Int) !=(x:Int))=false:=by simp
   clear u;go_wp2_with fail;go_quiet (fail);go_wp2_with fail;go_roundw
   case rel=>exact⟨i+1,by go_num,by omega,a9 HW.o (d8 _ _)⟩
   case measure=>simp[intOf];omega
  ·have j: ¬(i:Int)<(n:Int):=by omega
   go_wp2_with fail;go_ret;exact⟨rfl,a9 c.o HW.o⟩
section
theorem Nb(w:d9)(x y:Nat):Kv (w.alloc (Obj.cells #[.int .u64 (x:Int),.int .u64 (y:Int)] 37)) (.slice (some ⟨w.heap.size,0,none⟩) 2 2) [x,y]:=by
 refine⟨_,2,rfl,Nat.le_refl _,by simp[maxLen],by simp,fun i a=>?_⟩;have h:i=0∨i=1:=by simp[ib]at a;omega
 rcases h with rfl|rfl<;>exact⟨w.heap.size,0,rfl,by simp[go_sem,ib]⟩
theorem Ks(w:d9)(x:Nat):Kv (w.alloc (Obj.cells #[.int .u64 (x:Int)] 37)) (.slice (some ⟨w.heap.size,0,none⟩) 1 1) [x]:=by
 refine⟨_,1,rfl,Nat.le_refl _,by simp[maxLen],by simp,fun i a=>?_⟩;have h:i=0:=by simp[ib]at a;omega
 subst h;exact⟨w.heap.size,0,rfl,by simp[go_sem,ib]⟩
theorem Mx(w:d9)(p:Pr)(hp:p.ok):Qv (w.alloc (Obj.cells #[.int .u64 p.k,.bool p.v.h,.int .u64 p.v.b] 57)) (.slice (some ⟨w.heap.size,0,none⟩) 1 1) [p]:=by
 refine⟨⟨_,1,rfl,Nat.le_refl _,by simp[maxLen],by simp,fun i c=>?_⟩,fun o a=>by simp at a;subst a;exact hp⟩;have h:i=0:=by simp at c;omega
 subst h;exact⟨w.heap.size,0,rfl,by simp[go_sem],by simp[go_sem],by simp[go_sem]⟩
theorem My(w:d9):Qv w (.slice none 0 0) []:=⟨⟨none,0,rfl,Nat.le_refl _,by simp[maxLen],fun _=>rfl,fun i hi=>by simp at hi⟩,by simp⟩
def Ka:List Pr:=[⟨2,⟨true,3⟩⟩]
def Jn:List (List Cl):=[[⟨2,K0,⟨true,3⟩,1⟩],[],[],[],[],[]]
theorem Jl:fX rV C1 1=rV:=rfl
theorem Jm:T6 1 1 rV Ka=(0,Jn):=by rfl
theorem En:fX Jn ⟨1,4,[2,9]⟩ 1=rV:=by rfl
theorem Lm:G7 Jn 2 1=⟨true,3⟩:=by rfl
theorem Ln:G7 Jn 2 0=⟨false,0⟩:=by rfl
theorem Ll:G7 rV 2 1=⟨false,0⟩:=by rfl
theorem Ga:Ta 1 ⟨1,4,[2,9]⟩ Ka:=by
 refine⟨by simp[Ka,UA],fun p a=>?_⟩;simp[Ka]at a;subst a;exact⟨by simp,by decide,by show(3:Nat)<_;decide,rfl,rfl⟩
theorem Jk:eK ⟨1,4,[2,9]⟩ 1 1 3 Jn []=some 130:=by rfl
theorem Ib:Gh rV:=fun c hc=>absurd hc (OJ c)
theorem Af{P:Bo}{S:Dk}{m:Mk}(hm:o4 m=true)(h:Iw P S (D2 m rV)):Z9 P.tab=1:=by
 have g:tn P.tab 0≠0:=by
  rcases h.pg 0 (by omega)with ⟨_,b⟩|⟨a,_⟩
  ·rw[PH]at b;exact absurd b (Dy hm)
  ·exact a
 have f: ∀i,i<6→tn P.tab (i+1)=0:=fun i n=>by
  rcases h.pg (i+1) (by omega)with ⟨a,_⟩|⟨_,_,c⟩
  ·exact a
  ·rw[nP,oB]at c;exact absurd rfl c
 have j:=h.n8
 have e: ∀k,k≤6→Z9 (P.tab.take (k+1))=1:=by
  intro k
  induction k with
  |zero=>
   intro _;rw[iN (by omega),if_neg g];rfl
  |succ k d=>
   intro l;rw[iN (by omega),d (by omega),if_pos (f k (by omega))]
 have:=e 6 (Nat.le_refl _);rwa [List.take_of_length_le (by omega)]at this
theorem Dm{d:List Cl}(h:cG rV.flatten d):d=[]:=by
 have:rV.flatten=[]:=rfl;rw[this]at h;exact List.Perm.eq_nil h.1
structure Gi(w0:d9)(A:n9)(P:Bo)(S:Dk)(sp sb T5 T7 T11 T13:Nat)(kv:Value)(w:d9):Prop where
 bb:f8 w0 w
 rs:RS A w (.pointer (some ⟨sp,0,none⟩)) (.pointer (some ⟨sb,0,none⟩)) 1 P S ⟨1,6,[9]⟩ rV
 a5:w.cell? ⟨T5,0,none⟩=some (.bool true)
 b5:w.cell? ⟨T5,1,none⟩=some (.int .u64 3)
 a7:w.cell? ⟨T7,0,none⟩=some (.bool false)
 b7:w.cell? ⟨T7,1,none⟩=some (.int .u64 0)
 a11:w.cell? ⟨T11,0,none⟩=some (.bool false)
 b11:w.cell? ⟨T11,1,none⟩=some (.int .u64 0)
 m0:w.cell? ⟨T13,0,none⟩=some (.int .i64 1)
 m1:w.cell? ⟨T13,1,none⟩=some (.int .i64 6)
 m2:w.cell? ⟨T13,2,none⟩=some kv
 kvs:Kv w kv [9]
theorem Gi.below{A:n9}{P:Bo}{S:Dk}{sp sb T5 T7 T11 T13:Nat}{kv:Value}{w0 w w':d9}(h:Gi w0 A P S sp sb T5 T7 T11 T13 kv w)(hb:f8 w w'):Gi w0 A P S sp sb T5 T7 T11 T13 kv w':=
 ⟨a9 h.bb hb,h.rs.below hb,by rw[hb.cell (p:=⟨T5,0,none⟩) (c8 h.a5)];exact h.a5,by rw[hb.cell (p:=⟨T5,1,none⟩) (c8 h.b5)];exact h.b5,by rw[hb.cell (p:=⟨T7,0,none⟩) (c8 h.a7)];exact h.a7,by rw[hb.cell (p:=⟨T7,1,none⟩) (c8 h.b7)];exact h.b7,by rw[hb.cell (p:=⟨T11,0,none⟩) (c8 h.a11)];exact h.a11,by rw[hb.cell (p:=⟨T11,1,none⟩) (c8 h.b11)];exact h.b11,by rw[hb.cell (p:=⟨T13,0,none⟩) (c8 h.m0)];exact h.m0,by rw[hb.cell (p:=⟨T13,1,none⟩) (c8 h.m1)];exact h.m1,by rw[hb.cell (p:=⟨T13,2,none⟩) (c8 h.m2)];exact h.m2,h.kvs.below hb⟩
section

variable{w0 w:d9}{A:n9}{P:Bo}{S:Dk}{sp sb T5 T7 T11 T13:Nat}{kv:Value}

theorem jH(h:Gi w0 A P S sp sb T5 T7 T11 T13 kv w):w.cell? ⟨T5,0,none⟩=some (.bool true)∧w.cell? ⟨T5,1,none⟩=some (.int .u64 3)∧w.cell? ⟨T7,0,none⟩=some (.bool false)∧w.cell? ⟨T7,1,none⟩=some (.int .u64 0)∧w.cell? ⟨T11,0,none⟩=some (.bool false)∧w.cell? ⟨T11,1,none⟩=some (.int .u64 0)∧w.cell? ⟨T13,0,none⟩=some (.int .i64 1)∧w.cell? ⟨T13,1,none⟩=some (.int .i64 6)∧w.cell? ⟨T13,2,none⟩=some kv∧c6 (Gi w0 A P S sp sb T5 T7 T11 T13 kv w):=
 ⟨h.a5,h.b5,h.a7,h.b7,h.a11,h.b11,h.m0,h.m1,h.m2,h⟩
theorem Em(h:Gi w0 A P S sp sb T5 T7 T11 T13 kv w):Calls Tryz.prog 33 #[.pointer (some ⟨sp,0,none⟩)] w fun e w'=>e= .returned (.int .i64 1)∧w'=w:=by
 have a:=Af (m:=⟨1,6,[9]⟩) rfl h.rs.iw;have c:=jV h.rs.st;rw[a]at c;exact c
theorem ZJ(h:Gi w0 A P S sp sb T5 T7 T11 T13 kv w):Calls Tryz.prog 34 #[.pointer (some ⟨sp,0,none⟩)] w fun e w'=>e= .returned (.bool false)∧w'=w:=by
 have c:=gJ h.rs.st;rw[h.rs.iw.ov]at c;exact c
end
end
theorem xB(w:d9)(h:Bool)(b:Nat):(w.alloc (Obj.cells #[.bool h,.int .u64 (b:Int)] 55)).cell? ⟨w.heap.size,0,none⟩=some (.bool h)∧(w.alloc (Obj.cells #[.bool h,.int .u64 (b:Int)] 55)).cell? ⟨w.heap.size,1,none⟩=some (.int .u64 (b:Int)):=by constructor<;>simp[go_sem]
theorem G5{D:n9}{w w':d9}{T:Nat}{u v:Value}(h:w.cell? ⟨T,0,none⟩=some u∧w.cell? ⟨T,1,none⟩=some v)(hc:Ch D w w')(hd: ¬D T):w'.cell? ⟨T,0,none⟩=some u∧w'.cell? ⟨T,1,none⟩=some v:=⟨hc.cell h.1 hd,hc.cell h.2 hd⟩
theorem U4{w w':d9}{T:Nat}{u v:Value}(h:w.cell? ⟨T,0,none⟩=some u∧w.cell? ⟨T,1,none⟩=some v)(hc:f8 w w'):w'.cell? ⟨T,0,none⟩=some u∧w'.cell? ⟨T,1,none⟩=some v:=G5 (D:=fun _=>False) h (Ch.of_below hc) (fun e=>e)
theorem IA(w:d9):Calls Tryz.prog 4 #[] w fun e w'=>e= .returned (.bool true)∧f8 w w':=by
 go_in;go_wp2_with fail;refine(LK (k:=1) rfl w).mono ?_;rintro e w1 ⟨A1,P1,S1,sp,sb,rfl,f,t,N1,D,O1,hB⟩;have f1:=b9 f;have s1:=b9 t;have l1:c6 (N9 P1 S1≤12):=D;have I1:=b9 hB;clear f t N1 D O1 hB;go_upto_region 4 with fail
 have q1:c6 (f8 w1 (w1.alloc (Obj.cells #[.int .u64 2,.int .u64 9] 37))):=a8 _ _;have F1:c6 (Kv (w1.alloc (Obj.cells #[.int .u64 2,.int .u64 9] 37)) (.slice (some ⟨w1.heap.size,0,none⟩) 2 2) [2,9]):=Nb w1 2 9;go_wp2_with fail;refine(tD (f1.o.below q1.o) (by have:=l1.o;omega) F1.o (by intro x y;simp at y;omega) (fun x y t=>by have h:=f1.o.st.lt t;simp[Value.ownBlock]at y;omega) (b:=1) (a:=4) (.inr rfl) (by omega) (by omega) (by omega) (by omega) (by simp) rfl (.inl (by decide))).mono ?_;rw[Jl];rintro e w3 ⟨rfl,A3,P3,S3,f,t,i,D,_,_⟩;have A0:=b9 (a9 I1.o q1.o);have B1:=b9 f
 have r1:c6 (∀x,A3 x→w.heap.size≤x):=fun x y=>by
  rcases t x y with q|q
  ·exact s1.o x q
  ·have:=A0.o.size;omega
 have k1:c6 (N9 P3 S3≤29):=by have:=l1.o;show _≤_;omega
 have H1:c6 (f8 w w3):=A0.o.trans (i.to_below A0.o.size s1.o);clear f t i D f1 s1 l1 I1 q1 F1 A0;go_wp2_with fail;refine(KP 2 3 w3).mono ?_;rintro e w4 ⟨rfl,V0⟩;have C0:=b9 (B1.o.below V0);have G1:=b9 (a9 H1.o V0);have C1:c6 (Qv (w4.alloc (Obj.cells #[.int .u64 2,.bool true,.int .u64 3] 57)) (.slice (some ⟨w4.heap.size,0,none⟩) 1 1) Ka):=Mx w4 ⟨2,⟨true,3⟩⟩ ⟨by decide,by show(3:Nat)<_;decide⟩;have p1:c6 (f8 w4 (w4.alloc (Obj.cells #[.int .u64 2,.bool true,.int .u64 3] 57))):=a8 _ _;have z0:=b9 (a9 G1.o p1.o);clear V0 B1 H1;go_wp2_with fail
 refine(MJ (C0.o.below p1.o) (by have:=k1.o;omega) C1.o (fun x y t=>by have h:=C0.o.st.lt t;simp[Value.ownBlock]at y;omega) (by show(1:Int)≤1;omega) (by show(1:Int)≤4;omega) Ga (by
  obtain⟨L,e,g,_⟩:=Es (k:=1) (m:=⟨1,4,[2,9]⟩) (b:=1) rfl (by omega) Ka rV C0.o.gk Ib Ga;exact⟨L,e,g⟩)).mono ?_
 rw[Jm];rintro e w6 ⟨rfl,A6,P6,S6,f,t,i,D,_,_⟩;have z1:=b9 f
 have a0:c6 (∀x,A6 x→w.heap.size≤x):=fun x y=>by
  rcases t x y with q|q
  ·exact r1.o x q
  ·have:=z0.o.size;omega
 have j1:c6 (N9 P6 S6≤46):=by have:=k1.o;show _≤_;omega
 have o1:c6 (f8 w w6):=z0.o.trans (i.to_below z0.o.size r1.o);clear f t i D C0 r1 k1 G1 C1 p1 z0;go_wp2_with fail;refine(rO z1.o (by have:=j1.o;omega) 2 1).mono ?_;rw[Lm];rintro e w7 ⟨rfl,S7,f,B,i⟩;have d1:=b9 f;have i1:c6 (N9 P6 S7≤52):=by have h1:=nG (P:=P6) B;have:=j1.o;show _≤_;omega
 have n1:c6 (f8 w w7):=o1.o.trans (i.to_below o1.o.size a0.o);clear f B i z1 j1 o1;go_upto_region 7 with fail
 obtain⟨p,C⟩: ∃T,T=w7.heap.size:=⟨_,rfl⟩;have Z0:c6 ((w7.alloc (Obj.cells #[.bool true,.int .u64 3] 55)).cell? ⟨p,0,none⟩=some (.bool true)∧(w7.alloc (Obj.cells #[.bool true,.int .u64 3] 55)).cell? ⟨p,1,none⟩=some (.int .u64 3)):=by rw[C];exact xB w7 true 3
 have f0:c6 (¬A6 p):=fun e=>by have h:=d1.o.st.lt e;omega
 have X1:c6 (w.heap.size≤p):=by rw[C];exact n1.o.size
 have b1:c6 (RS A6 (w7.alloc (Obj.cells #[.bool true,.int .u64 3] 55)) (.pointer (some ⟨sp,0,none⟩)) (.pointer (some ⟨sb,0,none⟩)) 1 P6 S7 ⟨1,4,[2,9]⟩ Jn):=d1.o.below (a8 _ _);have D0:c6 (f8 w (w7.alloc (Obj.cells #[.bool true,.int .u64 3] 55))):=a9 n1.o (a8 _ _);rw[←C];generalize (w7.alloc (Obj.cells #[.bool true,.int .u64 3] 55))=w8 at Z0 b1 D0⊢;clear C d1 n1;go_wp2_with fail;refine(rO b1.o (by have:=i1.o;omega) 2 0).mono ?_;rw[Ln];rintro e w9 ⟨rfl,S9,f,B,i⟩;have a1:=b9 f;have g1:c6 (N9 P6 S9≤58):=by have h1:=nG (P:=P6) B;have:=i1.o;show _≤_;omega
 have m1:c6 (f8 w w9):=D0.o.trans (i.to_below D0.o.size a0.o);have M0:c6 (w9.cell? ⟨p,0,none⟩=some (.bool true)∧w9.cell? ⟨p,1,none⟩=some (.int .u64 3)):=G5 Z0.o i f0.o;clear f B i b1 i1 D0 Z0;go_upto_region 8 with fail
 obtain⟨u,C⟩: ∃T,T=w9.heap.size:=⟨_,rfl⟩;have Y0:c6 ((w9.alloc (Obj.cells #[.bool false,.int .u64 0] 55)).cell? ⟨u,0,none⟩=some (.bool false)∧(w9.alloc (Obj.cells #[.bool false,.int .u64 0] 55)).cell? ⟨u,1,none⟩=some (.int .u64 0)):=by rw[C];exact xB w9 false 0
 have k0:c6 ((w9.alloc (Obj.cells #[.bool false,.int .u64 0] 55)).cell? ⟨p,0,none⟩=some (.bool true)∧(w9.alloc (Obj.cells #[.bool false,.int .u64 0] 55)).cell? ⟨p,1,none⟩=some (.int .u64 3)):=U4 M0.o (a8 _ _);have B0:c6 (¬A6 u):=fun e=>by have h:=a1.o.st.lt e;omega
 have W1:c6 (w.heap.size≤u):=by rw[C];exact m1.o.size
 have p0:c6 (RS A6 (w9.alloc (Obj.cells #[.bool false,.int .u64 0] 55)) (.pointer (some ⟨sp,0,none⟩)) (.pointer (some ⟨sb,0,none⟩)) 1 P6 S9 ⟨1,4,[2,9]⟩ Jn):=a1.o.below (a8 _ _);have Z:c6 (f8 w (w9.alloc (Obj.cells #[.bool false,.int .u64 0] 55))):=a9 m1.o (a8 _ _);rw[←C];generalize (w9.alloc (Obj.cells #[.bool false,.int .u64 0] 55))=w10 at Y0 k0 p0 Z⊢;clear C a1 m1 M0;go_wp2_with fail;refine(TY p0.o (by have:=g1.o;omega) (My w10) (by intro x y;simp[Value.ownBlock]at y) (b:=1) (a:=3) Jk).mono ?_;rintro e v ⟨rfl,V1,f,B,i⟩;have o0:=b9 f;have w0:c6 (N9 P6 V1≤66):=by have h1:=nG (P:=P6) B;have:=g1.o;show _≤_;omega
 have S0:c6 (f8 w v):=Z.o.trans (i.to_below Z.o.size a0.o);have j0:c6 (v.cell? ⟨p,0,none⟩=some (.bool true)∧v.cell? ⟨p,1,none⟩=some (.int .u64 3)):=G5 k0.o i f0.o;have h0:c6 (v.cell? ⟨u,0,none⟩=some (.bool false)∧v.cell? ⟨u,1,none⟩=some (.int .u64 0)):=G5 Y0.o i B0.o;clear f B i p0 g1 Z k0 Y0;go_upto_region 9 with fail
 have s:c6 (f8 v (v.alloc (Obj.cells #[.int .u64 9] 37))):=a8 _ _;have O0:c6 (Kv (v.alloc (Obj.cells #[.int .u64 9] 37)) (.slice (some ⟨v.heap.size,0,none⟩) 1 1) [9]):=Ks v 9;have O:=b9 (a9 S0.o s.o);go_wp2_with fail;refine(tD (o0.o.below s.o) (by have:=w0.o;omega) O0.o (by intro x y;simp at y;omega) (fun x y t=>by have h:=o0.o.st.lt t;simp[Value.ownBlock]at y;omega) (b:=1) (a:=6) (.inl rfl) (by omega) (by omega) (by omega) (by omega) (by simp) rfl (.inr ⟨rfl,by decide⟩)).mono ?_;rw[En];rintro e b0 ⟨rfl,A8,P8,U1,f,t,i,D,_,_⟩;have N0:=b9 f
 have F0:c6 (∀x,A8 x→w.heap.size≤x):=fun x y=>by
  rcases t x y with q|q
  ·exact a0.o x q
  ·have:=O.o.size;omega
 have v0:c6 (N9 P8 U1≤83):=by have:=w0.o;show _≤_;omega
 have x0:c6 (f8 w b0):=O.o.trans (i.to_below O.o.size a0.o)
 have G:c6 (¬A8 p):=fun e=>by
  rcases t _ e with q|q
  ·exact f0.o q
  ·have h1:=c8 j0.o.1;have h2:=s.o.size;simp only at h1;omega
 have F:c6 (¬A8 u):=fun e=>by
  rcases t _ e with q|q
  ·exact B0.o q
  ·have h1:=c8 h0.o.1;have h2:=s.o.size;simp only at h1;omega
 have L0:c6 (b0.cell? ⟨p,0,none⟩=some (.bool true)∧b0.cell? ⟨p,1,none⟩=some (.int .u64 3)):=G5 (U4 j0.o s.o) i f0.o;have I0:c6 (b0.cell? ⟨u,0,none⟩=some (.bool false)∧b0.cell? ⟨u,1,none⟩=some (.int .u64 0)):=G5 (U4 h0.o s.o) i B0.o;clear f t i D o0 w0 S0 s O0 O j0 h0 f0 B0 a0;go_wp2_with fail;refine(rO N0.o (by have:=v0.o;omega) 2 1).mono ?_;rw[Ll];rintro e l ⟨rfl,y1,f,B,i⟩;have n0:=b9 f;have t0:c6 (N9 P8 y1≤89):=by have h1:=nG (P:=P8) B;have:=v0.o;show _≤_;omega
 have R0:c6 (f8 w l):=x0.o.trans (i.to_below x0.o.size F0.o);have K0:c6 (l.cell? ⟨p,0,none⟩=some (.bool true)∧l.cell? ⟨p,1,none⟩=some (.int .u64 3)):=G5 L0.o i G.o;have H0:c6 (l.cell? ⟨u,0,none⟩=some (.bool false)∧l.cell? ⟨u,1,none⟩=some (.int .u64 0)):=G5 I0.o i F.o;clear f B i N0 v0 x0 L0 I0;go_upto_region 11 with fail
 obtain⟨r,C⟩: ∃T,T=l.heap.size:=⟨_,rfl⟩;have l0:c6 ((l.alloc (Obj.cells #[.bool false,.int .u64 0] 55)).cell? ⟨r,0,none⟩=some (.bool false)∧(l.alloc (Obj.cells #[.bool false,.int .u64 0] 55)).cell? ⟨r,1,none⟩=some (.int .u64 0)):=by rw[C];exact xB l false 0
 have i0:c6 ((l.alloc (Obj.cells #[.bool false,.int .u64 0] 55)).cell? ⟨p,0,none⟩=some (.bool true)∧(l.alloc (Obj.cells #[.bool false,.int .u64 0] 55)).cell? ⟨p,1,none⟩=some (.int .u64 3)):=U4 K0.o (a8 _ _);have g0:c6 ((l.alloc (Obj.cells #[.bool false,.int .u64 0] 55)).cell? ⟨u,0,none⟩=some (.bool false)∧(l.alloc (Obj.cells #[.bool false,.int .u64 0] 55)).cell? ⟨u,1,none⟩=some (.int .u64 0)):=U4 H0.o (a8 _ _);have A:c6 (¬A8 r):=fun e=>by have h:=n0.o.st.lt e;omega
 have W:c6 (RS A8 (l.alloc (Obj.cells #[.bool false,.int .u64 0] 55)) (.pointer (some ⟨sp,0,none⟩)) (.pointer (some ⟨sb,0,none⟩)) 1 P8 y1 ⟨1,6,[9]⟩ rV):=n0.o.below (a8 _ _);have Y:c6 (f8 w (l.alloc (Obj.cells #[.bool false,.int .u64 0] 55))):=a9 R0.o (a8 _ _);rw[←C];generalize (l.alloc (Obj.cells #[.bool false,.int .u64 0] 55))=w15 at l0 i0 g0 W Y⊢;clear C n0 R0 K0 H0;go_wp2_with fail;refine(Cn W.o (by have:=t0.o;omega)).mono ?_;rintro e j ⟨kv,rfl,U0,T1,f,B,i⟩;have m0:=b9 f;have P0:c6 (N9 P8 T1≤90):=by have h1:=nG (P:=P8) B;have:=t0.o;show _≤_;omega
 have Q0:c6 (f8 w j):=Y.o.trans (i.to_below Y.o.size F0.o);have s0:c6 (Kv j kv [9]):=z9 U0;have D1:c6 (∀x,kv.ownBlock=some x→ ¬A8 x):=fun x y t=>by have h1:=(U0.lt x y).1;have h2:=W.o.st.lt t;omega
 have J0:c6 (j.cell? ⟨p,0,none⟩=some (.bool true)∧j.cell? ⟨p,1,none⟩=some (.int .u64 3)):=G5 i0.o i G.o;have G0:c6 (j.cell? ⟨u,0,none⟩=some (.bool false)∧j.cell? ⟨u,1,none⟩=some (.int .u64 0)):=G5 g0.o i F.o;have y0:c6 (j.cell? ⟨r,0,none⟩=some (.bool false)∧j.cell? ⟨r,1,none⟩=some (.int .u64 0)):=G5 l0.o i A.o;obtain⟨M,I,J,rfl⟩:=F2 s0.o;clear f B i U0 W t0 Y i0 g0 l0;go_upto_region 12 with fail
 obtain⟨H,C⟩: ∃T,T=j.heap.size:=⟨_,rfl⟩;have HM:c6 (MB (j.alloc (Obj.cells #[.int .i64 1,.int .i64 6,.slice M I J] 62)) H 1 6 (.slice M I J)):=by rw[C];exact A9 j 1 6 (.slice M I J)
 have E:c6 (f8 j (j.alloc (Obj.cells #[.int .i64 1,.int .i64 6,.slice M I J] 62))):=a8 _ _;have U:c6 (¬A8 H):=fun e=>by have h:=m0.o.st.lt e;omega
 have R:c6 ((j.alloc (Obj.cells #[.int .i64 1,.int .i64 6,.slice M I J] 62)).cell? ⟨p,0,none⟩=some (.bool true)∧(j.alloc (Obj.cells #[.int .i64 1,.int .i64 6,.slice M I J] 62)).cell? ⟨p,1,none⟩=some (.int .u64 3)):=U4 J0.o E.o;have Q:c6 ((j.alloc (Obj.cells #[.int .i64 1,.int .i64 6,.slice M I J] 62)).cell? ⟨u,0,none⟩=some (.bool false)∧(j.alloc (Obj.cells #[.int .i64 1,.int .i64 6,.slice M I J] 62)).cell? ⟨u,1,none⟩=some (.int .u64 0)):=U4 G0.o E.o;have z:c6 ((j.alloc (Obj.cells #[.int .i64 1,.int .i64 6,.slice M I J] 62)).cell? ⟨r,0,none⟩=some (.bool false)∧(j.alloc (Obj.cells #[.int .i64 1,.int .i64 6,.slice M I J] 62)).cell? ⟨r,1,none⟩=some (.int .u64 0)):=U4 y0.o E.o;have r0:=b9 (s0.o.below E.o);have n:=b9 (m0.o.below E.o);have X:=b9 (a9 Q0.o E.o);rw[←C];generalize (j.alloc (Obj.cells #[.int .i64 1,.int .i64 6,.slice M I J] 62))=w17 at HM R Q z r0 n X E⊢;clear C m0 Q0 J0 G0 y0 s0 E;go_wp2_with fail;refine(gK n.o.st (fun _=>n.o.ce) n.o.gk.gd.pok.2.2 (by have h:=P0.o;unfold N9 at h;omega)).mono ?_;rintro e M1 ⟨S8,T0,B,i,hcase⟩;rw[F5 n.o.open]at T0
 have Y1:c6 (Gi w A8 P8 S8 sp sb p u r H (.slice M I J) M1):=by
  obtain⟨c0,c1,c2,_⟩:=HM.o;exact⟨X.o.trans (i.to_below X.o.size F0.o),n.o.rdd T0 B,(G5 R.o i G.o).1,(G5 R.o i G.o).2,(G5 Q.o i F.o).1,(G5 Q.o i F.o).2,(G5 z.o i A.o).1,(G5 z.o i A.o).2,i.cell c0 U.o,i.cell c1 U.o,i.cell c2 U.o,pJ r0.o i D1.o⟩
 obtain⟨ao,d0,rfl⟩: ∃ao d0,e= .returned (.tuple #[.slice ao 0 d0,.int .i64 0]):=by
  rcases hcase with ⟨q,_⟩|⟨_,ao,d0,d,e1,_,_,hs,_⟩
  ·rw[n.o.open]at q;cases q
  ·have:=Dm hs;subst this;exact⟨ao,d0,e1⟩
 clear T0 B i hcase HM R Q z r0 n X D1 P0 G F A U F0 X1 W1;have q3: ∀wx,(binOp .eql 55 (.agg #[.bool true,.int .u64 3]) (.agg #[.bool true,.int .u64 3])).run Tryz.prog wx= .ok (.bool true) wx:=zP ⟨true,3⟩;have q0: ∀wx,(binOp .eql 55 (.agg #[.bool false,.int .u64 0]) (.agg #[.bool false,.int .u64 0])).run Tryz.prog wx= .ok (.bool true) wx:=zP ⟨false,0⟩;have d2:=bH;go_upto_region 13 with fail
 generalize Value.tuple #[.slice ao 0 d0,.int .i64 0]=jnk1;refine wp_region_noPanic ?_;refine wp_region_held_drew (S:=fun wx=>wx.cell? ⟨p,0,none⟩=some (.bool true)∧wx.cell? ⟨p,1,none⟩=some (.int .u64 3)∧wx.cell? ⟨u,0,none⟩=some (.bool false)∧wx.cell? ⟨u,1,none⟩=some (.int .u64 0)∧wx.cell? ⟨r,0,none⟩=some (.bool false)∧wx.cell? ⟨r,1,none⟩=some (.int .u64 0)∧wx.cell? ⟨H,0,none⟩=some (.int .i64 1)∧wx.cell? ⟨H,1,none⟩=some (.int .i64 6)∧wx.cell? ⟨H,2,none⟩=some (.slice M I J)∧c6 (Gi w A8 P8 S8 sp sb p u r H (.slice M I J) wx)) (by kernel_rfl) ?_ fun c=>?_
 ·exact jH (Y1.o.below (d8 _ _))
 refine g6 0 60 rfl c ?_;refine g6 1 61 rfl c ?_;refine g6 2 62 rfl c ?_;refine g6 3 63 rfl c ?_;refine g6 4 64 rfl c ?_;refine g6 5 65 rfl c ?_;refine g6 6 66 rfl c ?_;refine g6 7 67 rfl c ?_;refine g6 8 68 rfl c ?_;refine g6 9 69 rfl c ?_;refine g6 10 70 rfl c ?_;refine g6 11 71 rfl c ?_;refine g6 12 72 rfl c ?_;refine g6 13 73 rfl c ?_;refine g6 14 74 rfl c ?_;refine g6 15 75 rfl c ?_;refine g6 16 76 rfl c ?_;refine g6 17 77 rfl c ?_;refine g6 18 78 rfl c ?_;refine g6 19 79 rfl c ?_;refine g6 20 80 rfl c ?_;refine g6 21 81 rfl c ?_;refine g6 22 82 rfl c ?_;refine g6 23 83 rfl c ?_;refine g6 24 84 rfl c ?_;refine g6 25 85 rfl c ?_;refine g6 26 86 rfl c ?_;refine g6 27 87 rfl c ?_;refine g6 28 88 rfl c ?_;refine g6 29 89 rfl c ?_;refine g6 30 90 rfl c ?_;refine g6 31 91 rfl c ?_;refine g6 32 92 rfl c ?_;refine g6 33 93 rfl c ?_;refine g6 34 94 rfl c ?_;refine g6 35 95 rfl c ?_;refine C7 36 96 rfl fun K N=>?_;go_simp;have K1:=c.2.2.2.2.2.2.2.2.2.out;refine(rA 3 _).mono ?_;rintro e9 L1 ⟨rfl,R1⟩;refine N.out _ _ ?_ fun c=>?_
 ·exact jH (K1.below R1)
 clear N K;try simp only[Act.put,zz]
 refine g6 37 97 rfl c ?_;refine g6 38 98 rfl c ?_;refine g6 39 99 rfl c ?_;refine g6 40 100 rfl c ?_;refine g6 41 101 rfl c ?_;refine g6 42 102 rfl c ?_;refine g6 43 103 rfl c ?_;refine g6 44 104 rfl c ?_;refine g6 45 105 rfl c ?_;refine g6 46 106 rfl c ?_;refine g6 47 107 rfl c ?_;refine g6 48 108 rfl c ?_;refine g6 49 109 rfl c ?_;refine g6 50 110 rfl c ?_;refine C7 51 111 rfl fun K N=>?_;go_simp;have J1:=c.2.2.2.2.2.2.2.2.2.out;refine N.out _ _ ?_ fun c=>?_
 ·exact jH (J1.below (a8 _ _))
 clear N K;try simp only[Act.put,zz]
 refine g6 52 112 rfl c ?_;refine C7 53 113 rfl fun K N=>?_;go_simp;have x1:=c.2.2.2.2.2.2.2.2.2.out;refine(fC x1.kvs (Ks L1 9) 1 6).mono ?_;rintro e9 b2 ⟨rfl,Q1⟩;refine N.out _ _ ?_ fun c=>?_
 ·exact jH (x1.below Q1)
 clear N K;try simp only[Act.put,zz]
 refine g6 54 114 rfl c ?_;refine g6 55 115 rfl c ?_;refine g6 56 116 rfl c ?_;refine g6 57 117 rfl c ?_;refine g6 58 118 rfl c ?_;refine g6 59 119 rfl c ?_;refine g6 60 120 rfl c ?_;refine g6 61 121 rfl c ?_;refine C7 62 122 rfl fun K N=>?_;go_simp;have v1:=c.2.2.2.2.2.2.2.2.2.out;refine(Em v1).mono ?_;rintro e9 a2 ⟨rfl,X0⟩;replace X0:=X0.symm;subst X0;refine N.out _ _ ?_ fun c=>?_
 ·exact jH v1
 clear N K;try simp only[Act.put,zz]
 refine g6 63 123 rfl c ?_;refine g6 64 124 rfl c ?_;refine g6 65 125 rfl c ?_;refine g6 66 126 rfl c ?_;refine C7 67 127 rfl fun K N=>?_;go_simp;have t1:=c.2.2.2.2.2.2.2.2.2.out;refine(ZJ t1).mono ?_;rintro e9 Z1 ⟨rfl,W0⟩;replace W0:=W0.symm;subst W0;refine N.out _ _ ?_ fun c=>?_
 ·exact jH t1
 clear N K;try simp only[Act.put,zz]
 refine g6 68 128 rfl c ?_;refine g6 69 129 rfl c ?_;refine tkH 70 0 rfl c ?_;try simp only[Act.put,zA,zB]
 refine wpAnyH_done (by kernel_rfl) ?_ _;refine NoPanic.normal ?_;go_wp2_with fail;go_ret;exact⟨rfl,(c.2.2.2.2.2.2.2.2.2.out).bb⟩
end Go.Proofs.YtfhoilcbhmeofaaGreat
