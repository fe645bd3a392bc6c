/- Contract of the reference's one: a cell, and the bytes behind it. -/
import Derived.Test.YtfhoilcbhmeofaaGreatB20
set_option maxRecDepth 100000
set_option maxHeartbeats 16000000
namespace Go.Proofs.YtfhoilcbhmeofaaGreat
open Go.RowKit
section
theorem lF{P:Program}{w:d9}{ops:Array Oper}{rest:List Oper}{o:Oper}{a:Act}{Q:Exit→Act→d9→Prop}(hgd:o.guard=none)(s x:Operand)(t:TypeId)
  (ho:o.op= .call {callee:= .builtin .append,args:= #[s,x],argTypes:= #[t,t]}) (base:Nat)
  (ht:P.underlying t=some (.slice 3)) (hinf:(P.info? 3).map (fun i=>(i.zero,i.size,i.bytes))=some (some (.int .i64 0),1,8))
  (v:Value) (n:Nat) (xs:List Value) (hs:a.eval s=v) (hown:w.ownsRow base 3 1 v n xs) (g:Nat) (y:Int) (hx:a.eval x= .slice (some ⟨g,0,none⟩) 1 1) (hc:w.cell? ⟨g,0,none⟩=some (.int .i64 y)) (hn:n≤64) (hbase:base≤w.heap.size)
  (h: ∀v' w',w'.ownsRow base 3 1 v' (n+1) (xs++[.int .i64 y])→w.grownBy w' v.ownBlock→(v'.ownBlock=v.ownBlock∨v'.ownBlock=some w.heap.size)→wpList P ops Q rest (a.put o.dst v') w'):wpList P ops Q (o::rest) a w:=by
 obtain⟨i0,k,e,d,c⟩:=cR hinf;refine wpList_append_own_at w hgd s x t ho base 3 i0 (.int .i64 0) 1 8 ht k e d c rfl (by decide) v n xs hs hown ⟨g,0,none⟩ 1 1 [.int .i64 y] hx (by simp) ?_ ?_ (by simp only[maxLen];omega) (by omega) hbase ?_
 ·intro j u b
  cases j with
  |zero=>simp at b;subst b;simpa[WideShapes.add_plain]using hc
  |succ j=>simp at b
 ·intro u f;simp at f;subst f;rfl
 ·intro v' w' p m _ l;exact h v' w' p m l
section

variable{A D:n9}{w w':d9}{v dv tv lv:Value}{P P':Bo}{S S':Dk}{pb:Nat}{ps:List (Int × f7)}

theorem Ci{g cap:Nat}{t:f7}(h:MQ A D w pb tv dv P S)(hZ:Zt w g cap t)(hg: ¬A g){gen' home':Nat}(hok:(Bo.mk gen' t home' P.over).ok S.bl.length):
  MQ (fun x=>A x∨x=g) D (((w.setCell ⟨pb,1,none⟩ (.slice (some ⟨g,0,none⟩) t.length cap)).setCell ⟨pb,2,none⟩ (.int .i64 gen')).setCell ⟨pb,3,none⟩ (.int .i64 home')) pb (.slice (some ⟨g,0,none⟩) t.length cap) dv ⟨gen',t,home',P.over⟩ S:=by
 have b:g≠pb:=fun e=>hg (e▸h.ab);have c: ∀x,x≠pb→(((w.setCell ⟨pb,1,none⟩ (.slice (some ⟨g,0,none⟩) t.length cap)).setCell ⟨pb,2,none⟩ (.int .i64 gen')).setCell ⟨pb,3,none⟩ (.int .i64 home')).heap[x]?=w.heap[x]?:=fun x a=>by rw[l8 3 _ a,l8 2 _ a,l8 1 _ a]
 refine⟨?_,(hZ.keep (c g b)).tw,h.dsk.keep (fun x a=>c x (fun e=>h.nb (e▸a))) (by simp),fun x a=> .inl (h.sub x a),.inl h.ab,h.nb,fun x a=>?_,fun x a=>?_,hok⟩
 ·rw[V5 (V5 (V5 h.head 1 _) 2 _) 3 _];rfl
 ·simp[Value.ownBlock]at a;subst a;exact⟨.inr rfl,fun e=>hg (h.sub _ e),b⟩
 ·have:x<w.heap.size:=by
   rcases a with q|q
   ·exact h.al x q
   ·subst q;exact hZ.lt
  simpa[go_sem]using this
def PP(A:n9)(w:d9)(pb:Nat)(tv dv:Value)(P:Bo)(S:Dk)(ps:List (Int × f7))(g cap:Nat)(kv iv:Value)(wr:d9):Prop:=
 ∃(k b:Nat) (t' tk:f7) (A' D':n9) (S':Dk),k≤ps.length∧iv= .int .i64 k∧D4 P.tab ps 1 P.tab S=D4 P.tab (ps.drop k) b t' S'∧
  LI P.tab t' tk b S.bl.length∧tk.length≤k∧MQ A' D' wr pb tv dv P S'∧(∀x,A' x→A x∨w.heap.size≤x)∧Ch A w wr∧Zt wr g cap t'∧ ¬A' g∧w.heap.size≤g∧S'.wr≤S.wr+k∧S'.bl.length=S.bl.length∧
  wr.ownsRow w.heap.size 3 1 kv tk.length ((ib tk).map (Value.int .i64))∧ ∀x,kv.ownBlock=some x→ ¬A' x∧x≠g
theorem RA(h:MQ A D w pb tv dv P S)(hl:Tx A w lv ps)(hs:i6 P S=false)(hf:x9 P.tab.length ps=0)(hp:ps≠[])(hg:P.gen≠1099511627776)(hwr:S.wr<4611686018427387904):
  Calls Tryz.prog 46 #[.pointer (some ⟨pb,0,none⟩),lv] w fun e w'=>Pt UG 139 91 A w (.pointer (some ⟨pb,0,none⟩)) dv P S ps e w':=by
 have HM:=b9 h;have HL:c6 (Tx A w lv ps):=hl;have O0:c6 (i6 P S=false):=hs;have Q0:c6 (x9 P.tab.length ps=0):=hf;have A1:c6 (ps≠[]):=hp;have HG:=b9 hg;have W1:=b9 hwr;have R:=b9 ((eG ps [] hf).1);have O:c6 (P.ok S.bl.length):=h.ok;have J0:c6 (S.bl.length≤64):=h.dsk.good.n64;have Z0:c6 (∀x∈P.tab,x<64):=fun x f=>by have H:=gE h.ok.tok x f;have Y:=h.dsk.good.n64;omega
 obtain⟨lo,lc,rfl,v2,s2⟩:=hl.form;obtain⟨t,ht⟩:=c7 P.tab;have l:c6 (t=P.tab):=ht;have hT:=h.tab;have h8:=h.ok.n8;have M1:=aX (eG ps [] hf).1;rw[←ht]at hT h8 M1;have A2:c6 (Tw w tv t):=hT;have y0:c6 (1≤t.length∧t.length≤8):=⟨by rw[ht];exact h.ok.tok.1,h8⟩;obtain⟨to',tc,rfl,_,_⟩:=hT.form;have O2:(t.length:Int)≤8:=by omega
 have Q2:(ps.length:Int)≤8:=by omega
 have p2:((ps.length:Int)==0)=false:=by have:=List.length_pos_iff.2 hp;simp;omega
 have P1:P.gen<1099511627776:=by have:=h.ok.g40;omega
 have F0:=b9 P1;have n0:(P.gen:Int)<1099511627776:=by omega
 have x2:decide ((1099511627776:Int)≤(P.gen:Int))=false:=decide_eq_false (by omega);have c1:=Hx h;have c2:=Mn h;have l2:c6 (∀x,A x→x<w.heap.size):=fun x f=>h.al x f;clear h hl hs hf hp hg hwr v2 s2 ht hT h8 M1;go_in;go_wp2_with fail;refine(U8 HM.o O0.o).mono ?_;rintro e w9 ⟨rfl,h9⟩;have h9:=h9.symm;subst h9;go_wp2_with fail;refine(iS HM.o HL.o).mono ?_;rw[Q0.o];rintro e w9 ⟨rfl,h9⟩;have h9:=h9.symm;subst h9;have D2:c6 ((w.alloc (.cells #[] 3)).ownsRow w.heap.size 3 1 (.slice (some ⟨w.heap.size,0,none⟩) 0 0) 0 []):=World.ownsRow_made w #[] 0 (Nat.le_refl _) (by simp[maxLen]) rfl;have B2:c6 (Sv .i64 (w.alloc (.cells #[] 3)) (.slice to' t.length tc) (ib t)):=Sv.below A2.o (a8 _ _);have a1:(w.alloc (Obj.cells #[] 3)).cell? ⟨pb,1,none⟩=some (.slice to' t.length tc):=by rw[(a8 w _).cell (p:=⟨pb,1,none⟩) (c8 c1)];exact c1
 go_upto_region 12 with (at_builtin;refine g7 (by rfl) _ _ 118 (by rfl) w.heap.size 3 .i64 8 Tryz.underlying118 dZ _ 0 [] (by rfl) D2.o _ (ib t) (by rfl) B2.o (by have:=y0.o;rw[i8];simp[maxLen];omega) (by have:=y0.o;rw[i8];omega) (by simp) ?_;intro v1 w1 i1 S1)
 have R0:c6 (f8 w w1):=(a8 w _).grown S1 (by simp) (fun x f=>by cases f;exact Nat.le_refl _);have T0:w1.ownsRow w.heap.size 3 1 v1 t.length ((ib t).map (Value.int .i64)):=by rw[i8]at i1;simpa using i1
 obtain⟨g,B,o2,hZ,m1⟩:=WQ T0 y0.o.1;subst o2;have y2:c6 (Zt w1 g B t∧w.heap.size≤g):=⟨hZ,m1⟩;have a2:c6 (MQ A D (w1.alloc (.cells #[] 3)) pb (.slice to' t.length tc) dv P S):=(HM.o.below R0.o).below (a8 _ _)
 have Y1:c6 (PP A w pb (.slice to' t.length tc) dv P S ps g B (.slice (some ⟨w1.heap.size,0,none⟩) 0 0) (.int .i64 0) (w1.alloc (.cells #[] 3))):=by
  refine⟨0,1,t,[],A,D,S,Nat.zero_le _,rfl,by rw[l.o];rfl,by rw[l.o];exact LI.start O.o.tok,Nat.le_refl _,a2.o,fun x f=> .inl f,Ch.of_below (a9 R0.o (a8 _ _)),hZ.below (a8 _ _),fun e=>?_,m1,Nat.le_refl _,rfl,?_,fun x f=>?_⟩
  ·have:=l2.o _ e;omega
  ·exact World.ownsRow_made w1 #[] 0 (by have:=R0.o.size;omega) (by simp[maxLen]) rfl
  ·have m2:x=w1.heap.size:=(Option.some.inj f).symm;refine⟨fun e=>?_,?_⟩
   ·have H:=l2.o _ e;have Y:=R0.o.size;omega
   ·have:=hZ.lt;omega
 clear i1 S1 T0 hZ m1 a1 c1 c2;go_wp2_with fail;go_loopw [7,8] (fun kv iv wr=>PP A w pb (.slice to' t.length tc) dv P S ps g B kv iv wr) (fun _ iv _=>ps.length-(intOf iv).toNat)
 case atStart=>exact Y1.o
 case round=>
  obtain⟨k,b,t',tk,A',D',S',hk,rfl,U0,p1,L1,o1,s1,q1,U1,R1,K1,S0,V0,I0,O1⟩:=hrel;have W:c6 (D4 P.tab ps 1 P.tab S=D4 P.tab (ps.drop k) b t' S'):=U0;have E:c6 (LI P.tab t' tk b S.bl.length∧tk.length≤k):=⟨p1,L1⟩;have n:=b9 o1;have z:=b9 s1;have I:=b9 q1;have j:c6 (Zt wr g B t'∧ ¬A' g∧w.heap.size≤g):=⟨U1,R1,K1⟩;have r:c6 (S'.wr≤S.wr+k∧S'.bl.length=S.bl.length):=⟨S0,V0⟩;have g0:=b9 I0;have U:c6 (∀x,u7.ownBlock=some x→ ¬A' x∧x≠g):=O1;have w0:c6 (t'.length=t.length):=by show _=_;rw[p1.len,l.o]
  obtain⟨ko,kc,w2,_,_⟩:=K9 I0;subst w2;have c0:=Jx o1;have c1:=Hx o1;have z2:c6 (Tx A' wr (.slice lo ps.length lc) ps):=HL.o.ch q1 s1;clear p2 x2 n0 P1;clear U0 p1 L1 s1 q1 U1 R1 K1 S0 V0 I0 O1 Y1 a2 y2;by_cases F:k<ps.length
  ·obtain⟨lb,a0,u,q2,N1,l0,l1,M0⟩:=z2.o.at F;subst q2
   have F1:c6 (¬A' lb∧lb<w.heap.size):=by
    obtain⟨_,_,_,e,_,m0,_,_⟩:=HL.o.at F
    cases e
    exact⟨N1,c8 m0⟩
   clear N1;obtain⟨q,hq⟩: ∃q:Nat,ps[k].1=(q:Int):=⟨ps[k].1.toNat,by have:=(R.o.pg _ (List.getElem_mem F)).1;omega⟩;obtain⟨d,hd⟩:=c7 (ps[k].2);have HQ:c6 (ps[k].1.toNat=q):=by show _=_;rw[hq];simp
   have HD:c6 (d=ps[k].2):=hd;have y1:c6 (q<t'.length):=by show _<_;have H:=(R.o.pg _ (List.getElem_mem F)).2;rw[hq,←l.o]at H;have Y:=w0.o;omega
   have L2:c6 (d.length≤1024):=by rw[hd];exact R.o.ln _ (List.getElem_mem F)
   rw[hq]at l0;rw[←hd]at M0;have HU:c6 (Bv wr u d):=M0.1;obtain⟨uo,uc,rfl,_,_⟩:=C9 M0.1;have M2:(k:Int)<(ps.length:Int):=by omega
   have P2:(q:Int)<(t.length:Int):=by have H:=y1.o;have Y:=w0.o;omega
   clear hq hd M0;by_cases b0:d=[]
   ·have D0:c6 (D4 P.tab ps 1 P.tab S=D4 P.tab (ps.drop (k+1)) b (t'.set q 0) S'):=by show _=_;rw[W.o,EB F (by rw[←HD.o];exact b0),HQ.o]
    have T1:(d.length:Int)=0:=by rw[b0];rfl
    have S2: ¬(0:Int)<(d.length:Int):=by omega
    have z0:=j.o.1.cell (i:=q) y1.o;have z1:=j.o.1.soft q;obtain⟨y,hy⟩:=c7 (tn t' q);rw[←hy]at z0
    have HR:c6 (PP A w pb (.slice to' t.length tc) dv P S ps g B (.slice ko tk.length kc) (.int .i64 ((k:Int)+1)) (wr.setCell ⟨g,q,none⟩ (.int .i64 (0:Nat)))):=
     ⟨k+1,b,t'.set q 0,tk,A',D',S',F,by simp,D0.o,E.o.1.zero q,by have:=E.o.2;omega,n.o.other j.o.2.1 _ _,z.o,P7 I.o j.o.2.2 _ _,j.o.1.set 0,j.o.2.1,j.o.2.2,by have:=r.o.1;omega,r.o.2,lT g0.o (fun x f=>l8 q _ (U.o x f).2),U.o⟩
    clear b0 T1 hy;go_wp2_with fail;go_roundw
    case rel=>exact HR.o
    case measure=>simp[intOf];omega
   ·have k2:c6 (ps[k].2≠[]):=by rw[←HD.o];exact b0
    have T1:(0:Int)<(d.length:Int):=by have:=List.length_pos_iff.2 b0;omega
    have K2:c6 (∀y,2≤y→y≤b→y∈t∨y∈tk):=by rw[l.o];exact E.o.1.fr
    have N0:c6 (q8 t b<S.bl.length):=by
     show _<_;rw[l.o];have H:=E.o.2;have Y:=aX R.o;exact zL E.o.1 O.o.tok (by omega)
    have v0:c6 (Tw wr (.slice to' t.length tc) t):=by rw[l.o];rw[l.o]at n;exact n.o.tab
    obtain⟨X,hX⟩:=c7 (q8 t b);have HX:c6 (q8 t b=X):=hX.symm;rw[←hX]at N0;have N2:(X:Int)<64:=by have H:=N0.o;have Y:=J0.o;omega
    clear b0 hX;go_wp2_with fail;refine(JX v0.o (Hn g0.o) (by have:=y0.o.2;omega) (by have H:=E.o.2;have Y:=aX R.o;have h3:=O.o.n8;omega) (by rw[l.o];exact Z0.o) K2.o (fun y hy=>(E.o.1.tk2 y hy).2.1) E.o.1.b1).mono ?_;rw[HX.o];rintro e w9 ⟨rfl,h9⟩;have h9:=h9.symm;subst h9;have G0:c6 (I9 91 D' wr dv S'):=n.o.dsk;have m:=b9 n.o.sub;have B0:c6 (¬D' pb):=n.o.nb;have C0:c6 (S'.wr<9223372036854775807):=by show _<_;have H:=r.o.1;have Y:=W1.o;omega
    have j0: ∀wx,Ch D' wr wx→wx.cell? ⟨pb,0,none⟩=some dv:=fun wx f=>by rw[World.cell?_of_block (w:=wr) (a:=⟨pb,0,none⟩) (f.block pb (c8 c0) B0.o)];exact c0
    have j1: ∀wx,Ch D' wr wx→wx.cell? ⟨lb,a0+k*2+1,none⟩=some (.slice uo d.length uc):=fun wx f=>by rw[World.cell?_of_block (w:=wr) (a:=⟨lb,a0+k*2+1,none⟩) (f.block lb (c8 l1) (fun e=>F1.o.1 (m.o _ e)))];exact l1
    have o0:Ch D' wr wr.drew:=Ch.of_below (d8 _ _);by_cases s:l7 S' (X:Int) d=0
    ·have N:c6 (l7 S' (X:Int) d=0):=s
     have D0:c6 (D4 P.tab ps 1 P.tab S=D4 P.tab (ps.drop (k+1)) X (t'.set q X) (i7 S' X d)):=by
      show _=_;rw[W.o,EA F k2.o (by rw[←l.o,HX.o,←HD.o];exact s),HQ.o,←l.o,HX.o,←HD.o]
     have H2:c6 (LI P.tab (t'.set q X) (tk++[X]) X S.bl.length):=by
      have H:=E.o.1.next Z0.o (by rw[←l.o,HX.o];exact N0.o) q;rw[←l.o,HX.o,l.o]at H;exact H.perm (fun x=>by simp[or_comm])
     clear s;go_wp2_with fail
     go_region_held3 (fun wx=>Ch D' wr wx) (first|assumption)
      (first
       |(go_at_call 94;refine(Q3 (G0.o.below (d8 _ _)) X (HU.o.below (d8 _ _)) C0.o).mono ?_;rintro e G ⟨rfl,⟨Z,q0,i0⟩,s0⟩;rw[N.o];have C:Ch D' wr G:=Ch.self (by assumption) s0))
     all_goals
      have f0:c6 (∀x,Z x→D' x∨wr.heap.size≤x):=fun x f=>by rcases i0 x f with e|e;exact .inl e;exact .inr (by simpa[World.drew]using e)
      have T:c6 (MQ (fun x=>A' x∨Z x) Z G pb (.slice to' t.length tc) dv P (i7 S' X d)):=n.o.redisk q0 f0.o C C6;have J1:c6 (Ch A w G):=I.o.trans C (fun x f=>z.o x (m.o x f));have t1:c6 (Zt G g B t'):=j.o.1.keep (C.block _ j.o.1.lt (fun e=>j.o.2.1 (m.o _ e)));have B1:c6 (G.ownsRow w.heap.size 3 1 (.slice ko tk.length kc) tk.length ((ib tk).map (Value.int .i64))):=lT g0.o (fun x f=>C.block x (g0.o.lt x f).2 (fun e=>(U.o x f).1 (m.o _ e)));have P0:c6 (wr.heap.size≤G.heap.size∧w.heap.size≤wr.heap.size):=⟨C.size,I.o.size⟩;have b2:c6 (G.cell? ⟨lb,a0+k*2,none⟩=some (.int .i64 q)):=by show _=_;rw[World.cell?_of_block (w:=wr) (a:=⟨lb,a0+k*2,none⟩) (C.block lb (c8 l0) (fun e=>F1.o.1 (m.o _ e)))];exact l0
      have C1:c6 (∀x,x<wr.heap.size→ ¬A' x→ ¬(A' x∨Z x)):=fun x f hn e=>by
       rcases e with e|e
       ·exact hn e
       ·rcases f0.o x e with q|q
        ·exact hn (m.o _ q)
        ·omega
      have I2:c6 (tk.length≤64):=by show _≤_;have H:=E.o.2;have Y:=aX R.o;have h3:=O.o.n8;omega
      clear i0 q0 s0 C j0 j1 o0 c0 c1 l0 l1;go_upto_region 24 with (at_builtin;refine lF (by rfl) _ _ 118 (by rfl) w.heap.size Tryz.underlying118 dZ _ _ _ (by rfl) (B1.o.alloc _) G.heap.size X (by rfl) (by simp[go_sem]) I2.o (by have:=P0.o;simp;omega) ?_;intro v5 K g1 L0 W0)
      obtain⟨vo,vc,n2,_,_⟩:=K9 g1;subst n2;have V1:(G.alloc (Obj.cells #[.int .i64 X] 3)).heap.size=G.heap.size+1:=by simp
      have K0: ∀x,x<G.heap.size→(Value.slice ko tk.length kc).ownBlock≠some x→K.heap[x]?=G.heap[x]?:=fun x f hn=>by
       rw[L0.block x (by omega) (fun e=>hn e.symm),(a8 G _).block x f]
      have Q1:(Value.slice ko tk.length kc).ownBlock≠some g:=fun e=>(U.o g e).2 rfl;have t0:c6 (Zt K g B t'):=t1.o.keep (K0 g t1.o.lt Q1);have v:c6 (MQ (fun x=>A' x∨Z x) Z K pb (.slice to' t.length tc) dv P (i7 S' X d)):=T.o.keep (fun x f=>K0 x (T.o.al x f) (fun e=>C1.o x (g0.o.lt x e).2 (U.o x e).1 f)) (by have:=L0.size;omega);have i2:c6 (¬(A' g∨Z g)):=C1.o g j.o.1.lt j.o.2.1;have H0:c6 (Ch A w K):=(J1.o.self (Ch.of_below (a8 G _))).trans (Ch.of_grown (D:=fun x=>w.heap.size≤x) L0 (fun x f=>(B1.o.lt x f).1)) (fun x f=> .inr f)
      have X1:c6 (∀x,(Value.slice vo (tk.length+1) vc).ownBlock=some x→ ¬(A' x∨Z x)∧x≠g):=fun x f=>by
       rcases W0 with e|e
       ·rw[e]at f;exact⟨C1.o x (g0.o.lt x f).2 (U.o x f).1,(U.o x f).2⟩
       ·rw[e]at f;have m2:x=G.heap.size+1:=by have:=(Option.some.inj f).symm;rw[V1]at this;exact this
        exact⟨fun h=>by have:=T.o.al x h;omega,by have:=t1.o.lt;omega⟩
      have F2:c6 (K.ownsRow w.heap.size 3 1 (.slice vo (tk.length+1) vc) (tk++[X]).length ((ib (tk++[X])).map (Value.int .i64))):=by
       have e1:(ib (tk++[X])).map (Value.int .i64)=(ib tk).map (Value.int .i64)++[.int .i64 X]:=by rw[o7,List.map_append];rfl
       rw[e1,List.length_append];exact g1
      have l5:K.cell? ⟨lb,a0+k*2,none⟩=some (.int .i64 q):=by rw[World.cell?_of_block (w:=G) (a:=⟨lb,a0+k*2,none⟩) (K0 lb (c8 b2.o) (fun e=>by have H:=(B1.o.lt _ e).1;have Y:=F1.o.2;omega))];exact b2.o
      have z0:=t0.o.cell (i:=q) y1.o;have z1:=t0.o.soft q;obtain⟨y,hy⟩:=c7 (tn t' q);rw[←hy]at z0
      have HR:c6 (PP A w pb (.slice to' t.length tc) dv P S ps g B (.slice vo (tk.length+1) vc) (.int .i64 ((k:Int)+1)) (K.setCell ⟨g,q,none⟩ (.int .i64 X))):=by
       refine⟨k+1,X,t'.set q X,tk++[X],_,Z,_,F,by simp,D0.o,H2.o,by rw[List.length_append];have:=E.o.2;simp;omega,v.o.other i2.o _ _,fun x f=>?_,P7 H0.o j.o.2.2 _ _,t0.o.set X,i2.o,j.o.2.2,?_,by rw[C6];exact r.o.2,lT F2.o (fun x f=>l8 q _ (X1.o x f).2),X1.o⟩
       ·rcases f with e|e
        ·exact z.o x e
        ·rcases f0.o x e with e2|e2
         ·exact z.o x (m.o x e2)
         ·exact .inr (by have:=P0.o.2;omega)
       ·have H:=dJ (S:=S') (i:=(X:Int)) (b:=d);have Y:=r.o.1;omega
      clear hy K0 Q1 V1 g1 L0 W0;go_wp2_with fail;go_roundw
      case rel=>exact HR.o
      case measure=>simp[intOf];omega
    ·have N:=b9 (Mm (by rw[r.o.2];exact N0.o) L2.o s)
     have D0:c6 (D4 P.tab ps 1 P.tab S=(none,i7 S' X d)):=by
      show _=_;rw[W.o,EC F k2.o (by rw[←l.o,HX.o,←HD.o];exact s),←l.o,HX.o,←HD.o]
     have A0:c6 (A5 P S ps=(80,J6 P,i7 S' X d)):=yO O0.o Q0.o A1.o HG.o D0.o;clear s;go_wp2_with fail
     go_region_held3 (fun wx=>Ch D' wr wx) (first|assumption)
      (first
       |(go_at_call 94;refine(Q3 (G0.o.below (d8 _ _)) X (HU.o.below (d8 _ _)) C0.o).mono ?_;rintro e G ⟨rfl,⟨Z,q0,i0⟩,s0⟩;rw[N.o];have C:Ch D' wr G:=Ch.self (by assumption) s0))
     all_goals
      have f0:c6 (∀x,Z x→D' x∨wr.heap.size≤x):=fun x f=>by rcases i0 x f with e|e;exact .inl e;exact .inr (by simpa[World.drew]using e)
      have T:c6 (MQ (fun x=>A' x∨Z x) Z G pb (.slice to' t.length tc) dv P (i7 S' X d)):=n.o.redisk q0 f0.o C C6;have J1:c6 (Ch A w G):=I.o.trans C (fun x f=>z.o x (m.o x f));have P0:c6 (w.heap.size≤wr.heap.size):=I.o.size;have Q:c6 (A pb):=HM.o.ab;have c4:=Fl T.o;have f4:=T.o.soft 4;clear i0 q0 s0 C j0 j1 o0 c0 c1 l0 l1;go_wp2_with fail
      (try simp only[Exit.inBlock,Exit.then])
      go_ret;refine dW A0.o (rX T.o) (fun x f=>?_) (J1.o.self (Ch.of_grown (A7 _ pb 4 _) (fun x f=>by cases f;exact Q.o)));rcases f with e|e
      ·exact z.o x e
      ·rcases f0.o x e with e2|e2
       ·exact z.o x (m.o x e2)
       ·exact .inr (by have:=P0.o;omega)
  ·have D1:c6 (D4 P.tab ps 1 P.tab S=(some t',S')):=by show _=_;rw[W.o];exact OC (by omega)
   have Y0:c6 (II t' S.bl.length∧t'.length=P.tab.length):=KV O.o J0.o R.o D1.o;have G0:c6 (I9 91 D' wr dv S'):=n.o.dsk;have m:=b9 n.o.sub;have B0:c6 (¬D' pb):=n.o.nb;have C0:c6 (S'.wr<9223372036854775807):=by show _<_;have H:=r.o.1;have Y:=W1.o;omega
   have X0:c6 (Tw wr (.slice (some ⟨g,0,none⟩) t.length B) t'):=by have:=j.o.1.tw;rw[w0.o]at this;exact this
   have x0:c6 (t'.length≤8):=by show _≤_;have H:=w0.o;have Y:=y0.o.2;omega
   have v0:c6 (∀x∈t',x<64):=fun x f=>by have H:=gE Y0.o.1 x f;have Y:=J0.o;omega
   have C2:c6 ((k9 (P.gen+1) t').length≤1024):=Nat.le_trans (bN x0.o) (by omega);have Z1:c6 (∀c∈k9 (P.gen+1) t',c<256):=eV x0.o (by have:=F0.o;omega) v0.o;have c2:=Mn n.o;have c3:=mq3 n.o;have G1:c6 (P.home≤1):=O.o.h2;obtain⟨gi,n0⟩: ∃gi:Int,gi=(P.gen:Int):=⟨_,rfl⟩;obtain⟨hi,k1⟩: ∃hi:Int,hi=(P.home:Int):=⟨_,rfl⟩;rw[←n0]at c2;rw[←k1]at c3;have I1:c6 (gi+1=((P.gen+1:Nat):Int)):=by show _=_;omega
   have H1:c6 (1-hi=((1-P.home:Nat):Int)):=by show _=_;have:=G1.o;omega
   have r1:IntKind.i64.wrap (gi+1)=gi+1:=dK (by omega) (by have:=F0.o;omega);have r2:IntKind.i64.wrap (1-hi)=1-hi:=dK (by have:=G1.o;omega) (by have:=G1.o;omega);have j0: ∀wx,Ch D' wr wx→wx.cell? ⟨pb,0,none⟩=some dv:=fun wx f=>by rw[World.cell?_of_block (w:=wr) (a:=⟨pb,0,none⟩) (f.block pb (c8 c0) B0.o)];exact c0
   have j2: ∀wx,Ch D' wr wx→wx.cell? ⟨pb,2,none⟩=some (.int .i64 gi):=fun wx f=>by rw[World.cell?_of_block (w:=wr) (a:=⟨pb,2,none⟩) (f.block pb (c8 c0) B0.o)];exact c2
   have j3: ∀wx,Ch D' wr wx→wx.cell? ⟨pb,3,none⟩=some (.int .i64 hi):=fun wx f=>by rw[World.cell?_of_block (w:=wr) (a:=⟨pb,3,none⟩) (f.block pb (c8 c0) B0.o)];exact c3
   have o0:Ch D' wr wr.drew:=Ch.of_below (d8 _ _);have R2: ¬(k:Int)<(ps.length:Int):=by omega
   have g2:c6 (gi=(P.gen:Int)∧hi=(P.home:Int)):=⟨n0,k1⟩;clear n0 k1;by_cases s:l7 S' ((1-P.home:Nat):Int) (k9 (P.gen+1) t')=0
   ·have N:c6 (l7 S' ((1-P.home:Nat):Int) (k9 (P.gen+1) t')=0):=s;have A0:c6 (A5 P S ps=(0,⟨P.gen+1,t',1-P.home,P.over⟩,i7 S' ((1-P.home:Nat):Int) (k9 (P.gen+1) t'))):=KJ O0.o Q0.o A1.o HG.o D1.o s;clear s;go_wp2_with fail
    go_region_held3 (fun wx=>Ch D' wr wx) (first|assumption)
     (first
      |(go_at_call 95;rw[I1.o];refine(jW (X0.o.below (d8 _ _)) x0.o v0.o (by have:=F0.o;omega)).mono ?_;rintro e w4 ⟨rv,rfl,k0,M⟩;have n1:Ch D' wr w4:=Ch.self (by assumption) (Ch.of_below M);have L:f8 wr w4:=a9 (d8 wr 1) M)
      |(go_at_call 94;rw[H1.o];refine(Q3 (G0.o.below L) _ (p7 k0 Z1.o) C0.o).mono ?_;rintro e K ⟨rfl,⟨D5,p0,h0⟩,r0⟩;rw[N.o];have J:Ch D' wr K:=Ch.self (by assumption) r0))
    all_goals
     have d0:c6 (∀x,D5 x→D' x∨wr.heap.size≤x):=fun x f=>by rcases h0 x f with e|e;exact .inl e;exact .inr (Nat.le_trans L.size e)
     have v:=b9 (n.o.redisk p0 d0.o J C6);have H0:c6 (Ch A w K):=I.o.trans J (fun x f=>z.o x (m.o x f));have t0:c6 (Zt K g B t'):=j.o.1.keep (J.block _ j.o.1.lt (fun e=>j.o.2.1 (m.o _ e)))
     have J2:c6 (¬(A' g∨D5 g)):=fun e=>by
      rcases e with e|e
      ·exact j.o.2.1 e
      ·rcases d0.o g e with q|q
       ·exact j.o.2.1 (m.o _ q)
       ·have:=j.o.1.lt;omega
     have x1:c6 (w.heap.size≤wr.heap.size):=I.o.size;have Q:c6 (A pb):=HM.o.ab
     have G2:c6 (MQ (fun x=>(A' x∨D5 x)∨x=g) D5 (((K.setCell ⟨pb,1,none⟩ (.slice (some ⟨g,0,none⟩) t.length B)).setCell ⟨pb,2,none⟩ (.int .i64 (gi+1))).setCell ⟨pb,3,none⟩ (.int .i64 (1-hi))) pb (.slice (some ⟨g,0,none⟩) t.length B) dv ⟨P.gen+1,t',1-P.home,P.over⟩ (i7 S' ((1-P.home:Nat):Int) (k9 (P.gen+1) t'))):=by
      have H:=Ci (gen':=P.gen+1) (home':=1-P.home) v.o t0.o J2.o (by rw[C6,r.o.2];exact⟨by show 1≤P.gen+1;omega,by have:=F0.o;show P.gen+1≤_;omega,x0.o,Y0.o.1,by show 1-P.home≤1;omega⟩);rw[w0.o]at H;rw[I1.o,H1.o];exact H
     have d1:=Hx v.o;have d2:=Mn v.o;have d3:=mq3 v.o;rw[←g2.o.1]at d2;rw[←g2.o.2]at d3;have f1:=v.o.soft 1;have f2:=v.o.soft 2;have f3:=v.o.soft 3;clear J r0 p0 h0 k0 M L n1 j0 j2 j3 o0 c0 c1 c2 c3;go_wp2_with fail;go_ret;refine dW A0.o G2.o (fun x f=>?_) (((H0.o.self (Ch.of_grown (A7 _ pb 1 _) (fun x f=>by cases f;exact Q.o))).self (Ch.of_grown (A7 _ pb 2 _) (fun x f=>by cases f;exact Q.o))).self (Ch.of_grown (A7 _ pb 3 _) (fun x f=>by cases f;exact Q.o)));rcases f with (e|e)|e
     ·exact z.o x e
     ·rcases d0.o x e with e2|e2
      ·exact z.o x (m.o x e2)
      ·exact .inr (by have:=x1.o;omega)
     ·subst e;exact .inr j.o.2.2
   ·have N:c6 (l7 S' ((1-P.home:Nat):Int) (k9 (P.gen+1) t')=80):=Mm (by rw[r.o.2];have:=O.o.tok.2.1;omega) C2.o s;have A0:c6 (A5 P S ps=(80,J6 P,i7 S' ((1-P.home:Nat):Int) (k9 (P.gen+1) t'))):=yQ O0.o Q0.o A1.o HG.o D1.o s;clear s;go_wp2_with fail
    go_region_held3 (fun wx=>Ch D' wr wx) (first|assumption)
     (first
      |(go_at_call 95;rw[I1.o];refine(jW (X0.o.below (d8 _ _)) x0.o v0.o (by have:=F0.o;omega)).mono ?_;rintro e w4 ⟨rv,rfl,k0,M⟩;have n1:Ch D' wr w4:=Ch.self (by assumption) (Ch.of_below M);have L:f8 wr w4:=a9 (d8 wr 1) M)
      |(go_at_call 94;rw[H1.o];refine(Q3 (G0.o.below L) _ (p7 k0 Z1.o) C0.o).mono ?_;rintro e K ⟨rfl,⟨D5,p0,h0⟩,r0⟩;rw[N.o];have J:Ch D' wr K:=Ch.self (by assumption) r0))
    all_goals
     have d0:c6 (∀x,D5 x→D' x∨wr.heap.size≤x):=fun x f=>by rcases h0 x f with e|e;exact .inl e;exact .inr (Nat.le_trans L.size e)
     have v:c6 (MQ (fun x=>A' x∨D5 x) D5 K pb (.slice to' t.length tc) dv P (i7 S' ((1-P.home:Nat):Int) (k9 (P.gen+1) t'))):=n.o.redisk p0 d0.o J C6;have H0:c6 (Ch A w K):=I.o.trans J (fun x f=>z.o x (m.o x f));have x1:=b9 I.o.size;have Q:c6 (A pb):=HM.o.ab;have c4:=Fl v.o;have f4:=v.o.soft 4;clear J r0 p0 h0 k0 M L n1 j0 j2 j3 o0 c0 c1 c2 c3;go_wp2_with fail;go_ret;refine dW A0.o (rX v.o) (fun x f=>?_) (H0.o.self (Ch.of_grown (A7 _ pb 4 _) (fun x f=>by cases f;exact Q.o)));rcases f with e|e
     ·exact z.o x e
     ·rcases d0.o x e with e2|e2
      ·exact z.o x (m.o x e2)
      ·exact .inr (by have:=x1.o;omega)
theorem jY(h:BQ A w v dv P S)(hl:Tx A w lv ps)(hwr:S.wr<4611686018427387904):
  Calls Tryz.prog 46 #[v,lv] w fun e w'=>Pt UG 139 91 A w v dv P S ps e w':=by
 obtain⟨D,i,g,rfl,h⟩:=h;by_cases a:i6 P S=true∨x9 P.tab.length ps≠0∨ps=[]∨P.gen=1099511627776
 ·exact JN h hl a
 ·have f:i6 P S=false:=by cases e:i6 P S;rfl;exact absurd (.inl e) a
  have d:x9 P.tab.length ps=0:=Classical.not_not.1 (fun e=>a (.inr (.inl e)));have c:ps≠[]:=fun e=>a (.inr (.inr (.inl e)));have b:P.gen≠1099511627776:=fun e=>a (.inr (.inr (.inr e)));exact RA h hl f d c b hwr
end
end

theorem C5{fn:Func}{p u x:Tmp}{ty:TypeId}(h:fn.results= #[.cell p ty,.tmp u,.tmp x])(tmps:Array Value)(P:Program)(w:d9):
  (results fn tmps).run P w=
   ((asAddr (tmps.getD p undef)).run P w).andThen fun a w₁=>((loadVar ty a).run P w₁).andThen fun v w₂=> .ok (.tuple #[v,tmps.getD u undef,tmps.getD x undef]) w₂:=by
 simp only[results,h];simp[Sem.run_bind,Result.andThen]
def Sb(u v:Value):Prop:= ∀x,u.ownBlock=some x→v.ownBlock=some x
theorem Sb.refl(v:Value):Sb v v:=fun _ h=>h
theorem Sb.trans{a b c:Value}(h:Sb a b)(k:Sb b c):Sb a c:=fun x hx=>k x (h x hx)
theorem xN(v:Value):Sb (.slice none 0 0) v:=fun x hx=>by simp[Value.ownBlock]at hx
theorem cK{ao:Option Addr}{n c n' c':Nat}:Sb (.slice ao n c) (.slice ao n' c'):=fun x hx=>by rw[bT (n':=n') (c':=c')]at hx;exact hx
theorem iP{ao:Option Addr}{k n c n' c':Nat}:Sb (.slice (ao.map fun a=>a.add k) n c) (.slice ao n' c'):=fun x hx=>by rw[gY (n':=n') (c':=c')]at hx;exact hx
def tI(r:Nat × Vl × f7)(v:Value)(w:d9)(e:Ending)(w':d9):Prop:=
 ∃u,e= .returned (.tuple #[.agg #[.bool r.2.1.h,.int .u64 r.2.1.b],u,.int .i64 (r.1:Nat)])∧Bv w' u r.2.2∧Sb u v∧f8 w w'
theorem ZE{w:d9}{b:Nat}{v:Value}{l:f7}{a:Vl}(hW:wR w b a)(h:Bv w v l)(y:Bool)(n:Nat):Bv ((w.setCell ⟨b,0,none⟩ (.bool y)).setCell ⟨b,1,none⟩ (.int .u64 n)) v l:=by
 have c:=h.set hW.c0 (by simp) (.bool y);refine c.set (p:=⟨b,1,none⟩) (u:= .int .u64 (a.b:Nat)) ?_ (by simp) _;have:=hW.c1;simpa[go_sem]using this
theorem QS{w:d9}{v:Value}{l:f7}(h:Bv w v l):Calls Tryz.prog 199 #[v,.bool false] w (tI (I3 false l) v w):=by
 have a:I3 false l=(0,K0,l):=by simp[I3]
 rw[a];go_in;go_wp2_with fail;refine bodyPost_ret (v:= .tuple #[.agg #[.bool false,.int .u64 0],v,.int .i64 0]) (by rw[C5 rfl];go_simp) rfl ?_;exact⟨v,rfl,h.below (a8 _ _),Sb.refl _,a8 _ _⟩
theorem xQ{w:d9}{v:Value}{l:f7}(h:Bv w v l)(h8:l.length<8):Calls Tryz.prog 199 #[v,.bool true] w (tI (I3 true l) v w):=by
 have f:I3 true l=(3,K0,[]):=by simp[I3,h8]
 have HT:c6 (Wm.takeW l=(0,3)):=if_pos h8;rw[f];have HV:c6 (Bv (w.alloc (Obj.cells #[.bool false,.int .u64 0] 55)) v l):=h.below (a8 _ _);clear h h8 f;go_in;go_wp2_with fail;refine(gM HV.o).mono ?_;rw[lK HT.o];rintro e b ⟨rfl,a⟩;have d:c6 (f8 w b):=by show Below _ _ _;rw[a];exact a8 _ _
 have i:b.cell? ⟨w.heap.size,0,none⟩=some (.bool false):=by rw[a];simp[go_sem]
 have g:b.cell? ⟨w.heap.size,1,none⟩=some (.int .u64 0):=by rw[a];simp[go_sem]
 have c: ∀j,b.frozen? ⟨w.heap.size,j,none⟩=false:=by intro j;rw[a];simp[go_sem]
 have m:=c 0;have k:=c 1;have HD:c6 (∀u u',f8 w ((b.setCell ⟨w.heap.size,0,none⟩ u).setCell ⟨w.heap.size,1,none⟩ u')):=fun u u'=>(d.o.setCell (Nat.le_refl _) u).setCell (Nat.le_refl _) u';clear a c;go_wp2_with fail;refine bodyPost_ret (v:= .tuple #[.agg #[.bool false,.int .u64 0],.slice none 0 0,.int .i64 3]) (by rw[C5 rfl];go_simp) rfl ?_;exact⟨_,rfl,Bv.nil _,xN _,HD.o _ _⟩
theorem JE{w:d9}{l:f7}{b off cap:Nat}(h:Bv w (.slice (some ⟨b,off,none⟩) l.length cap) l)(h8:8≤l.length)(hce: ¬cap=8):Calls Tryz.prog 199 #[.slice (some ⟨b,off,none⟩) l.length cap,.bool true] w (tI (I3 true l) (.slice (some ⟨b,off,none⟩) l.length cap) w):=by
 obtain⟨X,g⟩: ∃X,Wm.unw (l.take 8)=X:=⟨_,rfl⟩;have q:I3 true l=(0,⟨true,X⟩,l.drop 8):=by rw[←g];unfold I3;rw[if_neg (by simp),if_neg (by omega)]
 have HT:c6 (Wm.takeW l=(X,0)):=by show _=_;rw[←g];exact if_neg (by omega)
 rw[q];obtain⟨_,i,d⟩:=cU h;unfold maxLen at d;have y:(cap:Int)≤9223372036854775807:=by omega
 have t:(l.length:Int)≤(cap:Int):=by omega
 have x:(8:Int)≤(l.length:Int):=by omega
 have z:(8:Int)≤(cap:Int):=by omega
 have s:=b9 h8;have HV:c6 (Bv (w.alloc (Obj.cells #[.bool false,.int .u64 0] 55)) (.slice (some ⟨b,off,none⟩) l.length cap) l):=h.below (a8 _ _);have r: ¬(cap:Int)=8:=by omega
 have m:=b9 hce;clear h h8 q g i d;go_in;go_wp2_with fail;refine(gM HV.o).mono ?_;rw[lK HT.o];rintro e c ⟨rfl,a⟩;have p:c6 (f8 w c):=by show Below _ _ _;rw[a];exact a8 _ _
 have j:c6 (Bv c (.slice (some ⟨b,off,none⟩) l.length cap) l):=by show Bv _ _ _;rw[a];exact HV.o
 have f:c6 (wR c w.heap.size K0):=by show wR _ _ _;rw[a];exact iL w K0
 clear a HV;have n:c6 (Bv c (.slice (some ⟨b,off+8,none⟩) (l.length-8) (cap-8)) (l.drop 8)):=by show Bv _ _ _;have:=bD j.o rfl 8 s.o m.o;simpa[Addr.add]using this
 have HD:c6 (∀u u',f8 w ((c.setCell ⟨w.heap.size,0,none⟩ u).setCell ⟨w.heap.size,1,none⟩ u').drew):=fun u u'=>((p.o.setCell (Nat.le_refl _) u).setCell (Nat.le_refl _) u').drew;obtain⟨D,C,yz⟩:=f.o;have B:=yz 0;have A:=yz 1;clear yz;go_upto_region 6 with fail
 go_region_with (fail);all_goals go_wp2_with fail
 all_goals refine bodyPost_ret (v:= .tuple #[.agg #[.bool true,.int .u64 X],.slice (some ⟨b,off+8,none⟩) (l.length-8) (cap-8),.int .i64 0]) (by rw[C5 rfl];go_simp) rfl ?_
 all_goals exact⟨_,rfl,(ZE f.o n.o _ _).below (J8 _),iP (k:=8) (ao:=some ⟨b,off,none⟩),HD.o _ _⟩
theorem BL{w:d9}{l:f7}{b off cap:Nat}(h:Bv w (.slice (some ⟨b,off,none⟩) l.length cap) l)(h8:8≤l.length)(hce:cap=8):Calls Tryz.prog 199 #[.slice (some ⟨b,off,none⟩) l.length cap,.bool true] w (tI (I3 true l) (.slice (some ⟨b,off,none⟩) l.length cap) w):=by
 obtain⟨X,j⟩: ∃X,Wm.unw (l.take 8)=X:=⟨_,rfl⟩;have n:I3 true l=(0,⟨true,X⟩,l.drop 8):=by rw[←j];unfold I3;rw[if_neg (by simp),if_neg (by omega)]
 have HT:c6 (Wm.takeW l=(X,0)):=by show _=_;rw[←j];exact if_neg (by omega)
 rw[n];obtain⟨_,d,c⟩:=cU h;unfold maxLen at c;have r:(cap:Int)≤9223372036854775807:=by omega
 have p:(l.length:Int)≤(cap:Int):=by omega
 have q:(8:Int)≤(l.length:Int):=by omega
 have s:(8:Int)≤(cap:Int):=by omega
 have g:=b9 d;have HV:c6 (Bv (w.alloc (Obj.cells #[.bool false,.int .u64 0] 55)) (.slice (some ⟨b,off,none⟩) l.length cap) l):=h.below (a8 _ _);subst hce;clear h h8 n j d c;go_in;go_wp2_with fail;refine(gM HV.o).mono ?_;rw[lK HT.o];rintro e i ⟨rfl,a⟩;have m:c6 (f8 w i):=by show Below _ _ _;rw[a];exact a8 _ _
 have f:c6 (wR i w.heap.size K0):=by show wR _ _ _;rw[a];exact iL w K0
 clear a HV;have k:c6 (Bv i (.slice (some ⟨b,off,none⟩) (l.length-8) 0) (l.drop 8)):=by show Bv _ _ _;rw[show l.length-8=0 from by have:=g.o;omega];exact bC g.o
 have HD:c6 (∀u u',f8 w ((i.setCell ⟨w.heap.size,0,none⟩ u).setCell ⟨w.heap.size,1,none⟩ u').drew):=fun u u'=>((m.o.setCell (Nat.le_refl _) u).setCell (Nat.le_refl _) u').drew;obtain⟨z,y,yz⟩:=f.o;have x:=yz 0;have t:=yz 1;clear yz;go_upto_region 6 with fail
 go_region_with (fail);all_goals go_wp2_with fail
 all_goals refine bodyPost_ret (v:= .tuple #[.agg #[.bool true,.int .u64 X],.slice (some ⟨b,off,none⟩) (l.length-8) 0,.int .i64 0]) (by rw[C5 rfl];go_simp) rfl ?_
 all_goals exact⟨_,rfl,(ZE f.o k.o _ _).below (J8 _),cK,HD.o _ _⟩
theorem gL{w:d9}{v:Value}{l:f7}(h:Bv w v l)(t:Bool):Calls Tryz.prog 199 #[v,.bool t] w (tI (I3 t l) v w):=by
 cases t
 ·exact QS h
 ·by_cases d:l.length<8
  ·exact xQ h d
  ·rcases N6 h with ⟨rfl,_⟩|⟨b,e,c,rfl,_⟩
   ·simp at d
   ·by_cases a:c=8
    ·exact BL h (by omega) a
    ·exact JE h (by omega) a
def ZV(r:Nat × Cl × f7)(v:Value)(w:d9)(e:Ending)(w':d9):Prop:=
 ∃u,e= .returned (.tuple #[.agg #[.int .u64 r.2.1.k,.bool r.2.1.p.h,.int .u64 r.2.1.p.b,.bool r.2.1.c.h,.int .u64 r.2.1.c.b,.int .i64 r.2.1.n],u,.int .i64 (r.1:Nat)])∧Bv w' u r.2.2∧Sb u v∧f8 w w'
theorem Q6{r:Nat × Cl × f7}{w w':d9}{e:Nat}{x:Int}(h:r=(e,j9,[]))(hx:x=e){v:Value}(hb:f8 w w'):ZV r v w (.returned (.tuple #[.agg #[.int .u64 0,.bool false,.int .u64 0,.bool false,.int .u64 0,.int .i64 0],.slice none 0 0,.int .i64 x])) w':=by
 subst hx h;exact⟨_,rfl,Bv.nil _,xN _,hb⟩
theorem M3{w wx:d9}{R:Nat}(h:f8 w wx)(hR:w.heap.size≤R)(u0 u1 u2 u3 u4 u5:Value):
  f8 w ((((((wx.setCell ⟨R,0,none⟩ u0).setCell ⟨R,1,none⟩ u1).setCell ⟨R,2,none⟩ u2).setCell ⟨R,3,none⟩ u3).setCell ⟨R,4,none⟩ u4).setCell ⟨R,5,none⟩ u5):=
 (((((h.setCell (p:=⟨R,0,none⟩) hR u0).setCell (p:=⟨R,1,none⟩) hR u1).setCell (p:=⟨R,2,none⟩) hR u2).setCell (p:=⟨R,3,none⟩) hR u3).setCell (p:=⟨R,4,none⟩) hR u4).setCell (p:=⟨R,5,none⟩) hR u5
theorem ZF{w:d9}{b:Nat}{v:Value}{l:f7}{c:Cl}(hC:CB w b c)(h:Bv w v l)(d:Cl):
  Bv ((((((w.setCell ⟨b,0,none⟩ (.int .u64 d.k)).setCell ⟨b,1,none⟩ (.bool d.p.h)).setCell ⟨b,2,none⟩ (.int .u64 d.p.b)).setCell ⟨b,3,none⟩ (.bool d.c.h)).setCell ⟨b,4,none⟩ (.int .u64 d.c.b)).setCell ⟨b,5,none⟩ (.int .i64 d.n)) v l:=by
 obtain⟨j,i,g,f,e,a,_⟩:=hC;refine(((((h.set j (by simp) _).set (p:=⟨b,1,none⟩) (u:= .bool c.p.h) (by simpa[go_sem]using i) (by simp) _).set (p:=⟨b,2,none⟩) (u:= .int .u64 c.p.b) (by simpa[go_sem]using g) (by simp) _).set (p:=⟨b,3,none⟩) (u:= .bool c.c.h) (by simpa[go_sem]using f) (by simp) _).set (p:=⟨b,4,none⟩) (u:= .int .u64 c.c.b) (by simpa[go_sem]using e) (by simp) _).set (p:=⟨b,5,none⟩) (u:= .int .i64 c.n) (by simpa[go_sem]using a) (by simp) _
theorem wR.keep{w w':d9}{b:Nat}{v:Vl}(h:wR w b v)(hb:f8 w w'):wR w' b v:=by
 have a:=c8 h.c0;exact⟨by rw[hb.cell (p:=⟨b,0,none⟩) a];exact h.c0,by rw[hb.cell (p:=⟨b,1,none⟩) a];exact h.c1,fun j=>by rw[hb.frozen (p:=⟨b,j,none⟩) a];exact h.z j⟩
theorem Kq{o:Option Nat}{l:f7}{e:Nat}(h:Wm.take l=(0,0,e))(he:e≠0):L3 o l=(e,j9,[]):=by simp[L3,h,he]
theorem Kp{o:Option Nat}{l:f7}{x n:Nat}(h:Wm.take l=(x,n,0))(hf:N0 o x=false):L3 o l=(7,j9,[]):=by simp[L3,h,hf]
theorem Ht{o:Option Nat}{l:f7}{x n:Nat}(h:Wm.take l=(x,n,0))(hf:N0 o x=true):L3 o l=pU x (l.drop n):=by simp[L3,h,hf]
theorem WY{x h:Nat}{r:f7}(h3:3<h):pU x (h::r)=(4,j9,[]):=by simp[pU,h3]
theorem Bz{x h:Nat}{r:f7}(h3:h≤3):pU x (h::r)=fU x h r:=by simp[pU];omega
theorem Hu{x h e:Nat}{r l3:f7}{p:Vl}(h1:I3 (decide (h%2=1)) r=(e,p,l3))(he:e≠0):fU x h r=(e,j9,[]):=by simp[fU,h1,he]
theorem Hv{x h e:Nat}{r l3 l4:f7}{p c:Vl}(h1:I3 (decide (h%2=1)) r=(0,p,l3))(h2:I3 (decide (2≤h)) l3=(e,c,l4))(he:e≠0):fU x h r=(e,j9,[]):=by simp[fU,h1,h2,he]
theorem Br{x h:Nat}{r l3 l4:f7}{p c:Vl}(h1:I3 (decide (h%2=1)) r=(0,p,l3))(h2:I3 (decide (2≤h)) l3=(0,c,l4)):fU x h r=mF x p c l4:=by simp[fU,h1,h2]
theorem Hw{x e:Nat}{l:f7}{p c:Vl}(h:Wm.take l=(0,0,e))(he:e≠0):mF x p c l=(e,j9,[]):=by simp[mF,h,he]
theorem WX{x y n:Nat}{l:f7}{p c:Vl}(h:Wm.take l=(y,n,0))(hy:1099511627776<y):mF x p c l=(4,j9,[]):=by simp[mF,h,hy]
theorem Bu{x y n:Nat}{l:f7}{p c:Vl}(h:Wm.take l=(y,n,0))(hy: ¬1099511627776<y):mF x p c l=(0,⟨x,p,c,y⟩,l.drop n):=by simp[mF,h,hy]
theorem kX{w:d9}{ao:Option Addr}{k cap:Nat}{l:f7}(h:Bv w (.slice ao k cap) l)(n:Nat)(hn:n≤l.length):(cap=n→Bv w (.slice ao (k-n) 0) (l.drop n))∧(¬cap=n→Bv w (.slice (ao.map fun a=>a.add n) (k-n) (cap-n)) (l.drop n)):=by
 obtain⟨c,d,_⟩:=cU h;subst c;refine⟨fun b=>?_,fun b=>bD h rfl n hn b⟩;rw[show l.length-n=0 from by omega];exact bC (by omega)
theorem RF{w:d9}{v:Value}{l:f7}{o:Option Nat}(h:Bv w v l)(last:Nat)(fb:Bool)(ho:o=if fb=true then none else some last):
  Calls Tryz.prog 170 #[v,.int .u64 last,.bool fb] w (ZV (L3 o l) v w):=by
 have o0:c6 (Bv (w.alloc (Obj.cells #[.int .u64 j9.k,.bool j9.p.h,.int .u64 j9.p.b,.bool j9.c.h,.int .u64 j9.c.b,.int .i64 j9.n] 132)) v l):=h.below (a8 _ _);have s0:=b9 (B0 w j9);have t0:c6 (f8 w (w.alloc (Obj.cells #[.int .u64 j9.k,.bool j9.p.h,.int .u64 j9.p.b,.bool j9.c.h,.int .u64 j9.c.b,.int .i64 j9.n] 132))):=a8 _ _;have T0:=b9 ho;have hT:=Wm.take_form l h.2;have U0:=h.2;clear h ho U0;go_in;go_wp2_with fail;refine(z8 o0.o).mono ?_;rcases hT with ⟨e,g,m0⟩|⟨x,n,g,hx,n1,D0,m1⟩
 ·have he:e≠0:=by omega
  have HQ:c6 (L3 o l=(e,j9,[])):=Kq g he;rw[K7 g];rintro e9 D ⟨rfl,d⟩;have h0:((e:Int) !=0)=true:=by rw[bne_iff_ne];omega
  have j:c6 (f8 w D):=by show Below _ _ _;rw[d];exact t0.o
  have s:c6 (CB D w.heap.size j9):=by show CB _ _ _;rw[d];exact s0.o
  obtain⟨c0,c1,c2,c3,c4,c5,zz⟩:=s.o;have z0:=zz 0;have z1:=zz 1;have z2:=zz 2;have z3:=zz 3;have z4:=zz 4;have z5:=zz 5;clear d he m0 g zz;go_wp2_with fail;refine bodyPost_ret (v:= .tuple #[.agg #[.int .u64 0,.bool false,.int .u64 0,.bool false,.int .u64 0,.int .i64 0],.slice none 0 0,.int .i64 e]) (by rw[C5 rfl];go_simp) rfl ?_;exact Q6 HQ.o rfl (M3 j.o (Nat.le_refl _) _ _ _ _ _ _)
 ·rw[K7 g];rintro e9 D ⟨rfl,d⟩;have j:c6 (f8 w D):=by show Below _ _ _;rw[d];exact t0.o
  have s:c6 (CB D w.heap.size j9):=by show CB _ _ _;rw[d];exact s0.o
  have W:c6 (Bv D v l):=by show Bv _ _ _;rw[d];exact o0.o
  have HT:=b9 g;have HN:=b9 D0;clear d g n1 D0 m1 o0 s0 t0 hx;obtain⟨va,vn,vc,hv⟩:=r8 W.o;subst hv;obtain⟨W0,X0,y0⟩:=cU W.o;unfold maxLen at y0;have i1:(n:Int)≤(vn:Int):=by have:=HN.o;omega
  have Y0:(vn:Int)≤(vc:Int):=by omega
  have j1:(n:Int)≤(vc:Int):=by omega
  have x1:(vc:Int)≤9223372036854775807:=by omega
  clear W0 X0 y0
  cases hf:N0 o x
  ·have HQ:=b9 (Kp HT.o hf);obtain⟨c0,c1,c2,c3,c4,c5,zz⟩:=s.o;have z0:=zz 0;have z1:=zz 1;have z2:=zz 2;have z3:=zz 3;have z4:=zz 4;have z5:=zz 5;have ho:=T0.o
   cases fb
   ·have o1:(x:Int)≤(last:Int):=by rw[ho]at hf;simp[N0]at hf;omega
    clear hf ho zz;go_wp2_with fail;refine bodyPost_ret (v:= .tuple #[.agg #[.int .u64 0,.bool false,.int .u64 0,.bool false,.int .u64 0,.int .i64 0],.slice none 0 0,.int .i64 7]) (by rw[C5 rfl];go_simp) rfl ?_;exact Q6 HQ.o rfl (M3 j.o (Nat.le_refl _) _ _ _ _ _ _)
   ·rw[ho]at hf;simp[N0]at hf
  ·have R0:=b9 (Ht HT.o hf);go_upto_region 4 with fail
   go_cut [32] (fun t wx=>t= .bool false∧wx=D)
   case first=>
    have ho:=T0.o
    cases fb
    ·have o1: ¬(x:Int)≤(last:Int):=by rw[ho]at hf;simp[N0]at hf;omega
     clear hf ho;go_wp2_with fail;go_meet;exact⟨rfl,rfl⟩
    ·clear hf ho;go_wp2_with fail;go_meet;exact⟨rfl,rfl⟩
   case rest=>
    obtain⟨rfl,T⟩:=hcut;replace T:=T.symm;subst T;clear hf;go_upto_region 6 with fail
    go_cut [0] (fun u wx=>Bv D u (l.drop n)∧Sb u (.slice va vn vc)∧wx=D)
    case first=>
     obtain⟨C,B⟩:=kX W.o n HN.o;by_cases hc:vc=n
     ·have K:=C hc;clear C B;subst hc;go_wp2_with fail;go_meet;exact⟨K,cK,rfl⟩
     ·have K:=B hc;clear C B;go_wp2_with fail;go_meet;exact⟨K,iP,rfl⟩
    case rest=>
     obtain⟨J,i,T⟩:=hcut;have P0:=b9 i;clear i;replace T:=T.symm;subst T;obtain⟨l1,g0⟩:=c7 (l.drop n);have Z:c6 (L3 o l=pU x l1):=by show _=_;rw[R0.o,g0]
     rw[←g0]at J;have K0:=b9 J;clear g0 R0 W i1 Y0 j1 x1;obtain⟨c0,c1,c2,c3,c4,c5,zz⟩:=s.o;have z0:=zz 0;have z1:=zz 1;have z2:=zz 2;have z3:=zz 3;have z4:=zz 4;have z5:=zz 5;rcases N6 J with ⟨rfl,ao,I1,rfl⟩|⟨b1,off1,cap1,rfl,hp,h1,T,h3⟩
     ·clear zz J;go_wp2_with fail;refine bodyPost_ret (v:= .tuple #[.agg #[.int .u64 0,.bool false,.int .u64 0,.bool false,.int .u64 0,.int .i64 0],.slice none 0 0,.int .i64 3]) (by rw[C5 rfl];go_simp) rfl ?_;exact Q6 Z.o rfl (M3 j.o (Nat.le_refl _) _ _ _ _ _ _)
     ·cases l1 with
      |nil=>simp at hp
      |cons h r=>
      have H0:D.cell? ⟨b1,off1,none⟩=some (.int .u8 (h:Nat)):=by have h:=h3 0 (by simp);rw[Nat.add_zero]at h;exact h
      rw[List.length_cons]at*;unfold maxLen at T;have A1:(cap1:Int)≤9223372036854775807:=by omega
      have y1:((r.length:Int)+1)≤(cap1:Int):=by omega
      have w1:(1:Int)≤(cap1:Int):=by omega
      have g1:(0:Int)<(r.length:Int)+1:=by omega
      have f1:(1:Int)≤(r.length:Int)+1:=by omega
      have r1:((r.length:Int)+1==0)=false:=by rw[beq_eq_false_iff_ne];omega
      clear h1 T h3 hp J;by_cases G0:3<h
      ·have HQ:c6 (L3 o l=(4,j9,[])):=by show _=_;rw[Z.o,WY G0]
       have hh:(3:Int)<(h:Int):=by omega
       clear zz;go_wp2_with fail;refine bodyPost_ret (v:= .tuple #[.agg #[.int .u64 0,.bool false,.int .u64 0,.bool false,.int .u64 0,.int .i64 0],.slice none 0 0,.int .i64 4]) (by rw[C5 rfl];go_simp) rfl ?_;exact Q6 HQ.o rfl (M3 j.o (Nat.le_refl _) _ _ _ _ _ _)
      ·have hh: ¬(3:Int)<(h:Int):=by omega
       have HW:c6 (L3 o l=fU x h r):=by show _=_;rw[Z.o,Bz (by omega)]
       clear c0 c1 c2 c3 c4 c5 zz z0 z1 z2 z3 z4 z5 G0 Z;obtain⟨t1,C0⟩: ∃t,t=decide (h%2=1):=⟨_,rfl⟩;obtain⟨t2,A0⟩: ∃t,t=decide (2≤h):=⟨_,rfl⟩;obtain⟨e1,A,l3,J0⟩: ∃a b c,I3 t1 r=(a,b,c):=⟨_,_,_,rfl⟩;have M:=b9 C0;have X:=b9 A0;have N:=b9 J0;clear C0 A0 J0;go_upto_region 12 with fail
       go_cut [13,0,11] (fun pv u ev wx=> ∃P,pv= .pointer (some ⟨P,0,none⟩)∧wR wx P A∧Bv wx u l3∧Sb u (.slice va vn vc)∧ev= .int .i64 (e1:Nat)∧f8 w wx∧CB wx w.heap.size j9)
       case first=>
        have g:((h:Int)%2==1)=t1:=by rw[M.o];by_cases q:h%2=1<;>simp[q]<;>omega
        have d1:((h%2:Nat)==1)=t1:=by rw[M.o];by_cases q:h%2=1<;>simp[q]
        clear H0;obtain⟨C,B⟩:=kX K0.o 1 (by simp);simp only[List.drop_succ_cons,List.drop_zero,Nat.add_sub_cancel]at C B;by_cases l0:cap1=1
        ·have K:=C l0;clear C B;subst l0;go_wp2_with fail;refine(gL K t1).mono ?_;rw[N.o];rintro e w3 ⟨u3,rfl,I,F,f⟩;go_wp2_with fail;go_meet;exact⟨_,rfl,iL w3 A,I.below (a8 _ _),F.trans (cK.trans P0.o),rfl,a9 j.o (a9 f (a8 _ _)),(s.o.keep f).keep (a8 _ _)⟩
        ·have K:=B l0;clear C B;go_wp2_with fail;refine(gL K t1).mono ?_;rw[N.o];rintro e w3 ⟨u3,rfl,I,F,f⟩;go_wp2_with fail;go_meet;exact⟨_,rfl,iL w3 A,I.below (a8 _ _),F.trans (iP.trans P0.o),rfl,a9 j.o (a9 f (a8 _ _)),(s.o.keep f).keep (a8 _ _)⟩
       case rest=>
        obtain⟨P,rfl,E,H,i,rfl,m,G⟩:=hcut;have O0:=b9 i;clear i;have f0:=b9 m;have d0:=b9 G;have p0:=b9 E;have n0:=b9 H;clear E H m G H0 K0 j s g1 f1 r1 A1 y1 w1 hh;by_cases j0:e1=0;rotate_left
        ·have HQ:c6 (L3 o l=(e1,j9,[])):=by show _=_;rw[HW.o,Hu (by rw[←M.o];exact N.o) j0]
         have h0:((e1:Int) !=0)=true:=by rw[bne_iff_ne];omega
         obtain⟨c0,c1,c2,c3,c4,c5,zz⟩:=d0.o;have z0:=zz 0;have z1:=zz 1;have z2:=zz 2;have z3:=zz 3;have z4:=zz 4;have z5:=zz 5;clear zz j0;go_wp2_with fail;refine bodyPost_ret (v:= .tuple #[.agg #[.int .u64 0,.bool false,.int .u64 0,.bool false,.int .u64 0,.int .i64 0],.slice none 0 0,.int .i64 e1]) (by rw[C5 rfl];go_simp) rfl ?_;exact Q6 HQ.o rfl (M3 f0.o (Nat.le_refl _) _ _ _ _ _ _)
        ·subst j0;obtain⟨e2,S,l4,I0⟩: ∃a b c,I3 t2 l3=(a,b,c):=⟨_,_,_,rfl⟩;have r0:=b9 I0;clear I0;obtain⟨wd,w0⟩:=c7 wc;rw[←w0]at f0 d0 p0 n0⊢;clear w0;go_upto_region 15 with fail
         go_cut [14,0,11] (fun pv u ev wx=> ∃Q,pv= .pointer (some ⟨Q,0,none⟩)∧wR wx Q S∧wR wx P A∧Bv wx u l4∧Sb u (.slice va vn vc)∧ev= .int .i64 (e2:Nat)∧f8 w wx∧CB wx w.heap.size j9)
         case first=>
          have g:decide ((2:Int)≤(h:Int))=t2:=by rw[X.o];congr 1;simp only[eq_iff_iff];omega
          have d1:=X.o.symm;go_wp2_with fail;refine(gL n0.o t2).mono ?_;rw[r0.o];rintro e w3 ⟨u3,rfl,I,F,f⟩;go_wp2_with fail;go_meet;exact⟨_,rfl,iL w3 S,(p0.o.keep f).keep (a8 _ _),I.below (a8 _ _),F.trans O0.o,rfl,a9 f0.o (a9 f (a8 _ _)),(d0.o.keep f).keep (a8 _ _)⟩
         case rest=>
          obtain⟨Q,rfl,x0,E,H,i,rfl,m,G⟩:=hcut;have M0:=b9 i;clear i O0;have R:=b9 m;have O:=b9 G;have S0:=b9 E;have Q0:=b9 x0;have L:=b9 H;clear x0 E H m G f0 d0 p0 n0;by_cases i0:e2=0;rotate_left
          ·have HQ:c6 (L3 o l=(e2,j9,[])):=by show _=_;rw[HW.o,Hv (by rw[←M.o];exact N.o) (by rw[←X.o];exact r0.o) i0]
           have h0:((e2:Int) !=0)=true:=by rw[bne_iff_ne];omega
           obtain⟨c0,c1,c2,c3,c4,c5,zz⟩:=O.o;have z0:=zz 0;have z1:=zz 1;have z2:=zz 2;have z3:=zz 3;have z4:=zz 4;have z5:=zz 5;clear zz i0;go_wp2_with fail;refine bodyPost_ret (v:= .tuple #[.agg #[.int .u64 0,.bool false,.int .u64 0,.bool false,.int .u64 0,.int .i64 0],.slice none 0 0,.int .i64 e2]) (by rw[C5 rfl];go_simp) rfl ?_;exact Q6 HQ.o rfl (M3 R.o (Nat.le_refl _) _ _ _ _ _ _)
          ·subst i0;have q0:c6 (L3 o l=mF x A S l4):=by show _=_;rw[HW.o,Br (by rw[←M.o];exact N.o) (by rw[←X.o];exact r0.o)]
           have hT:=Wm.take_form l4 L.o.2;go_wp2_with fail;refine(z8 L.o).mono ?_;rcases hT with ⟨e,g,m0⟩|⟨y,k,g,hy,v1,F0,s1⟩
           ·have he:e≠0:=by omega
            have HQ:c6 (L3 o l=(e,j9,[])):=by show _=_;rw[q0.o,Hw g he]
            rw[K7 g];rintro e9 D ⟨rfl,d⟩;have h0:((e:Int) !=0)=true:=by rw[bne_iff_ne];omega
            subst d;obtain⟨c0,c1,c2,c3,c4,c5,zz⟩:=O.o;have z0:=zz 0;have z1:=zz 1;have z2:=zz 2;have z3:=zz 3;have z4:=zz 4;have z5:=zz 5;clear he m0 g zz;go_wp2_with fail;refine bodyPost_ret (v:= .tuple #[.agg #[.int .u64 0,.bool false,.int .u64 0,.bool false,.int .u64 0,.int .i64 0],.slice none 0 0,.int .i64 e]) (by rw[C5 rfl];go_simp) rfl ?_;exact Q6 HQ.o rfl (M3 R.o (Nat.le_refl _) _ _ _ _ _ _)
           ·rw[K7 g];have L0:=b9 g;have HK:=b9 F0;rintro e9 w9 ⟨rfl,V0⟩;subst V0;clear g v1 F0 s1 hy;obtain⟨c0,c1,c2,c3,c4,c5,zz⟩:=O.o;have z0:=zz 0;have z1:=zz 1;have z2:=zz 2;have z3:=zz 3;have z4:=zz 4;have z5:=zz 5;clear zz;by_cases B1:(1099511627776:Int)<(y:Int)
            ·have HQ:c6 (L3 o l=(4,j9,[])):=by show _=_;rw[q0.o,WX L0.o (by omega)]
             go_wp2_with fail;refine bodyPost_ret (v:= .tuple #[.agg #[.int .u64 0,.bool false,.int .u64 0,.bool false,.int .u64 0,.int .i64 0],.slice none 0 0,.int .i64 4]) (by rw[C5 rfl];go_simp) rfl ?_;exact Q6 HQ.o rfl (M3 R.o (Nat.le_refl _) _ _ _ _ _ _)
            ·have Y:c6 (L3 o l=(0,⟨x,A,S,y⟩,l4.drop k)):=by show _=_;rw[q0.o,Bu L0.o (by omega)]
             have C1:IntKind.i64.wrap (y:Int)=(y:Int):=by rw[IntKind.wrap_i64];omega
             obtain⟨v0,U,z,Z0⟩:=r8 L.o;subst Z0;obtain⟨q1,q2,q3⟩:=cU L.o;unfold maxLen at q3;have G1:(k:Int)≤(U:Int):=by have:=HK.o;omega
             have F1:(U:Int)≤(z:Int):=by omega
             have H1:(k:Int)≤(z:Int):=by omega
             have D1:(z:Int)≤9223372036854775807:=by omega
             obtain⟨C,B⟩:=kX L.o k HK.o;have a0:=S0.o.c0;have a1:=S0.o.c1;have b0:=Q0.o.c0;have J1:=Q0.o.c1;clear q1 q2 q3;by_cases k0:z=k
             ·have K:=C k0;clear C B;subst k0;go_upto_region 23 with fail
              go_region_with (fail);all_goals go_wp2_with fail
              all_goals refine bodyPost_ret (v:= .tuple #[.agg #[.int .u64 x,.bool A.h,.int .u64 A.b,.bool S.h,.int .u64 S.b,.int .i64 y],.slice v0 (U-z) 0,.int .i64 0]) (by rw[C5 rfl];go_simp) rfl ?_
              all_goals exact⟨_,by rw[Y.o];rfl,by rw[Y.o];exact(ZF O.o K ⟨x,A,S,y⟩).below (J8 _),cK.trans M0.o,(M3 R.o (Nat.le_refl _) _ _ _ _ _ _).drew⟩
             ·have K:=B k0;clear C B;go_upto_region 23 with fail
              go_region_with (fail);all_goals go_wp2_with fail
              all_goals refine bodyPost_ret (v:= .tuple #[.agg #[.int .u64 x,.bool A.h,.int .u64 A.b,.bool S.h,.int .u64 S.b,.int .i64 y],.slice (v0.map fun a=>a.add k) (U-k) (z-k),.int .i64 0]) (by rw[C5 rfl];go_simp) rfl ?_
              all_goals exact⟨_,by rw[Y.o];rfl,by rw[Y.o];exact(ZF O.o K ⟨x,A,S,y⟩).below (J8 _),iP.trans M0.o,(M3 R.o (Nat.le_refl _) _ _ _ _ _ _).drew⟩
end Go.Proofs.YtfhoilcbhmeofaaGreat
