/- The reference's store: writes. -/
import Derived.Test.YtfhoilcbhmeofaaGreatB23
set_option maxRecDepth 100000
set_option maxHeartbeats 16000000
namespace Go.Proofs.YtfhoilcbhmeofaaGreat
open Go.RowKit
theorem G1{w:d9}{b B n:Nat}{c:Cl}{v:Value}{L:List Int}(h:CB w b c)(ho:w.ownsRow B 5 1 v n (L.map (Value.int .u8)))(hp:1≤n): ¬(v.ownBlock=some b):=by
 intro e;rcases ho with ⟨p,⟨_,q⟩|⟨g,m,cur,rfl,o,i,j,l,k,d⟩⟩
 ·omega
 ·have:g=b:=by simpa[Value.ownBlock]using e
  subst this;have f:=h.c0;rw[cell_of_row w g 0 cur _ (0,0) i]at f;have a:(cur.toList.take (n*1))[0]?=cur[0]?:=by rw[List.getElem?_take,if_pos (by omega),Array.getElem?_toList]
  rw[d,f]at a
  cases L with
  |nil=>simp at a
  |cons x L=>simp at a
theorem gW(v:Vl)(w:d9):
  Calls Tryz.prog 200 #[.agg #[.bool v.h,.int .u64 v.b]] w fun e w'=>e= .returned (.bool (!N4 v))∧f8 w w':=by
 obtain⟨h,b⟩:=v
 cases h
 ·by_cases a:b=0
  ·subst a;go_in;go_wp2_with fail;go_ret;exact⟨rfl,a8 _ _⟩
  ·have e:N4 ⟨false,b⟩=false:=by simp[N4,a]
   have c:((b:Int) !=0)=true:=by rw[bne_iff_ne];omega
   rw[e];go_in;go_wp2_with fail;go_ret;exact⟨rfl,a8 _ _⟩
 ·go_in;go_wp2_with fail;go_ret;exact⟨rfl,a8 _ _⟩
theorem yE(l:List Cl)(b off cap:Nat)(w:d9)(hp:0<l.length)(h16:l.length≤16)(hok: ∀c∈l,c.okB)(hc: ∀i,(hi:i<l.length)→CA w b (off+i*6) l[i]):
  Calls Tryz.prog 172 #[.slice (some ⟨b,off,none⟩) l.length cap] w (aP l w):=by
 have n2:(l.length:Int)≤16:=by omega
 have o2:((l.length:Int)==0)=false:=by rw[beq_eq_false_iff_ne];omega
 have i2: ¬(16:Int)<(l.length:Int):=by omega
 have W0:=b9 h16;have HP:c6 (0<l.length):=hp;have b2:c6 (∀c∈l,c.okB):=hok;have HA:=b9 hc;have P1:IntKind.u64.wrap (l.length:Int)=(l.length:Int):=p8 (by omega) (by omega);clear hc hok h16 hp;go_in;go_wp2_with fail;refine(D7 l.length (by have:=W0.o;omega) _).mono ?_;rintro e w1 ⟨v1,rfl,Z0,M1⟩;have N1:c6 (tL l w v1 (.int .i64 0) w1):=⟨0,rfl,by omega,by rw[CU];exact Z0,rfl,M1⟩;clear Z0 M1 P1;go_wp2_with fail;go_loopw [4,5] (fun v iv wr=>tL l w v iv wr) (fun _ iv _=>l.length-(intOf iv).toNat)
 case atStart=>exact N1.o
 case round=>
  obtain⟨i,rfl,q2,f,n1,o1⟩:=hrel;have HO:c6 (U3 (x7 (l.take i)) (l.drop i)=U3 none l):=n1;have HB:=b9 o1;have q1:=b9 f
  have HL:c6 (1≤(O5 l i).length∧(O5 l i).length≤612):=by
   have g:=NN i W0.o;have P:=Wm.enc_len l.length;show _∧_;refine⟨?_,by omega⟩;simp only[O5,List.length_append];omega
  clear n1 o1 f N1;by_cases Q:i<l.length
  ·have hA:=(HA.o i Q).keep HB.o
   have F1:c6 (∀j,i=j+1→ ∃p:Nat,CA wr b (off+j*6) (l.getD j j9)∧(l.getD j j9).k=p∧x7 (l.take i)=some p):=fun j hj=>by
    have B1:j<l.length:=by omega
    have e:l.getD j j9=l[j]:=by simp[List.getD,B1]
    rw[e];exact⟨l[j].k,(HA.o j B1).keep HB.o,rfl,by rw[hj];exact fD B1⟩
   obtain⟨c,b1⟩: ∃c,l[i]=c:=⟨_,rfl⟩;rw[b1]at hA;have H0:c6 (l[i]=c):=b1;have F0:c6 c.okB:=by show c.okB;rw[←b1];exact b2.o _ (List.getElem_mem _)
   clear b1;obtain⟨K,J,I,H,G,F⟩:=hA;have Q1:(i:Int)<(l.length:Int):=by omega
   go_upto_region 10 with fail
   clear K J I H G F;have i1:c6 (CB (wr.alloc (Obj.cells #[.int .u64 c.k,.bool c.p.h,.int .u64 c.p.b,.bool c.c.h,.int .u64 c.c.b,.int .i64 c.n] 132)) wr.heap.size c):=B0 wr c;have H1:c6 ((wr.alloc (Obj.cells #[.int .u64 c.k,.bool c.p.h,.int .u64 c.p.b,.bool c.c.h,.int .u64 c.c.b,.int .i64 c.n] 132)).ownsRow w.heap.size 5 1 u4 (O5 l i).length ((ib (O5 l i)).map (Value.int .u8))):=q1.o.alloc _;have V0:c6 (f8 wr (wr.alloc (Obj.cells #[.int .u64 c.k,.bool c.p.h,.int .u64 c.p.b,.bool c.c.h,.int .u64 c.c.b,.int .i64 c.n] 132))):=a8 _ _;generalize wr.alloc (Obj.cells #[.int .u64 c.k,.bool c.p.h,.int .u64 c.p.b,.bool c.c.h,.int .u64 c.c.b,.int .i64 c.n] 132)=w2 at i1 V0 H1⊢;have I1:=b9 (a9 HB.o V0.o);have k0: ∀n,(w2.drewN n).cell? ⟨wr.heap.size,0,none⟩=some (.int .u64 c.k):=fun _=>i1.o.c0
   cases hf:N0 (x7 (l.take i)) c.k
   ·have HR:c6 (m9 l=([],7)):=aZ W0.o HP.o (wG Q HO.o (by rw[H0.o];exact hf)) (by omega)
    obtain⟨j,hj⟩: ∃j,i=j+1:=by
     rcases i with _|j
     ·simp[x7,N0]at hf
     ·exact⟨j,rfl⟩
    obtain⟨p,hA,Q0,R0⟩:=F1.o j hj;have hq:=(hA.keep V0.o).c0;rw[Q0]at hq;rw[R0]at hf;have X1:(c.k:Int)≤(p:Int):=by simp[N0]at hf;omega
    have W1: ∀n,(w2.drewN n).cell? ⟨b,off+j*6,none⟩=some (.int .u64 p):=fun _=>hq;have C1:(0:Int)<(i:Int):=by omega
    have a2:decide (0<i)=true:=decide_eq_true (by omega);have Z1:(i:Int)-1=(j:Int):=by omega
    have Y1:(j:Int)<(l.length:Int):=by omega
    clear hj hf R0 Q0;go_quiet (fail);go_wp2_with fail;go_ret2;exact J7 HR.o rfl (a9 I1.o (d8 _ _))
   ·have HF:c6 (N0 (x7 (l.take i)) l[i].k=true):=by show _=_;rw[H0.o];exact hf
    go_cut [40] (fun t wx=>t= .bool false∧ ∃n,wx=w2.drewN n)
    case first=>
     by_cases C1:i=0
     ·have h0: ¬(0:Int)<(i:Int):=by omega
      have r2:decide (0<i)=false:=decide_eq_false (by omega);clear C1;go_quiet (fail);go_wp2_with fail;go_meet;exact⟨rfl,_,rfl⟩
     ·obtain⟨j,hj⟩: ∃j,i=j+1:=⟨i-1,by omega⟩;obtain⟨p,hA,Q0,R0⟩:=F1.o j hj;have hq:=(hA.keep V0.o).c0;rw[Q0]at hq;rw[R0]at hf;have X1: ¬(c.k:Int)≤(p:Int):=by simp[N0]at hf;omega
      have W1: ∀n,(w2.drewN n).cell? ⟨b,off+j*6,none⟩=some (.int .u64 p):=fun _=>hq;have p2:(0:Int)<(i:Int):=by omega
      have a2:decide (0<i)=true:=decide_eq_true (by omega);have Z1:(i:Int)-1=(j:Int):=by omega
      have Y1:(j:Int)<(l.length:Int):=by omega
      clear hj hf R0 Q0 C1;go_quiet (fail);go_wp2_with fail;go_meet;exact⟨rfl,_,rfl⟩
    case rest=>
     obtain⟨rfl,n,a1⟩:=hcut;have T0:c6 (CB wc wr.heap.size c):=by show CB _ _ _;rw[a1];exact i1.o.keep (d8 _ _)
     have O1:c6 (wc.ownsRow w.heap.size 5 1 u4 (O5 l i).length ((ib (O5 l i)).map (Value.int .u8))):=by show World.ownsRow _ _ _ _ _ _ _;rw[a1];exact j8 H1.o (d8 _ _)
     have M0:c6 (f8 w wc):=by show Below _ _ _;rw[a1];exact a9 I1.o (d8 _ _)
     clear a1 H1 i1 I1 k0 hf F1 V0;obtain⟨K,J,I,H,G,F,zz⟩:=T0.o;have d1:c6 (F6 c=false→m9 l=([],1)):=fun V1=>aZ W0.o HP.o (wH Q HO.o HF.o (by rw[H0.o];exact V1)) (by omega);by_cases g:c.n<0
     ·have HR:=b9 (d1.o (by simp[F6];omega));go_wp2_with fail;go_ret2;exact J7 HR.o rfl M0.o
     by_cases P:1099511627776<c.n
     ·have HR:=b9 (d1.o (by simp[F6];omega));go_wp2_with fail;go_ret2;exact J7 HR.o rfl M0.o
     cases h3:N4 c.p
     ·have HR:=b9 (d1.o (by simp[F6,h3]));go_wp2_with fail;refine(gW c.p _).mono ?_;rw[h3];rintro e w4 ⟨rfl,C0⟩;clear K J I H G F zz;go_wp2_with fail;go_ret2;exact J7 HR.o rfl (a9 M0.o C0)
     cases h4:N4 c.c
     ·have HR:=b9 (d1.o (by simp[F6,h4]));go_wp2_with fail;refine(gW c.p _).mono ?_;rw[h3];rintro e w4 ⟨rfl,C0⟩;clear K J I H G F zz;obtain⟨K,J,I,H,G,F,zz⟩:=T0.o.keep C0;go_wp2_with fail;refine(gW c.c _).mono ?_;rw[h4];rintro e w5 ⟨rfl,y⟩;clear K J I H G F zz;go_wp2_with fail;go_ret2;exact J7 HR.o rfl (a9 M0.o (a9 C0 y))
     have HW:c6 (F6 c=true):=by show _=_;simp[F6,h3,h4];omega
     have HR:=b9 (FL Q HO.o HF.o (by rw[H0.o];exact HW.o));obtain⟨m,hm⟩: ∃m:Nat,c.n.toNat=m:=⟨_,rfl⟩;have m2:IntKind.u64.wrap c.n=(m:Int):=by rw[p8 (by omega) (by omega)];omega
     have HM:c6 (m<18446744073709551616):=by show _<_;omega
     have HN:=b9 hm;clear hm;go_wp2_with fail;refine(gW c.p _).mono ?_;rw[h3];rintro e w9 ⟨rfl,S0⟩;clear K J I H G F zz;obtain⟨K,J,I,H,G,F,zz⟩:=T0.o.keep S0;go_wp2_with fail;refine(gW c.c _).mono ?_;rw[h4];rintro e w4 ⟨rfl,C0⟩;have I0:=b9 (a9 M0.o (a9 S0 C0));have g0:=b9 ((T0.o.keep S0).keep C0);have D0:=b9 (j8 (j8 O1.o S0) C0);clear K J I H G F zz S0 C0 T0 O1 M0 h3 h4 g P
     cases hph:c.p.h<;>cases hch:c.c.h
     all_goals (have f1:c6 (c.p.h=_):=hph;have g1:c6 (c.c.h=_):=hch)
     ·obtain⟨K,J,I,H,G,F,zz⟩:=g0.o;go_wp2_with fail;refine(D7 c.k F0.o.1 _).mono ?_;rintro e w5 ⟨y5,rfl,j0,y⟩;have m0:=b9 (z9 j0);have T:=b9 (j8 D0.o y);have Y:=b9 (a9 I0.o y);have p0:=b9 (g0.o.keep y);obtain⟨A1,y1,t1,rfl⟩:=F2 m0.o;clear j0 y K J I H G F zz D0 I0 g0
      have d:c6 ((O5 l i).length+(ib (Wm.enc c.k)).length≤622):=by
       show _≤_;have g:=HL.o;have P:=Wm.enc_len c.k;have h3:=Wm.enc_len m;simp only[i8];omega
      go_upto_region 15 with (at_builtin;refine g7 (by rfl) (.tmp 59) (.tmp 62) 75 (by rfl) w.heap.size 5 .u8 1 Tryz.underlying75 t9 _ _ _ (by rfl) T.o _ (ib (Wm.enc c.k)) (by rfl) m0.o (by have:=d.o;simp only[maxLen];omega) (by have:=d.o;omega) Y.o.size ?_;intro v6 w6 f a)
      obtain⟨L6,B⟩: ∃L,L=(O5 l i)++(Wm.enc c.k):=⟨_,rfl⟩
      have S:c6 (w6.ownsRow w.heap.size 5 1 v6 L6.length ((ib L6).map (Value.int .u8))):=by
       show World.ownsRow _ _ _ _ _ _ _;rw[B,List.length_append,o7,List.map_append,←i8 (Wm.enc c.k)];exact f
      have D:=b9 (Y.o.trans (g9 T.o a Y.o.size));have W:=b9 (p0.o.ch (Ch.of_grown a (fun x Z=>Z)) (G1 p0.o T.o (by have:=HL.o;omega)));have r:c6 (1≤L6.length∧L6.length≤622):=by have g:=d.o;have P:=HL.o;show _∧_;rw[B,List.length_append];rw[i8]at g;omega
      have t0:=b9 B;clear f a B d;obtain⟨K,J,I,H,G,F,zz⟩:=W.o
      have d:c6 (L6.length+[0].length≤623):=by
       show _≤_;have g:=r.o;have P:=Wm.enc_len c.k;have h3:=Wm.enc_len m;simp only[List.length_cons,List.length_nil];omega
      go_upto_region 21 with (at_builtin;refine g7 (by rfl) (.tmp 74) (.tmp 76) 75 (by rfl) w.heap.size 5 .u8 1 Tryz.underlying75 t9 _ _ _ (by rfl) (S.o.alloc _) _ [_] (by rfl) (U0 .u8 _ _ _) (by have:=d.o;simp only[maxLen];omega) (by have:=d.o;omega) (by rw[g8];have:=D.o.size;omega) ?_;intro v7 w7 f a)
      obtain⟨L7,A⟩: ∃L,L=L6++[0]:=⟨_,rfl⟩
      have n0:c6 (w7.ownsRow w.heap.size 5 1 v7 L7.length ((ib L7).map (Value.int .u8))):=by
       show World.ownsRow _ _ _ _ _ _ _;rw[A,List.length_append,o7,List.map_append];exact f
      have q0:=b9 (D.o.trans (((a8 w6 _).mono D.o.size).trans (g9 (S.o.alloc _) a (by rw[g8];have:=D.o.size;omega))));have U:=b9 ((W.o.keep (a8 w6 (Obj.cells #[.int .u8 0] 5))).ch (Ch.of_grown a (fun x Z=>Z)) (G1 (W.o.keep (a8 w6 (Obj.cells #[.int .u8 0] 5))) (S.o.alloc (Obj.cells #[.int .u8 0] 5)) (by have:=r.o;omega)));have q:c6 (1≤L7.length∧L7.length≤623):=by have g:=d.o;have P:=r.o;show _∧_;rw[A,List.length_append];simp only[List.length_cons,List.length_nil]at g⊢;omega
      have s0:=b9 A;clear f a A d;obtain⟨K,J,I,H,G,F,zz⟩:=U.o;go_wp2_with fail;refine(D7 m HM.o _).mono ?_;rintro e w8 ⟨y8,rfl,i0,C⟩;have l0:=b9 (z9 i0);have R:=b9 (j8 n0.o C);have X:=b9 (a9 q0.o C);have o0:=b9 (U.o.keep C);obtain⟨z1,x1,s1,rfl⟩:=F2 l0.o;clear i0 C K J I H G F zz n0 q0 U
      have d:c6 (L7.length+(ib (Wm.enc m)).length≤633):=by
       show _≤_;have g:=q.o;have P:=Wm.enc_len c.k;have h3:=Wm.enc_len m;simp only[i8];omega
      go_upto_region 8 with (at_builtin;refine g7 (by rfl) (.tmp 96) (.tmp 100) 75 (by rfl) w.heap.size 5 .u8 1 Tryz.underlying75 t9 _ _ _ (by rfl) R.o _ (ib (Wm.enc m)) (by rfl) l0.o (by have:=d.o;simp only[maxLen];omega) (by have:=d.o;omega) X.o.size ?_;intro v9 w9 f a)
      obtain⟨L9,z⟩: ∃L,L=L7++(Wm.enc m):=⟨_,rfl⟩
      have x0:c6 (w9.ownsRow w.heap.size 5 1 v9 L9.length ((ib L9).map (Value.int .u8))):=by
       show World.ownsRow _ _ _ _ _ _ _;rw[z,List.length_append,o7,List.map_append,←i8 (Wm.enc m)];exact f
      have y0:=b9 (X.o.trans (g9 R.o a X.o.size));have f0:=b9 (o0.o.ch (Ch.of_grown a (fun x Z=>Z)) (G1 o0.o R.o (by have:=q.o;omega)));have E:c6 (1≤L9.length∧L9.length≤633):=by have g:=d.o;have P:=q.o;show _∧_;rw[z,List.length_append];rw[i8]at g;omega
      have r0:=b9 z;clear f a z d
      have v0:c6 (O5 l (i+1)=L9):=by
       show _=_;rw[gX Q,H0.o,r0.o,s0.o,t0.o];simp[G0,W3,N7,f1.o,g1.o,HN.o]
      go_wp2_with fail;go_roundw
      case rel=>exact⟨i+1,by go_num,Q,by rw[v0.o];exact x0.o,HR.o,y0.o⟩
      case measure=>simp[intOf];have:=Q;omega
     ·obtain⟨K,J,I,H,G,F,zz⟩:=g0.o;go_wp2_with fail;refine(D7 c.k F0.o.1 _).mono ?_;rintro e w5 ⟨y5,rfl,j0,y⟩;have m0:=b9 (z9 j0);have T:=b9 (j8 D0.o y);have Y:=b9 (a9 I0.o y);have p0:=b9 (g0.o.keep y);obtain⟨A1,y1,t1,rfl⟩:=F2 m0.o;clear j0 y K J I H G F zz D0 I0 g0
      have d:c6 ((O5 l i).length+(ib (Wm.enc c.k)).length≤622):=by
       show _≤_;have g:=HL.o;have P:=Wm.enc_len c.k;have h3:=Wm.enc_len m;simp only[i8];omega
      go_upto_region 15 with (at_builtin;refine g7 (by rfl) (.tmp 59) (.tmp 62) 75 (by rfl) w.heap.size 5 .u8 1 Tryz.underlying75 t9 _ _ _ (by rfl) T.o _ (ib (Wm.enc c.k)) (by rfl) m0.o (by have:=d.o;simp only[maxLen];omega) (by have:=d.o;omega) Y.o.size ?_;intro v6 w6 f a)
      obtain⟨L6,B⟩: ∃L,L=(O5 l i)++(Wm.enc c.k):=⟨_,rfl⟩
      have S:c6 (w6.ownsRow w.heap.size 5 1 v6 L6.length ((ib L6).map (Value.int .u8))):=by
       show World.ownsRow _ _ _ _ _ _ _;rw[B,List.length_append,o7,List.map_append,←i8 (Wm.enc c.k)];exact f
      have D:=b9 (Y.o.trans (g9 T.o a Y.o.size));have W:=b9 (p0.o.ch (Ch.of_grown a (fun x Z=>Z)) (G1 p0.o T.o (by have:=HL.o;omega)));have r:c6 (1≤L6.length∧L6.length≤622):=by have g:=d.o;have P:=HL.o;show _∧_;rw[B,List.length_append];rw[i8]at g;omega
      have t0:=b9 B;clear f a B d;obtain⟨K,J,I,H,G,F,zz⟩:=W.o
      have d:c6 (L6.length+[2].length≤623):=by
       show _≤_;have g:=r.o;have P:=Wm.enc_len c.k;have h3:=Wm.enc_len m;simp only[List.length_cons,List.length_nil];omega
      go_upto_region 21 with (at_builtin;refine g7 (by rfl) (.tmp 74) (.tmp 76) 75 (by rfl) w.heap.size 5 .u8 1 Tryz.underlying75 t9 _ _ _ (by rfl) (S.o.alloc _) _ [_] (by rfl) (U0 .u8 _ _ _) (by have:=d.o;simp only[maxLen];omega) (by have:=d.o;omega) (by rw[g8];have:=D.o.size;omega) ?_;intro v7 w7 f a)
      obtain⟨L7,A⟩: ∃L,L=L6++[2]:=⟨_,rfl⟩
      have n0:c6 (w7.ownsRow w.heap.size 5 1 v7 L7.length ((ib L7).map (Value.int .u8))):=by
       show World.ownsRow _ _ _ _ _ _ _;rw[A,List.length_append,o7,List.map_append];exact f
      have q0:=b9 (D.o.trans (((a8 w6 _).mono D.o.size).trans (g9 (S.o.alloc _) a (by rw[g8];have:=D.o.size;omega))));have U:=b9 ((W.o.keep (a8 w6 (Obj.cells #[.int .u8 2] 5))).ch (Ch.of_grown a (fun x Z=>Z)) (G1 (W.o.keep (a8 w6 (Obj.cells #[.int .u8 2] 5))) (S.o.alloc (Obj.cells #[.int .u8 2] 5)) (by have:=r.o;omega)));have q:c6 (1≤L7.length∧L7.length≤623):=by have g:=d.o;have P:=r.o;show _∧_;rw[A,List.length_append];simp only[List.length_cons,List.length_nil]at g⊢;omega
      have s0:=b9 A;clear f a A d;obtain⟨K,J,I,H,G,F,zz⟩:=U.o;go_wp2_with fail;refine(eU c.c.b F0.o.2.2.1 _).mono ?_;rintro e w8 ⟨y8,rfl,i0,C⟩;have l0:=b9 (z9 i0);have R:=b9 (j8 n0.o C);have X:=b9 (a9 q0.o C);have o0:=b9 (U.o.keep C);obtain⟨z1,x1,s1,rfl⟩:=F2 l0.o;clear i0 C K J I H G F zz n0 q0 U
      have d:c6 (L7.length+(ib (Wm.wd c.c.b)).length≤631):=by
       show _≤_;have g:=q.o;have P:=Wm.enc_len c.k;have h3:=Wm.enc_len m;simp only[i8,Wm.wd_len];omega
      go_upto_region 25 with (at_builtin;refine g7 (by rfl) (.tmp 90) (.tmp 94) 75 (by rfl) w.heap.size 5 .u8 1 Tryz.underlying75 t9 _ _ _ (by rfl) R.o _ (ib (Wm.wd c.c.b)) (by rfl) l0.o (by have:=d.o;simp only[maxLen];omega) (by have:=d.o;omega) X.o.size ?_;intro v9 w9 f a)
      obtain⟨L9,z⟩: ∃L,L=L7++(Wm.wd c.c.b):=⟨_,rfl⟩
      have x0:c6 (w9.ownsRow w.heap.size 5 1 v9 L9.length ((ib L9).map (Value.int .u8))):=by
       show World.ownsRow _ _ _ _ _ _ _;rw[z,List.length_append,o7,List.map_append,←i8 (Wm.wd c.c.b)];exact f
      have y0:=b9 (X.o.trans (g9 R.o a X.o.size));have f0:=b9 (o0.o.ch (Ch.of_grown a (fun x Z=>Z)) (G1 o0.o R.o (by have:=q.o;omega)));have E:c6 (1≤L9.length∧L9.length≤631):=by have g:=d.o;have P:=q.o;show _∧_;rw[z,List.length_append];rw[i8]at g;omega
      have r0:=b9 z;clear f a z d;obtain⟨K,J,I,H,G,F,zz⟩:=f0.o;go_wp2_with fail;refine(D7 m HM.o _).mono ?_;rintro e L1 ⟨K1,rfl,a0,u⟩;have b0:=b9 (z9 a0);have N:=b9 (j8 x0.o u);have O:=b9 (a9 y0.o u);have d0:=b9 (f0.o.keep u);obtain⟨l1,k1,j1,rfl⟩:=F2 b0.o;clear a0 u K J I H G F zz x0 y0 f0
      have d:c6 (L9.length+(ib (Wm.enc m)).length≤641):=by
       show _≤_;have g:=E.o;have P:=Wm.enc_len c.k;have h3:=Wm.enc_len m;simp only[i8];omega
      go_upto_region 8 with (at_builtin;refine g7 (by rfl) (.tmp 96) (.tmp 100) 75 (by rfl) w.heap.size 5 .u8 1 Tryz.underlying75 t9 _ _ _ (by rfl) N.o _ (ib (Wm.enc m)) (by rfl) b0.o (by have:=d.o;simp only[maxLen];omega) (by have:=d.o;omega) O.o.size ?_;intro P0 O0 f a)
      obtain⟨M,s⟩: ∃L,L=L9++(Wm.enc m):=⟨_,rfl⟩
      have z0:c6 (O0.ownsRow w.heap.size 5 1 P0 M.length ((ib M).map (Value.int .u8))):=by
       show World.ownsRow _ _ _ _ _ _ _;rw[s,List.length_append,o7,List.map_append,←i8 (Wm.enc m)];exact f
      have A0:=b9 (O.o.trans (g9 N.o a O.o.size));have J0:=b9 (d0.o.ch (Ch.of_grown a (fun x Z=>Z)) (G1 d0.o N.o (by have:=E.o;omega)));have K0:c6 (1≤M.length∧M.length≤641):=by have g:=d.o;have P:=E.o;show _∧_;rw[s,List.length_append];rw[i8]at g;omega
      have w0:=b9 s;clear f a s d
      have v0:c6 (O5 l (i+1)=M):=by
       show _=_;rw[gX Q,H0.o,w0.o,r0.o,s0.o,t0.o];simp[G0,W3,N7,f1.o,g1.o,HN.o]
      go_wp2_with fail;go_roundw
      case rel=>exact⟨i+1,by go_num,Q,by rw[v0.o];exact z0.o,HR.o,A0.o⟩
      case measure=>simp[intOf];have:=Q;omega
     ·obtain⟨K,J,I,H,G,F,zz⟩:=g0.o;go_wp2_with fail;refine(D7 c.k F0.o.1 _).mono ?_;rintro e w5 ⟨y5,rfl,j0,y⟩;have m0:=b9 (z9 j0);have T:=b9 (j8 D0.o y);have Y:=b9 (a9 I0.o y);have p0:=b9 (g0.o.keep y);obtain⟨A1,y1,t1,rfl⟩:=F2 m0.o;clear j0 y K J I H G F zz D0 I0 g0
      have d:c6 ((O5 l i).length+(ib (Wm.enc c.k)).length≤622):=by
       show _≤_;have g:=HL.o;have P:=Wm.enc_len c.k;have h3:=Wm.enc_len m;simp only[i8];omega
      go_upto_region 15 with (at_builtin;refine g7 (by rfl) (.tmp 59) (.tmp 62) 75 (by rfl) w.heap.size 5 .u8 1 Tryz.underlying75 t9 _ _ _ (by rfl) T.o _ (ib (Wm.enc c.k)) (by rfl) m0.o (by have:=d.o;simp only[maxLen];omega) (by have:=d.o;omega) Y.o.size ?_;intro v6 w6 f a)
      obtain⟨L6,B⟩: ∃L,L=(O5 l i)++(Wm.enc c.k):=⟨_,rfl⟩
      have S:c6 (w6.ownsRow w.heap.size 5 1 v6 L6.length ((ib L6).map (Value.int .u8))):=by
       show World.ownsRow _ _ _ _ _ _ _;rw[B,List.length_append,o7,List.map_append,←i8 (Wm.enc c.k)];exact f
      have D:=b9 (Y.o.trans (g9 T.o a Y.o.size));have W:=b9 (p0.o.ch (Ch.of_grown a (fun x Z=>Z)) (G1 p0.o T.o (by have:=HL.o;omega)));have r:c6 (1≤L6.length∧L6.length≤622):=by have g:=d.o;have P:=HL.o;show _∧_;rw[B,List.length_append];rw[i8]at g;omega
      have t0:=b9 B;clear f a B d;obtain⟨K,J,I,H,G,F,zz⟩:=W.o
      have d:c6 (L6.length+[1].length≤623):=by
       show _≤_;have g:=r.o;have P:=Wm.enc_len c.k;have h3:=Wm.enc_len m;simp only[List.length_cons,List.length_nil];omega
      go_upto_region 21 with (at_builtin;refine g7 (by rfl) (.tmp 74) (.tmp 76) 75 (by rfl) w.heap.size 5 .u8 1 Tryz.underlying75 t9 _ _ _ (by rfl) (S.o.alloc _) _ [_] (by rfl) (U0 .u8 _ _ _) (by have:=d.o;simp only[maxLen];omega) (by have:=d.o;omega) (by rw[g8];have:=D.o.size;omega) ?_;intro v7 w7 f a)
      obtain⟨L7,A⟩: ∃L,L=L6++[1]:=⟨_,rfl⟩
      have n0:c6 (w7.ownsRow w.heap.size 5 1 v7 L7.length ((ib L7).map (Value.int .u8))):=by
       show World.ownsRow _ _ _ _ _ _ _;rw[A,List.length_append,o7,List.map_append];exact f
      have q0:=b9 (D.o.trans (((a8 w6 _).mono D.o.size).trans (g9 (S.o.alloc _) a (by rw[g8];have:=D.o.size;omega))));have U:=b9 ((W.o.keep (a8 w6 (Obj.cells #[.int .u8 1] 5))).ch (Ch.of_grown a (fun x Z=>Z)) (G1 (W.o.keep (a8 w6 (Obj.cells #[.int .u8 1] 5))) (S.o.alloc (Obj.cells #[.int .u8 1] 5)) (by have:=r.o;omega)));have q:c6 (1≤L7.length∧L7.length≤623):=by have g:=d.o;have P:=r.o;show _∧_;rw[A,List.length_append];simp only[List.length_cons,List.length_nil]at g⊢;omega
      have s0:=b9 A;clear f a A d;obtain⟨K,J,I,H,G,F,zz⟩:=U.o;go_wp2_with fail;refine(eU c.p.b F0.o.2.1 _).mono ?_;rintro e w8 ⟨y8,rfl,i0,C⟩;have l0:=b9 (z9 i0);have R:=b9 (j8 n0.o C);have X:=b9 (a9 q0.o C);have o0:=b9 (U.o.keep C);obtain⟨z1,x1,s1,rfl⟩:=F2 l0.o;clear i0 C K J I H G F zz n0 q0 U
      have d:c6 (L7.length+(ib (Wm.wd c.p.b)).length≤631):=by
       show _≤_;have g:=q.o;have P:=Wm.enc_len c.k;have h3:=Wm.enc_len m;simp only[i8,Wm.wd_len];omega
      go_upto_region 23 with (at_builtin;refine g7 (by rfl) (.tmp 81) (.tmp 85) 75 (by rfl) w.heap.size 5 .u8 1 Tryz.underlying75 t9 _ _ _ (by rfl) R.o _ (ib (Wm.wd c.p.b)) (by rfl) l0.o (by have:=d.o;simp only[maxLen];omega) (by have:=d.o;omega) X.o.size ?_;intro v9 w9 f a)
      obtain⟨L9,z⟩: ∃L,L=L7++(Wm.wd c.p.b):=⟨_,rfl⟩
      have x0:c6 (w9.ownsRow w.heap.size 5 1 v9 L9.length ((ib L9).map (Value.int .u8))):=by
       show World.ownsRow _ _ _ _ _ _ _;rw[z,List.length_append,o7,List.map_append,←i8 (Wm.wd c.p.b)];exact f
      have y0:=b9 (X.o.trans (g9 R.o a X.o.size));have f0:=b9 (o0.o.ch (Ch.of_grown a (fun x Z=>Z)) (G1 o0.o R.o (by have:=q.o;omega)));have E:c6 (1≤L9.length∧L9.length≤631):=by have g:=d.o;have P:=q.o;show _∧_;rw[z,List.length_append];rw[i8]at g;omega
      have r0:=b9 z;clear f a z d;obtain⟨K,J,I,H,G,F,zz⟩:=f0.o;go_wp2_with fail;refine(D7 m HM.o _).mono ?_;rintro e L1 ⟨K1,rfl,a0,u⟩;have b0:=b9 (z9 a0);have N:=b9 (j8 x0.o u);have O:=b9 (a9 y0.o u);have d0:=b9 (f0.o.keep u);obtain⟨l1,k1,j1,rfl⟩:=F2 b0.o;clear a0 u K J I H G F zz x0 y0 f0
      have d:c6 (L9.length+(ib (Wm.enc m)).length≤641):=by
       show _≤_;have g:=E.o;have P:=Wm.enc_len c.k;have h3:=Wm.enc_len m;simp only[i8];omega
      go_upto_region 8 with (at_builtin;refine g7 (by rfl) (.tmp 96) (.tmp 100) 75 (by rfl) w.heap.size 5 .u8 1 Tryz.underlying75 t9 _ _ _ (by rfl) N.o _ (ib (Wm.enc m)) (by rfl) b0.o (by have:=d.o;simp only[maxLen];omega) (by have:=d.o;omega) O.o.size ?_;intro P0 O0 f a)
      obtain⟨M,s⟩: ∃L,L=L9++(Wm.enc m):=⟨_,rfl⟩
      have z0:c6 (O0.ownsRow w.heap.size 5 1 P0 M.length ((ib M).map (Value.int .u8))):=by
       show World.ownsRow _ _ _ _ _ _ _;rw[s,List.length_append,o7,List.map_append,←i8 (Wm.enc m)];exact f
      have A0:=b9 (O.o.trans (g9 N.o a O.o.size));have J0:=b9 (d0.o.ch (Ch.of_grown a (fun x Z=>Z)) (G1 d0.o N.o (by have:=E.o;omega)));have K0:c6 (1≤M.length∧M.length≤641):=by have g:=d.o;have P:=E.o;show _∧_;rw[s,List.length_append];rw[i8]at g;omega
      have w0:=b9 s;clear f a s d
      have v0:c6 (O5 l (i+1)=M):=by
       show _=_;rw[gX Q,H0.o,w0.o,r0.o,s0.o,t0.o];simp[G0,W3,N7,f1.o,g1.o,HN.o]
      go_wp2_with fail;go_roundw
      case rel=>exact⟨i+1,by go_num,Q,by rw[v0.o];exact z0.o,HR.o,A0.o⟩
      case measure=>simp[intOf];have:=Q;omega
     ·obtain⟨K,J,I,H,G,F,zz⟩:=g0.o;go_wp2_with fail;refine(D7 c.k F0.o.1 _).mono ?_;rintro e w5 ⟨y5,rfl,j0,y⟩;have m0:=b9 (z9 j0);have T:=b9 (j8 D0.o y);have Y:=b9 (a9 I0.o y);have p0:=b9 (g0.o.keep y);obtain⟨A1,y1,t1,rfl⟩:=F2 m0.o;clear j0 y K J I H G F zz D0 I0 g0
      have d:c6 ((O5 l i).length+(ib (Wm.enc c.k)).length≤622):=by
       show _≤_;have g:=HL.o;have P:=Wm.enc_len c.k;have h3:=Wm.enc_len m;simp only[i8];omega
      go_upto_region 15 with (at_builtin;refine g7 (by rfl) (.tmp 59) (.tmp 62) 75 (by rfl) w.heap.size 5 .u8 1 Tryz.underlying75 t9 _ _ _ (by rfl) T.o _ (ib (Wm.enc c.k)) (by rfl) m0.o (by have:=d.o;simp only[maxLen];omega) (by have:=d.o;omega) Y.o.size ?_;intro v6 w6 f a)
      obtain⟨L6,B⟩: ∃L,L=(O5 l i)++(Wm.enc c.k):=⟨_,rfl⟩
      have S:c6 (w6.ownsRow w.heap.size 5 1 v6 L6.length ((ib L6).map (Value.int .u8))):=by
       show World.ownsRow _ _ _ _ _ _ _;rw[B,List.length_append,o7,List.map_append,←i8 (Wm.enc c.k)];exact f
      have D:=b9 (Y.o.trans (g9 T.o a Y.o.size));have W:=b9 (p0.o.ch (Ch.of_grown a (fun x Z=>Z)) (G1 p0.o T.o (by have:=HL.o;omega)));have r:c6 (1≤L6.length∧L6.length≤622):=by have g:=d.o;have P:=HL.o;show _∧_;rw[B,List.length_append];rw[i8]at g;omega
      have t0:=b9 B;clear f a B d;obtain⟨K,J,I,H,G,F,zz⟩:=W.o
      have d:c6 (L6.length+[3].length≤623):=by
       show _≤_;have g:=r.o;have P:=Wm.enc_len c.k;have h3:=Wm.enc_len m;simp only[List.length_cons,List.length_nil];omega
      go_upto_region 21 with (at_builtin;refine g7 (by rfl) (.tmp 74) (.tmp 76) 75 (by rfl) w.heap.size 5 .u8 1 Tryz.underlying75 t9 _ _ _ (by rfl) (S.o.alloc _) _ [_] (by rfl) (U0 .u8 _ _ _) (by have:=d.o;simp only[maxLen];omega) (by have:=d.o;omega) (by rw[g8];have:=D.o.size;omega) ?_;intro v7 w7 f a)
      obtain⟨L7,A⟩: ∃L,L=L6++[3]:=⟨_,rfl⟩
      have n0:c6 (w7.ownsRow w.heap.size 5 1 v7 L7.length ((ib L7).map (Value.int .u8))):=by
       show World.ownsRow _ _ _ _ _ _ _;rw[A,List.length_append,o7,List.map_append];exact f
      have q0:=b9 (D.o.trans (((a8 w6 _).mono D.o.size).trans (g9 (S.o.alloc _) a (by rw[g8];have:=D.o.size;omega))));have U:=b9 ((W.o.keep (a8 w6 (Obj.cells #[.int .u8 3] 5))).ch (Ch.of_grown a (fun x Z=>Z)) (G1 (W.o.keep (a8 w6 (Obj.cells #[.int .u8 3] 5))) (S.o.alloc (Obj.cells #[.int .u8 3] 5)) (by have:=r.o;omega)));have q:c6 (1≤L7.length∧L7.length≤623):=by have g:=d.o;have P:=r.o;show _∧_;rw[A,List.length_append];simp only[List.length_cons,List.length_nil]at g⊢;omega
      have s0:=b9 A;clear f a A d;obtain⟨K,J,I,H,G,F,zz⟩:=U.o;go_wp2_with fail;refine(eU c.p.b F0.o.2.1 _).mono ?_;rintro e w8 ⟨y8,rfl,i0,C⟩;have l0:=b9 (z9 i0);have R:=b9 (j8 n0.o C);have X:=b9 (a9 q0.o C);have o0:=b9 (U.o.keep C);obtain⟨z1,x1,s1,rfl⟩:=F2 l0.o;clear i0 C K J I H G F zz n0 q0 U
      have d:c6 (L7.length+(ib (Wm.wd c.p.b)).length≤631):=by
       show _≤_;have g:=q.o;have P:=Wm.enc_len c.k;have h3:=Wm.enc_len m;simp only[i8,Wm.wd_len];omega
      go_upto_region 23 with (at_builtin;refine g7 (by rfl) (.tmp 81) (.tmp 85) 75 (by rfl) w.heap.size 5 .u8 1 Tryz.underlying75 t9 _ _ _ (by rfl) R.o _ (ib (Wm.wd c.p.b)) (by rfl) l0.o (by have:=d.o;simp only[maxLen];omega) (by have:=d.o;omega) X.o.size ?_;intro v9 w9 f a)
      obtain⟨L9,z⟩: ∃L,L=L7++(Wm.wd c.p.b):=⟨_,rfl⟩
      have x0:c6 (w9.ownsRow w.heap.size 5 1 v9 L9.length ((ib L9).map (Value.int .u8))):=by
       show World.ownsRow _ _ _ _ _ _ _;rw[z,List.length_append,o7,List.map_append,←i8 (Wm.wd c.p.b)];exact f
      have y0:=b9 (X.o.trans (g9 R.o a X.o.size));have f0:=b9 (o0.o.ch (Ch.of_grown a (fun x Z=>Z)) (G1 o0.o R.o (by have:=q.o;omega)));have E:c6 (1≤L9.length∧L9.length≤631):=by have g:=d.o;have P:=q.o;show _∧_;rw[z,List.length_append];rw[i8]at g;omega
      have r0:=b9 z;clear f a z d;obtain⟨K,J,I,H,G,F,zz⟩:=f0.o;go_wp2_with fail;refine(eU c.c.b F0.o.2.2.1 _).mono ?_;rintro e L1 ⟨K1,rfl,a0,u⟩;have b0:=b9 (z9 a0);have N:=b9 (j8 x0.o u);have O:=b9 (a9 y0.o u);have d0:=b9 (f0.o.keep u);obtain⟨l1,k1,j1,rfl⟩:=F2 b0.o;clear a0 u K J I H G F zz x0 y0 f0
      have d:c6 (L9.length+(ib (Wm.wd c.c.b)).length≤639):=by
       show _≤_;have g:=E.o;have P:=Wm.enc_len c.k;have h3:=Wm.enc_len m;simp only[i8,Wm.wd_len];omega
      go_upto_region 25 with (at_builtin;refine g7 (by rfl) (.tmp 90) (.tmp 94) 75 (by rfl) w.heap.size 5 .u8 1 Tryz.underlying75 t9 _ _ _ (by rfl) N.o _ (ib (Wm.wd c.c.b)) (by rfl) b0.o (by have:=d.o;simp only[maxLen];omega) (by have:=d.o;omega) O.o.size ?_;intro P0 O0 f a)
      obtain⟨M,s⟩: ∃L,L=L9++(Wm.wd c.c.b):=⟨_,rfl⟩
      have z0:c6 (O0.ownsRow w.heap.size 5 1 P0 M.length ((ib M).map (Value.int .u8))):=by
       show World.ownsRow _ _ _ _ _ _ _;rw[s,List.length_append,o7,List.map_append,←i8 (Wm.wd c.c.b)];exact f
      have A0:=b9 (O.o.trans (g9 N.o a O.o.size));have J0:=b9 (d0.o.ch (Ch.of_grown a (fun x Z=>Z)) (G1 d0.o N.o (by have:=E.o;omega)));have K0:c6 (1≤M.length∧M.length≤639):=by have g:=d.o;have P:=E.o;show _∧_;rw[s,List.length_append];rw[i8]at g;omega
      have w0:=b9 s;clear f a s d;obtain⟨K,J,I,H,G,F,zz⟩:=J0.o;go_wp2_with fail;refine(D7 m HM.o _).mono ?_;rintro e l2 ⟨k2,rfl,m1,L0⟩;have p1:=b9 (z9 m1);have r1:=b9 (j8 z0.o L0);have Y0:=b9 (a9 A0.o L0);have j2:=b9 (J0.o.keep L0);obtain⟨g2,f2,d2,rfl⟩:=F2 p1.o;clear m1 L0 K J I H G F zz z0 A0 J0
      have d:c6 (M.length+(ib (Wm.enc m)).length≤649):=by
       show _≤_;have g:=K0.o;have P:=Wm.enc_len c.k;have h3:=Wm.enc_len m;simp only[i8];omega
      go_upto_region 8 with (at_builtin;refine g7 (by rfl) (.tmp 96) (.tmp 100) 75 (by rfl) w.heap.size 5 .u8 1 Tryz.underlying75 t9 _ _ _ (by rfl) r1.o _ (ib (Wm.enc m)) (by rfl) p1.o (by have:=d.o;simp only[maxLen];omega) (by have:=d.o;omega) Y0.o.size ?_;intro U1 T1 f a)
      obtain⟨D1,X0⟩: ∃L,L=M++(Wm.enc m):=⟨_,rfl⟩
      have R1:c6 (T1.ownsRow w.heap.size 5 1 U1 D1.length ((ib D1).map (Value.int .u8))):=by
       show World.ownsRow _ _ _ _ _ _ _;rw[X0,List.length_append,o7,List.map_append,←i8 (Wm.enc m)];exact f
      have S1:=b9 (Y0.o.trans (g9 r1.o a Y0.o.size));have J1:=b9 X0;clear f a X0 d
      have v0:c6 (O5 l (i+1)=D1):=by
       show _=_;rw[gX Q,H0.o,J1.o,w0.o,r0.o,s0.o,t0.o];simp[G0,W3,N7,f1.o,g1.o,HN.o]
      go_wp2_with fail;go_roundw
      case rel=>exact⟨i+1,by go_num,Q,by rw[v0.o];exact R1.o,HR.o,S1.o⟩
      case measure=>simp[intOf];have:=Q;omega
  ·have Q1: ¬(i:Int)<(l.length:Int):=by omega
   obtain rfl:i=l.length:=by omega
   have HR:=b9 (oO W0.o HP.o (OX (Nat.le_refl _) HO.o));go_wp2_with fail;go_ret2;exact⟨_,by rw[HR.o];rfl,by rw[HR.o];exact q1.o,HB.o⟩
theorem yD(ao:Option Addr)(cap:Nat)(w:d9):Calls Tryz.prog 172 #[.slice ao 0 cap] w (aP [] w):=by
 go_in;go_wp2_with fail;go_ret2;exact J7 (e:=0) rfl rfl (Below.refl _ _)
theorem CI(l:List Cl)(ao:Option Addr)(cap:Nat)(w:d9)(h:16<l.length):Calls Tryz.prog 172 #[.slice ao l.length cap] w (aP l w):=by
 have a:(16:Int)<(l.length:Int):=by omega
 have HR:=b9 (pO h);clear h;go_in;go_wp2_with fail;go_ret2;exact J7 HR.o rfl (Below.refl _ _)
theorem lX{w:d9}{v:Value}{l:List Cl}(h:Cv w v l)(hok: ∀c∈l,c.okB):Calls Tryz.prog 172 #[v] w (aP l w):=by
 rcases B2 h with ⟨rfl,i,a,rfl⟩|⟨b,d,a,rfl,f,_,_,g⟩
 ·exact yD i a w
 ·by_cases e:l.length≤16
  ·exact yE l b d a w f e hok g
  ·exact CI l _ a w (by omega)
section
def tO(a b:Nat→List Cl):Nat→List (Int × f7)
 |0=>[]
 |i+1=>if(m9 (a (i+1))).1=(m9 (b (i+1))).1 then tO a b i else tO a b i++[(((i+1:Nat):Int),(m9 (b (i+1))).1)]
theorem AO{a b:Nat→List Cl}{i:Nat}(h:(m9 (a (i+1))).1=(m9 (b (i+1))).1):tO a b (i+1)=tO a b i:=by rw[tO,if_pos h]
theorem uJ{a b:Nat→List Cl}{i:Nat}(h:(m9 (a (i+1))).1≠(m9 (b (i+1))).1):tO a b (i+1)=tO a b i++[(((i+1:Nat):Int),(m9 (b (i+1))).1)]:=by
 rw[tO,if_neg h]
theorem MS(a b:Nat→List Cl): ∀i,(tO a b i).length≤i:=by
 intro i
 induction i with
 |zero=>exact Nat.le_refl _
 |succ i c=>
  unfold tO
  split
  ·omega
  ·simp;omega
theorem LG(w:d9)(o:Obj):(w.alloc o).heap[w.heap.size]?=some o:=by unfold World.alloc;exact Array.getElem?_push_size
theorem Ab{base g:Nat}{w:d9}(hb:base≤g)(h:w.heap[g]?=some (.cells #[] 77 (0,0))):WL base w (.slice (some ⟨g,0,none⟩) 0 0) []:=
 ⟨[],rfl,⟨rfl,.inr ⟨g,0, #[],rfl,hb,h,Nat.le_refl _,Nat.zero_le _,rfl,rfl⟩⟩,fun i hi=>by simp at hi,by simp⟩
section

variable{w:d9}{f h:Nat→Value}{a b:Nat→List Cl}

def Mr(w0:d9)(a b:Nat→List Cl)(lv iv:Value)(wr:d9):Prop:=
 ∃i:Nat,iv= .int .i64 ((i+1:Nat):Int)∧i≤6∧WL w0.heap.size wr lv (tO a b i)∧f8 w0 wr
theorem jL(hf: ∀j,j<7→Cv w (f j) (a j))(hh: ∀j,j<7→Cv w (h j) (b j))(hoa: ∀j,j<7→ ∀c∈a j,c.okB)(hob: ∀j,j<7→ ∀c∈b j,c.okB):
  Calls Tryz.prog 118 #[.agg #[f 0,f 1,f 2,f 3,f 4,f 5,f 6],.agg #[h 0,h 1,h 2,h 3,h 4,h 5,h 6]] w fun e w'=> ∃lv,e= .returned lv∧WL w.heap.size w' lv (tO a b 6)∧f8 w w':=by
 have X0:=b9 hoa;have W0:=b9 hob;have k:c6 (f8 w ((w.alloc (Obj.cells #[f 0,f 1,f 2,f 3,f 4,f 5,f 6] 147)).alloc (Obj.cells #[h 0,h 1,h 2,h 3,h 4,h 5,h 6] 147))):=a9 (a8 _ _) (a8 _ _);have g:c6 (S7 ((w.alloc (Obj.cells #[f 0,f 1,f 2,f 3,f 4,f 5,f 6] 147)).alloc (Obj.cells #[h 0,h 1,h 2,h 3,h 4,h 5,h 6] 147)) w.heap.size f a):=(eT hf).below (a8 _ _)
 have d:c6 (S7 ((w.alloc (Obj.cells #[f 0,f 1,f 2,f 3,f 4,f 5,f 6] 147)).alloc (Obj.cells #[h 0,h 1,h 2,h 3,h 4,h 5,h 6] 147)) (w.heap.size+1) h b):=by
  have R:=eT (w:=(w.alloc (Obj.cells #[f 0,f 1,f 2,f 3,f 4,f 5,f 6] 147))) (fun j Q=>(hh j Q).below (a8 _ _));rw[g8]at R;exact R
 have l:c6 (Mr ((w.alloc (Obj.cells #[f 0,f 1,f 2,f 3,f 4,f 5,f 6] 147)).alloc (Obj.cells #[h 0,h 1,h 2,h 3,h 4,h 5,h 6] 147)) a b (.slice (some ⟨w.heap.size+1+1,0,none⟩) 0 0) (.int .i64 1) (((w.alloc (Obj.cells #[f 0,f 1,f 2,f 3,f 4,f 5,f 6] 147)).alloc (Obj.cells #[h 0,h 1,h 2,h 3,h 4,h 5,h 6] 147)).alloc (Obj.cells #[] 77))):=by
  have R:((w.alloc (Obj.cells #[f 0,f 1,f 2,f 3,f 4,f 5,f 6] 147)).alloc (Obj.cells #[h 0,h 1,h 2,h 3,h 4,h 5,h 6] 147)).heap.size=w.heap.size+1+1:=by rw[g8,g8]
  refine⟨0,rfl,by omega,Ab (by rw[R];exact Nat.le_refl _) (by rw[←R];exact LG _ _),a8 _ _⟩
 obtain⟨C0,t0,S0⟩:=(hf 0 (by omega)).form;obtain⟨B0,s0,R0⟩:=(hf 1 (by omega)).form;obtain⟨A0,r0,Q0⟩:=(hf 2 (by omega)).form;obtain⟨z0,q0,P0⟩:=(hf 3 (by omega)).form;obtain⟨y0,p0,O0⟩:=(hf 4 (by omega)).form;obtain⟨x0,o0,N0⟩:=(hf 5 (by omega)).form;obtain⟨v0,n0,M0⟩:=(hf 6 (by omega)).form;obtain⟨k0,Y,L0⟩:=(hh 0 (by omega)).form;obtain⟨j0,r,K0⟩:=(hh 1 (by omega)).form;obtain⟨i0,q,J0⟩:=(hh 2 (by omega)).form;obtain⟨h0,X,I0⟩:=(hh 3 (by omega)).form;obtain⟨g0,W,G0⟩:=(hh 4 (by omega)).form;obtain⟨f0,U,F0⟩:=(hh 5 (by omega)).form;obtain⟨d0,T,D0⟩:=(hh 6 (by omega)).form;rw[S0,R0,Q0,P0,O0,N0,M0,L0,K0,J0,I0,G0,F0,D0]at k g d l⊢;clear hf hh hoa hob S0 R0 Q0 P0 O0 N0 M0 L0 K0 J0 I0 G0 F0 D0;generalize (a 0).length=fn0 at g d k l⊢;generalize (a 1).length=fn1 at g d k l⊢;generalize (a 2).length=fn2 at g d k l⊢;generalize (a 3).length=fn3 at g d k l⊢;generalize (a 4).length=fn4 at g d k l⊢;generalize (a 5).length=fn5 at g d k l⊢;generalize (a 6).length=fn6 at g d k l⊢;generalize (b 0).length=hn0 at g d k l⊢;generalize (b 1).length=hn1 at g d k l⊢;generalize (b 2).length=hn2 at g d k l⊢;generalize (b 3).length=hn3 at g d k l⊢;generalize (b 4).length=hn4 at g d k l⊢;generalize (b 5).length=hn5 at g d k l⊢;generalize (b 6).length=hn6 at g d k l⊢;go_in;go_upto_region 2 with fail
 obtain⟨N,hN⟩:=c7 w.heap.size;rw[←hN]at g d l⊢;clear hN;obtain⟨N1,l0⟩:=c7 (N+1);rw[←l0]at d l⊢;clear l0;generalize (((w.alloc (Obj.cells #[.slice C0 fn0 t0,.slice B0 fn1 s0,.slice A0 fn2 r0,.slice z0 fn3 q0,.slice y0 fn4 p0,.slice x0 fn5 o0,.slice v0 fn6 n0] 147)).alloc (Obj.cells #[.slice k0 hn0 Y,.slice j0 hn1 r,.slice i0 hn2 q,.slice h0 hn3 X,.slice g0 hn4 W,.slice f0 hn5 U,.slice d0 hn6 T] 147)).alloc (Obj.cells #[] 77))=w00 at l⊢;generalize ((w.alloc (Obj.cells #[.slice C0 fn0 t0,.slice B0 fn1 s0,.slice A0 fn2 r0,.slice z0 fn3 q0,.slice y0 fn4 p0,.slice x0 fn5 o0,.slice v0 fn6 n0] 147)).alloc (Obj.cells #[.slice k0 hn0 Y,.slice j0 hn1 r,.slice i0 hn2 q,.slice h0 hn3 X,.slice g0 hn4 W,.slice f0 hn5 U,.slice d0 hn6 T] 147))=G at g d k l;go_wp2_with fail;go_loopw [5,6] (fun lv iv wr=>Mr G a b lv iv wr) (fun _ iv _=>7-(intOf iv).toNat)
 case atStart=>exact l.o
 case round=>
  clear l;obtain⟨i,rfl,hi,S,t⟩:=hrel;have T0:=b9 S;have HB:=b9 t;have i1:=b9 (a9 k.o t);clear S t;by_cases Z:i<6;rotate_left
  ·obtain rfl:i=6:=by omega
   go_wp2_with fail;go_ret;exact⟨_,rfl,T0.o.low k.o.size,i1.o⟩
  ·obtain⟨j,Q⟩:=c7 (i+1);rw[←Q];have HJ:=b9 Q;have m:j<7:=by omega
   have l1:(j:Int)≤6:=by omega
   have j1:(j:Int)<7:=by omega
   have n1:(0:Int)≤(j:Int):=by omega
   have C:=b9 (g.o.below HB.o);have B:=b9 (d.o.below HB.o);obtain⟨fa,fc,hf⟩:=C.o.form m;obtain⟨ga,gc,hg⟩:=B.o.form m;obtain⟨fn,b0⟩: ∃n,n=(a j).length:=⟨_,rfl⟩;obtain⟨gn,a0⟩: ∃n,n=(b j).length:=⟨_,rfl⟩;rw[←b0]at hf;rw[←a0]at hg;have HF:c6 (Cv wr (.slice fa fn fc) (a j)):=by have:=C.o.cv j m;rw[hf]at this;exact this
   have HG:c6 (Cv wr (.slice ga gn gc) (b j)):=by have:=B.o.cv j m;rw[hg]at this;exact this
   have m0:wr.cell? ⟨N,j,none⟩=some (.slice fa fn fc):=by have:=C.o.c j m;rw[hf]at this;exact this
   have L:c6 (wr.cell? ⟨N1,j,none⟩=some (.slice ga gn gc)):=by have:=B.o.c j m;rw[hg]at this;exact this
   clear hf hg b0 a0 Q;go_wp2_with fail;refine(lX HF.o (X0.o j m)).mono ?_;unfold aP;obtain⟨p1,x1,r⟩: ∃p x,m9 (a j)=(p,x):=⟨_,_,rfl⟩;have V0:=b9 r;have Y0:c6 (∀c∈p1,c<256):=by have:=oP (X0.o j m);rw[r]at this;exact this
   rw[r];rintro e w2 ⟨v2,rfl,I,A⟩;have U0:=b9 (p7 I Y0.o);have O:=b9 A;obtain⟨va,vn,vc,H⟩: ∃x y z,v2= .slice x y z:=by obtain⟨x,z,e⟩:=y9 I;exact⟨x,_,z,e⟩
   subst H;have m1:w2.cell? ⟨N1,j,none⟩=some (.slice ga gn gc):=by rw[A.cell (p:=⟨N1,j,none⟩) (c8 L.o)];exact L.o
   have Z0:=b9 (HG.o.below A);clear I A r m0 L HF HG C B;go_wp2_with fail;refine(lX Z0.o (W0.o j m)).mono ?_;unfold aP;obtain⟨P,x2,q⟩: ∃p x,m9 (b j)=(p,x):=⟨_,_,rfl⟩;have K:=b9 q;have M:c6 (∀c∈P,c<256):=by have:=oP (W0.o j m);rw[q]at this;exact this
   rw[q];rintro e w3 ⟨v3,rfl,v,J⟩;have b1:=b9 (a9 O.o J);have s2:=xJ (p7 v M.o);have s1:=xJ (U0.o.below J);have f1:=b9 (q9 v (Nat.le_trans HB.o.size O.o.size));obtain⟨ua,un,uc,H⟩: ∃x y z,v3= .slice x y z:=by obtain⟨x,z,e⟩:=y9 v;exact⟨x,_,z,e⟩
   subst H;have E:=b9 (T0.o.below b1.o);have F:=b9 (a9 HB.o b1.o);clear v J q m1 Z0 U0 O;by_cases s:p1=P
   ·have u:c6 (Mr G a b u5 (.int .i64 ((j:Int)+1)) w3):=⟨i+1,by rw[HJ.o];rfl,Z,by rw[AO (by rw[←HJ.o,V0.o,K.o];exact s)];exact E.o,F.o⟩;subst s;go_wp2_with fail;go_roundw
    case rel=>exact u.o
    case measure=>have:=HJ.o;simp[intOf];omega
   ·have k1:((BB p1).toList==(BB P).toList)=false:=by rw[NE Y0.o M.o];exact decide_eq_false s
    have g1:c6 ((m9 (a (i+1))).1≠(m9 (b (i+1))).1):=by show _≠_;rw[←HJ.o,V0.o,K.o];exact s
    clear s;have d1:c6 (WL G.heap.size (w3.alloc (Obj.cells #[.int .i64 (j:Int),.slice ua un uc] 77)) u5 (tO a b i)):=E.o.below (a8 _ _);have c1:c6 ((w3.alloc (Obj.cells #[.int .i64 (j:Int),.slice ua un uc] 77)).ownsRow G.heap.size 5 1 (.slice ua un uc) P.length (cb P)):=j8 f1.o (a8 _ _);have a1:c6 (f8 G (w3.alloc (Obj.cells #[.int .i64 (j:Int),.slice ua un uc] 77))):=a9 F.o (a8 _ _);go_upto_region 8 with fail
    go_upto_region 4 with (at_builtin;refine W8 (by rfl) (.tmp 35) (.tmp 39) (by rfl) G.heap.size _ (tO a b i) (by rfl) d1.o _ (j:Int) (.slice ua un uc) P (by rfl) (by simp[go_sem]) (by simp[go_sem]) c1.o M.o (by omega) (by have:=MS a b i;omega) a1.o.size ?_;intro v5 w5 D c0)
    have u:c6 (Mr G a b v5 (.int .i64 ((j:Int)+1)) w5):=⟨i+1,by rw[HJ.o];rfl,Z,by rw[uJ g1.o,←HJ.o,K.o];exact D,a1.o.trans c0⟩;clear D c0;go_wp2_with fail;go_roundw
    case rel=>exact u.o
    case measure=>have:=HJ.o;simp[intOf];omega
end
end
end Go.Proofs.YtfhoilcbhmeofaaGreat
