/- Slices as lists: of values, of flags, of acts, of rounds. -/
import Derived.Test.YtfhoilcbhmeofaaGreatB04
set_option maxRecDepth 100000
set_option maxHeartbeats 16000000
namespace Go.Proofs.YtfhoilcbhmeofaaGreat
open Go.RowKit
section
open Ieee Go.RowKit

attribute [local go_sem] aB K8
theorem pI{w w1:d9}{a b:Vl}
  (h:((w.alloc (Obj.cells #[Value.bool a.h,Value.int IntKind.u64 (a.b:Int)] 55)).alloc (Obj.cells #[Value.bool b.h,Value.int IntKind.u64 (b.b:Int)] 55)).alloc (Obj.cells #[Value.bool false,Value.int IntKind.u64 0] 55)=w1):
  c6 (w1.heap.size=w.heap.size+1+1+1)∧c6 (f8 w w1)∧c6 (VB w1 w.heap.size a)∧c6 (VB w1 (w.heap.size+1) b)∧c6 (VB w1 (w.heap.size+1+1) K0):=by
 subst h;refine⟨by simp[c6,go_sem],?_,?_,?_,?_⟩
 ·exact((a8 _ _).alloc (by simp[go_sem]) _).alloc (by simp[go_sem];omega) _
 all_goals (show VB _ _ _;constructor<;>simp[go_sem,K0])
theorem rY(k:Int){a b:Vl}(ha:a.ok)(hb:b.ok)(w:d9):
  Calls Tryz.prog 184 #[.int .i64 k,.agg #[.bool a.h,.int .u64 a.b],.agg #[.bool b.h,.int .u64 b.b]] w fun e w'=>e= .returned (.agg #[.bool (J4 k a b).h,.int .u64 (J4 k a b).b])∧f8 w w':=by
 unfold J4;obtain⟨A,K⟩:=c7 (r9 k a);obtain⟨B,J⟩:=c7 (r9 k b);have HA:c6 (A=r9 k a):=K;have HB:c6 (B=r9 k b):=J;have E:c6 A.ok:=by rw[K];exact iZ k ha
 have C:c6 B.ok:=by rw[J];exact iZ k hb
 rw[←K,←J];clear K J;go_in;go_wp2_with fail;generalize p:((w.alloc (Obj.cells #[Value.bool a.h,Value.int IntKind.u64 (a.b:Int)] 55)).alloc (Obj.cells #[Value.bool b.h,Value.int IntKind.u64 (b.b:Int)] 55)).alloc (Obj.cells #[Value.bool false,Value.int IntKind.u64 0] 55)=S;obtain⟨P,z,g,f,u⟩:=pI p;clear p;go_cut [] (fun wx=> ∃wy,f8 S wy∧wx=(((wy.setCell ⟨w.heap.size,0,none⟩ (.bool A.h)).setCell ⟨w.heap.size,1,none⟩ (.int .u64 A.b)).setCell ⟨w.heap.size+1,0,none⟩ (.bool B.h)).setCell ⟨w.heap.size+1,1,none⟩ (.int .u64 B.b))
 case first=>
  obtain⟨s,O,G,F⟩:=g.o;obtain⟨x,N,I,H⟩:=f.o;go_region_with ((go_at_call 132;refine(mW k (v:=⟨_,_⟩) (by first|exact ha|exact hb) _).mono ?_;(first|rw[show r9 k ⟨a.h,a.b⟩=A from HA.o.symm]|rw[show r9 k ⟨b.h,b.b⟩=B from HB.o.symm]);rintro e n ⟨rfl,d⟩;have c:f8 S n:=a9 (by first|assumption|exact(Below.refl _ _).drew) d;obtain⟨s,O,G,F⟩:=g.o.below c (c8 g.o.c0);obtain⟨x,N,I,H⟩:=f.o.below c (c8 f.o.c0)));all_goals go_wp2_with fail
  all_goals go_meet
  all_goals exact⟨_,c,rfl⟩
 case rest=>
  obtain⟨wy,l,rfl⟩:=hcut;generalize p:(((wy.setCell ⟨w.heap.size,0,none⟩ (.bool A.h)).setCell ⟨w.heap.size,1,none⟩ (.int .u64 A.b)).setCell ⟨w.heap.size+1,0,none⟩ (.bool B.h)).setCell ⟨w.heap.size+1,1,none⟩ (.int .u64 B.b)=w2
  have GA:c6 (VB w2 w.heap.size A):=by
   show VB _ _ _;rw[←p];exact(((g.o.below l (c8 g.o.c0)).set _ _).other (by simp) _).other (by simp) _
  have GB:c6 (VB w2 (w.heap.size+1) B):=by
   show VB _ _ _;rw[←p];exact(((f.o.below l (c8 f.o.c0)).other (by simp) _).other (by simp) _).set _ _
  have GC:c6 (VB w2 (w.heap.size+1+1) K0):=by
   show VB _ _ _;rw[←p];exact((((u.o.below l (c8 u.o.c0)).other (by simp;omega) _).other (by simp;omega) _).other (by simp) _).other (by simp) _
  have GW:c6 (f8 w w2):=by
   show Below _ _ _;rw[←p];exact C4 (C4 (a9 z.o l) _ (Nat.le_refl _) _ _) _ (Nat.le_succ _) _ _
  clear p l g f u z P HA HB;have y:w.heap.size≤w.heap.size+1+1:=by omega
  have m:=b9 y;clear y;obtain⟨s,O,G,F⟩:=GA.o;obtain⟨x,N,I,H⟩:=GB.o;obtain⟨r,q,R,Q⟩:=GC.o
  cases hAh:A.h
  ·rw[hAh]at s;have EJ:c6 (N5 k A B=B):=by show _=_;unfold N5;rw[if_pos hAh]
   clear hAh;go_wp2_with fail;refine bodyPost_ret (v:= .agg #[.bool B.h,.int .u64 B.b]) (by simp[results,Tryz.results184,go_sem,r,q]) rfl ⟨by rw[EJ.o],?_⟩;exact C4 GW.o _ m.o _ _
  cases hBh:B.h
  ·rw[hAh]at s;rw[hBh]at x;have EJ:c6 (N5 k A B=A):=by show _=_;unfold N5;rw[if_neg (by simp[hAh]),if_pos hBh]
   have D:c6 (A.h=true):=hAh;clear hAh hBh;go_wp2_with fail;refine bodyPost_ret (v:= .agg #[.bool true,.int .u64 A.b]) (by simp[results,Tryz.results184,go_sem,r,q]) rfl ⟨by rw[EJ.o,D.o],?_⟩;exact C4 GW.o _ m.o _ _
  rw[hAh]at s;rw[hBh]at x;have D:c6 (A.h=true):=hAh;have T:c6 (B.h=true):=hBh;have j:A=⟨true,A.b⟩:=by rw[←hAh]
  have i:B=⟨true,B.b⟩:=by rw[←hBh]
  by_cases M:k=3
  ·subst M;have EJ:c6 (N5 3 A B=⟨true,O6 A.b B.b⟩):=by show _=_;unfold N5;rw[if_neg (by simp[hAh]),if_neg (by simp[hBh]),if_pos rfl]
   clear hAh hBh;rw[j]at GA;rw[i]at GB;clear j i;go_wp2_with fail
   go_region_with (first
    |(go_at_call 181;refine(fI ⟨_,_⟩ _).mono ?_;rintro e n ⟨rfl,d⟩;have c:f8 w2 n:=a9 (by first|assumption|exact(Below.refl _ _).drew) d;obtain⟨s,O,G,F⟩:=GA.o.below c (c8 GA.o.c0);obtain⟨x,N,I,H⟩:=GB.o.below c (c8 GB.o.c0);clear d)
    |(go_at_call 212;refine(KU E.o C.o _).mono ?_;rintro e w' ⟨rfl,rfl⟩)
    |(go_at_call 179;refine(eZ _ _).mono ?_;rintro e n ⟨rfl,d⟩;have c:f8 w2 n:=a9 (by first|assumption|exact(Below.refl _ _).drew) d;obtain⟨r,q,R,Q⟩:=GC.o.below c (c8 GC.o.c0)))
   all_goals go_wp2_with fail
   all_goals refine bodyPost_ret (v:= .agg #[.bool true,.int .u64 (O6 A.b B.b)]) (by simp[results,Tryz.results184,go_sem,r,q]) rfl ⟨by rw[EJ.o],?_⟩
   all_goals exact C4 (a9 GW.o c) _ m.o _ _
  by_cases L:k=4
  ·subst L;have EJ:c6 (N5 4 A B=⟨true,V9 A.b B.b⟩):=by show _=_;unfold N5;rw[if_neg (by simp[hAh]),if_neg (by simp[hBh]),if_neg (by omega),if_pos rfl]
   clear hAh hBh;rw[j]at GA;rw[i]at GB;clear j i;go_wp2_with fail
   go_region_with (first
    |(go_at_call 181;refine(fI ⟨_,_⟩ _).mono ?_;rintro e n ⟨rfl,d⟩;have c:f8 w2 n:=a9 (by first|assumption|exact(Below.refl _ _).drew) d;obtain⟨s,O,G,F⟩:=GA.o.below c (c8 GA.o.c0);obtain⟨x,N,I,H⟩:=GB.o.below c (c8 GB.o.c0);clear d)
    |(go_at_call 213;refine(SV E.o C.o _).mono ?_;rintro e w' ⟨rfl,rfl⟩)
    |(go_at_call 179;refine(eZ _ _).mono ?_;rintro e n ⟨rfl,d⟩;have c:f8 w2 n:=a9 (by first|assumption|exact(Below.refl _ _).drew) d;obtain⟨r,q,R,Q⟩:=GC.o.below c (c8 GC.o.c0)))
   all_goals go_wp2_with fail
   all_goals refine bodyPost_ret (v:= .agg #[.bool true,.int .u64 (V9 A.b B.b)]) (by simp[results,Tryz.results184,go_sem,r,q]) rfl ⟨by rw[EJ.o],?_⟩
   all_goals exact C4 (a9 GW.o c) _ m.o _ _
  ·have EJ:c6 (N5 k A B=⟨true,(A.b+B.b)%18446744073709551616⟩):=by show _=_;unfold N5;rw[if_neg (by simp[hAh]),if_neg (by simp[hBh]),if_neg M,if_neg L]
   have es:IntKind.u64.wrap ((A.b:Int)+(B.b:Int))=(((A.b+B.b)%18446744073709551616:Nat):Int):=by rw[IntKind.wrap_u64];omega
   obtain⟨sm,t⟩:=c7 ((A.b+B.b)%18446744073709551616);rw[←t]at es;have HS:c6 (sm=(A.b+B.b)%18446744073709551616):=t;clear t;have W:=fS M;have U:=fS L;clear hAh hBh j i M L;go_wp2_with fail;refine bodyPost_ret (v:= .agg #[.bool true,.int .u64 sm]) (by simp[results,Tryz.results184,go_sem,r,q]) rfl ⟨by rw[EJ.o,HS.o],?_⟩;exact C4 GW.o _ m.o _ _
end
section
open Ieee Go.RowKit

attribute [local go_sem] aB K8
theorem pB(k:Int){a b:Vl}(ha:a.ok)(hb:b.ok)(w:d9):
  Calls Tryz.prog 176 #[.int .i64 k,.agg #[.bool a.h,.int .u64 a.b],.agg #[.bool b.h,.int .u64 b.b]] w fun e w'=>e= .returned (.agg #[.bool (J4 k a b).h,.int .u64 (J4 k a b).b])∧f8 w w':=by
 unfold J4;obtain⟨A,O⟩:=c7 (r9 k a);obtain⟨B,N⟩:=c7 (r9 k b);have HA:c6 (A=r9 k a):=O;have HB:c6 (B=r9 k b):=N;have j:c6 A.ok:=by rw[O];exact iZ k ha
 have i:c6 B.ok:=by rw[N];exact iZ k hb
 rw[←O,←N];clear O N;go_in;go_wp2_with fail;refine(N3 k ha _).mono ?_;rw[←HA.o];rintro e C ⟨rfl,f⟩;obtain⟨S,D,u,t,s⟩:=pI (w:=w) (a:=a) (b:=b) rfl;have L:=u.o.below f (c8 u.o.c0);have J:=t.o.below f (c8 t.o.c0);have H:=s.o.below f (c8 s.o.c0);have F:=a9 D.o f;have n:c6 (VB ((C.setCell ⟨w.heap.size,0,none⟩ (.bool A.h)).setCell ⟨w.heap.size,1,none⟩ (.int .u64 A.b)) w.heap.size A):=L.set _ _;have m:c6 (VB ((C.setCell ⟨w.heap.size,0,none⟩ (.bool A.h)).setCell ⟨w.heap.size,1,none⟩ (.int .u64 A.b)) (w.heap.size+1) b):=(J.other (by simp) _).other (by simp) _;have l:c6 (VB ((C.setCell ⟨w.heap.size,0,none⟩ (.bool A.h)).setCell ⟨w.heap.size,1,none⟩ (.int .u64 A.b)) (w.heap.size+1+1) K0):=(H.other (by simp;omega) _).other (by simp;omega) _;have y:c6 (f8 w ((C.setCell ⟨w.heap.size,0,none⟩ (.bool A.h)).setCell ⟨w.heap.size,1,none⟩ (.int .u64 A.b))):=C4 F _ (Nat.le_refl _) _ _;obtain⟨c0,c1,z0,z1⟩:=L;obtain⟨d0,Z,W,U⟩:=J;clear f H F S D u t s;go_wp2_with fail;generalize M:(C.setCell ⟨w.heap.size,0,none⟩ (.bool A.h)).setCell ⟨w.heap.size,1,none⟩ (.int .u64 A.b)=w3 at n m l y⊢;clear M c0 c1 z0 z1 d0 Z W U;refine(N3 k hb _).mono ?_;rw[←HB.o];rintro e z ⟨rfl,d⟩;have K:=n.o.below d (c8 n.o.c0);have I:=m.o.below d (c8 m.o.c0);have G:=l.o.below d (c8 l.o.c0);have E:=a9 y.o d;have GA:c6 (VB ((z.setCell ⟨w.heap.size+1,0,none⟩ (.bool B.h)).setCell ⟨w.heap.size+1,1,none⟩ (.int .u64 B.b)) w.heap.size A):=(K.other (by simp) _).other (by simp) _;have GB:c6 (VB ((z.setCell ⟨w.heap.size+1,0,none⟩ (.bool B.h)).setCell ⟨w.heap.size+1,1,none⟩ (.int .u64 B.b)) (w.heap.size+1) B):=I.set _ _;have GC:c6 (VB ((z.setCell ⟨w.heap.size+1,0,none⟩ (.bool B.h)).setCell ⟨w.heap.size+1,1,none⟩ (.int .u64 B.b)) (w.heap.size+1+1) K0):=(G.other (by simp) _).other (by simp) _;have GW:c6 (f8 w ((z.setCell ⟨w.heap.size+1,0,none⟩ (.bool B.h)).setCell ⟨w.heap.size+1,1,none⟩ (.int .u64 B.b))):=C4 E _ (Nat.le_succ _) _ _;obtain⟨d0,Z,W,U⟩:=I;clear d G E n m l y K HA HB;have g:c6 (w.heap.size≤w.heap.size+1+1):=by show _≤_;omega
 generalize M:(z.setCell ⟨w.heap.size+1,0,none⟩ (.bool B.h)).setCell ⟨w.heap.size+1,1,none⟩ (.int .u64 B.b)=w5 at GA GB GC GW;obtain⟨R,a1,_,_⟩:=GA.o;obtain⟨b0,b1,_,_⟩:=GB.o;obtain⟨q,p,Y,X⟩:=GC.o
 cases hAh:A.h
 ·rw[hAh]at R;have EJ:c6 (N5 k A B=B):=by show _=_;unfold N5;rw[if_pos hAh]
  clear hAh;go_wp2_with fail;refine bodyPost_ret (v:= .agg #[.bool B.h,.int .u64 B.b]) (by simp[results,Tryz.results176,go_sem,q,p]) rfl ⟨by rw[EJ.o],?_⟩;exact C4 GW.o _ g.o _ _
 cases hBh:B.h
 ·rw[hAh]at R;rw[hBh]at b0;have EJ:c6 (N5 k A B=A):=by show _=_;unfold N5;rw[if_neg (by simp[hAh]),if_pos hBh]
  have T:c6 (A.h=true):=hAh;clear hAh;rw[hBh]at M;clear hBh;go_wp2_with fail;refine bodyPost_ret (v:= .agg #[.bool true,.int .u64 A.b]) (by simp[results,Tryz.results176,go_sem,q,p]) rfl ⟨by rw[EJ.o,T.o],?_⟩;exact C4 GW.o _ g.o _ _
 rw[hAh]at R;rw[hBh]at b0;rw[hBh]at M;by_cases Q:k=3
 ·subst Q;have EJ:c6 (N5 3 A B=⟨true,O6 A.b B.b⟩):=by show _=_;unfold N5;rw[if_neg (by simp[hAh]),if_neg (by simp[hBh]),if_pos rfl]
  have EO:c6 (UF 3 (O6 A.b B.b)=⟨true,O6 A.b B.b⟩):=by show _=_;unfold UF;rw[if_neg (by omega),if_neg (by omega),if_pos (by omega),jS]
  have HL:c6 (O6 A.b B.b<18446744073709551616):=vL j.o i.o;clear hAh hBh
  go_wp2_with (first
   |(go_at_call 174;refine(eA _ _).mono ?_;rintro e w' ⟨rfl,rfl⟩)
   |(go_at_call 206;refine(BW j.o i.o _).mono ?_;rintro e w' ⟨rfl,rfl⟩))
  refine(rJ 3 HL.o _).mono ?_;rw[EO.o];rintro e w6 ⟨rfl,c⟩;obtain⟨q,p,Y,X⟩:=GC.o.below c (c8 GC.o.c0);have x:=b9 c;clear c;go_wp2_with fail;refine bodyPost_ret (v:= .agg #[.bool true,.int .u64 (O6 A.b B.b)]) (by simp[results,Tryz.results176,go_sem,q,p]) rfl ⟨by rw[EJ.o],?_⟩;exact C4 (a9 GW.o x.o) _ g.o _ _
 by_cases P:k=4
 ·subst P;have EJ:c6 (N5 4 A B=⟨true,V9 A.b B.b⟩):=by show _=_;unfold N5;rw[if_neg (by simp[hAh]),if_neg (by simp[hBh]),if_neg (by omega),if_pos rfl]
  have EO:c6 (UF 4 (V9 A.b B.b)=⟨true,V9 A.b B.b⟩):=by show _=_;unfold UF;rw[if_neg (by omega),if_neg (by omega),if_pos (by omega),nN]
  have HL:c6 (V9 A.b B.b<18446744073709551616):=DQ j.o i.o;clear hAh hBh
  go_wp2_with (first
   |(go_at_call 174;refine(eA _ _).mono ?_;rintro e w' ⟨rfl,rfl⟩)
   |(go_at_call 207;refine(JS j.o i.o _).mono ?_;rintro e w' ⟨rfl,rfl⟩))
  refine(rJ 4 HL.o _).mono ?_;rw[EO.o];rintro e w6 ⟨rfl,c⟩;obtain⟨q,p,Y,X⟩:=GC.o.below c (c8 GC.o.c0);have x:=b9 c;clear c;go_wp2_with fail;refine bodyPost_ret (v:= .agg #[.bool true,.int .u64 (V9 A.b B.b)]) (by simp[results,Tryz.results176,go_sem,q,p]) rfl ⟨by rw[EJ.o],?_⟩;exact C4 (a9 GW.o x.o) _ g.o _ _
 ·have EJ:c6 (N5 k A B=⟨true,(A.b+B.b)%18446744073709551616⟩):=by show _=_;unfold N5;rw[if_neg (by simp[hAh]),if_neg (by simp[hBh]),if_neg Q,if_neg P]
  have es:IntKind.u64.wrap ((A.b:Int)+(B.b:Int))=(((A.b+B.b)%18446744073709551616:Nat):Int):=by rw[IntKind.wrap_u64];omega
  obtain⟨sm,r⟩:=c7 ((A.b+B.b)%18446744073709551616);rw[←r]at es;have HS:c6 (sm=(A.b+B.b)%18446744073709551616):=r;clear r;have b3:=fS Q;have b4:=fS P;clear hAh hBh Q P;go_wp2_with (go_at_call 174;refine(eA _ _).mono ?_;rintro e w' ⟨rfl,rfl⟩);refine bodyPost_ret (v:= .agg #[.bool true,.int .u64 sm]) (by simp[results,Tryz.results176,go_sem,q,p]) rfl ⟨by rw[EJ.o,HS.o],?_⟩;exact C4 GW.o _ g.o _ _
end
section
open Ieee Go.RowKit

structure CB(w:d9)(b:Nat)(c:Cl):Prop where
 c0:w.cell? ⟨b,0,none⟩=some (.int .u64 c.k)
 c1:w.cell? ⟨b,1,none⟩=some (.bool c.p.h)
 c2:w.cell? ⟨b,2,none⟩=some (.int .u64 c.p.b)
 c3:w.cell? ⟨b,3,none⟩=some (.bool c.c.h)
 c4:w.cell? ⟨b,4,none⟩=some (.int .u64 c.c.b)
 c5:w.cell? ⟨b,5,none⟩=some (.int .i64 c.n)
 z: ∀j,w.frozen? ⟨b,j,none⟩=false
theorem CB.below{w w':d9}{b B:Nat}{c:Cl}(h:CB w b c)(hb:Below B w w')(hl:b<B):CB w' b c:=
 ⟨by rw[hb.cell (p:=⟨b,0,none⟩) hl];exact h.c0,by rw[hb.cell (p:=⟨b,1,none⟩) hl];exact h.c1,by rw[hb.cell (p:=⟨b,2,none⟩) hl];exact h.c2,by rw[hb.cell (p:=⟨b,3,none⟩) hl];exact h.c3,by rw[hb.cell (p:=⟨b,4,none⟩) hl];exact h.c4,by rw[hb.cell (p:=⟨b,5,none⟩) hl];exact h.c5,fun j=>by rw[hb.frozen (p:=⟨b,j,none⟩) hl];exact h.z j⟩
theorem B0(w:d9)(c:Cl):CB (w.alloc (Obj.cells #[.int .u64 c.k,.bool c.p.h,.int .u64 c.p.b,.bool c.c.h,.int .u64 c.c.b,.int .i64 c.n] 132)) w.heap.size c:=by
 constructor<;>simp[go_sem]
theorem CB.other{w:d9}{b:Nat}{c:Cl}(h:CB w b c){p:Addr}(hne:b≠p.block)(u:Value):CB (w.setCell p u) b c:=by
 obtain⟨i,g,f,e,d,a,z⟩:=h;refine⟨?_,?_,?_,?_,?_,?_,fun j=>by simpa[go_sem]using z j⟩;all_goals (rw[World.cell?_setCell_other _ _ _ _ (by rintro⟨⟩;exact hne rfl)];assumption)
theorem sJ:Tryz.prog.eqGuardType Tryz.prog.depth 132=false:=by kernel_rfl
theorem P4(k:Int){v:Vl}(hv:v.ok)(w:d9):
  Calls Tryz.prog 164 #[.int .i64 k,.agg #[.bool v.h,.int .u64 v.b]] w fun e w'=>e= .returned (.bool (AK (r9 k v) v))∧f8 w w':=by
 have m:=bH;have n:=zQ (r9 k v) v;go_in;go_wp2_with fail;generalize a:w.alloc (Obj.cells #[Value.bool v.h,Value.int IntKind.u64 (v.b:Int)] 55)=w1;have HV:c6 (VB w1 w.heap.size v):=by show VB _ _ _;rw[←a];exact Gj w v.h v.b
 have HB:c6 (f8 w w1):=by show Below _ _ _;rw[←a];exact a8 _ _
 clear a;obtain⟨l,j,g,f⟩:=HV.o;go_region_with (go_at_call 132;refine(mW k hv _).mono ?_;rintro e i ⟨rfl,d⟩;have c:f8 w1 i:=a9 (by first|assumption|exact(Below.refl _ _).drew) d;obtain⟨l,j,g,f⟩:=HV.o.below c (c8 HV.o.c0));all_goals go_wp2_with fail
 all_goals go_ret
 all_goals exact⟨rfl,a9 HB.o (by assumption)⟩
end
section
open Ieee Go.RowKit

theorem wM(k:Int){c:Cl}(hc:c.ok)(w:d9):
  Calls Tryz.prog 90 #[.int .i64 k,.agg #[.int .u64 c.k,.bool c.p.h,.int .u64 c.p.b,.bool c.c.h,.int .u64 c.c.b,.int .i64 c.n]] w fun e w'=>e= .returned (.bool (fK k c))∧f8 w w':=by
 unfold fK;have HC:c6 c.ok:=hc;clear hc;obtain⟨A,i⟩: ∃a,a=AK (r9 k c.p) c.p:=⟨_,rfl⟩;obtain⟨z,g⟩: ∃a,a=AK (r9 k c.c) c.c:=⟨_,rfl⟩;have y:c6 (AK (r9 k c.p) c.p=A):=i.symm;have x:c6 (AK (r9 k c.c) c.c=z):=g.symm;rw[←i,←g];clear i g;go_in;go_wp2_with fail;generalize v:w.alloc (Obj.cells #[.int .u64 c.k,.bool c.p.h,.int .u64 c.p.b,.bool c.c.h,.int .u64 c.c.b,.int .i64 c.n] 132)=w1;have HV:c6 (CB w1 w.heap.size c):=by show CB _ _ _;rw[←v];exact B0 w c
 have HB:c6 (f8 w w1):=by show Below _ _ _;rw[←v];exact a8 _ _
 clear v;obtain⟨s,r,q,m,l,j,zz⟩:=HV.o
 cases hk:s9 k
 ·go_wp2_with (go_at_call 75;refine(M2 _ _).mono ?_;rintro e w' ⟨rfl,rfl⟩);go_ret;exact⟨by simp[hk],HB.o⟩
 cases A
 ·go_wp2_with (first
   |(go_at_call 75;refine(M2 _ _).mono ?_;rintro e w' ⟨rfl,rfl⟩)
   |(go_at_call 164;have u:=d;clear u;refine(P4 _ HC.o.2 _).mono ?_;rw[x.o];rintro e t ⟨rfl,f⟩;have d:=a9 d f;obtain⟨s,r,q,m,l,j,zz⟩:=HV.o.below d (c8 HV.o.c0);clear f)
   |(go_at_call 164;refine(P4 _ HC.o.1 _).mono ?_;rw[y.o];rintro e t ⟨rfl,f⟩;have d:=f;obtain⟨s,r,q,m,l,j,zz⟩:=HV.o.below d (c8 HV.o.c0);clear f))
  go_ret;exact⟨by simp,a9 HB.o (by assumption)⟩
 cases z
 ·go_wp2_with (first
   |(go_at_call 75;refine(M2 _ _).mono ?_;rintro e w' ⟨rfl,rfl⟩)
   |(go_at_call 164;have u:=d;clear u;refine(P4 _ HC.o.2 _).mono ?_;rw[x.o];rintro e t ⟨rfl,f⟩;have d:=a9 d f;obtain⟨s,r,q,m,l,j,zz⟩:=HV.o.below d (c8 HV.o.c0);clear f)
   |(go_at_call 164;refine(P4 _ HC.o.1 _).mono ?_;rw[y.o];rintro e t ⟨rfl,f⟩;have d:=f;obtain⟨s,r,q,m,l,j,zz⟩:=HV.o.below d (c8 HV.o.c0);clear f))
  go_ret;exact⟨by simp,a9 HB.o (by assumption)⟩
 go_wp2_with (first
   |(go_at_call 75;refine(M2 _ _).mono ?_;rintro e w' ⟨rfl,rfl⟩)
   |(go_at_call 164;have u:=d;clear u;refine(P4 _ HC.o.2 _).mono ?_;rw[x.o];rintro e t ⟨rfl,f⟩;have d:=a9 d f;obtain⟨s,r,q,m,l,j,zz⟩:=HV.o.below d (c8 HV.o.c0);clear f)
   |(go_at_call 164;refine(P4 _ HC.o.1 _).mono ?_;rw[y.o];rintro e t ⟨rfl,f⟩;have d:=f;obtain⟨s,r,q,m,l,j,zz⟩:=HV.o.below d (c8 HV.o.c0);clear f))
 all_goals (go_ret;exact⟨by(try simp_all)<;>omega,a9 HB.o (by assumption)⟩)
end
section
open Ieee Go.RowKit

theorem Y6(k:Int){c:Cl}(hc:c.ok)(w:d9):
  Calls Tryz.prog 107 #[.int .i64 k,.agg #[.int .u64 c.k,.bool c.p.h,.int .u64 c.p.b,.bool c.c.h,.int .u64 c.c.b,.int .i64 c.n]] w fun e w'=>e= .returned (.bool (fK k c))∧f8 w w':=by
 unfold fK;have HC:c6 c.ok:=hc;clear hc;have A:=bH;have x:=zQ (r9 k c.p) c.p;have v:=zQ (r9 k c.c) c.c;obtain⟨z,s⟩: ∃a,a=AK (r9 k c.p) c.p:=⟨_,rfl⟩;obtain⟨y,r⟩: ∃a,a=AK (r9 k c.c) c.c:=⟨_,rfl⟩;rw[←s]at x;rw[←r]at v;rw[←s,←r];clear s r;go_in;go_wp2_with fail;generalize u:w.alloc (Obj.cells #[.int .u64 c.k,.bool c.p.h,.int .u64 c.p.b,.bool c.c.h,.int .u64 c.c.b,.int .i64 c.n] 132)=j;have HV:c6 (CB j w.heap.size c):=by show CB _ _ _;rw[←u];exact B0 w c
 have HB:c6 (f8 w j):=by show Below _ _ _;rw[←u];exact a8 _ _
 clear u;have G: ∀wx,f8 j wx→wx.cell? ⟨w.heap.size,0,none⟩=some (.int .u64 c.k):=fun wx h=>(HV.o.below h (c8 HV.o.c0)).c0;have F: ∀wx,f8 j wx→wx.cell? ⟨w.heap.size,1,none⟩=some (.bool c.p.h):=fun wx h=>(HV.o.below h (c8 HV.o.c0)).c1;have E: ∀wx,f8 j wx→wx.cell? ⟨w.heap.size,2,none⟩=some (.int .u64 c.p.b):=fun wx h=>(HV.o.below h (c8 HV.o.c0)).c2;have D: ∀wx,f8 j wx→wx.cell? ⟨w.heap.size,3,none⟩=some (.bool c.c.h):=fun wx h=>(HV.o.below h (c8 HV.o.c0)).c3;have C: ∀wx,f8 j wx→wx.cell? ⟨w.heap.size,4,none⟩=some (.int .u64 c.c.b):=fun wx h=>(HV.o.below h (c8 HV.o.c0)).c4;have B: ∀wx,f8 j wx→wx.cell? ⟨w.heap.size,5,none⟩=some (.int .i64 c.n):=fun wx h=>(HV.o.below h (c8 HV.o.c0)).c5
 cases q:s9 k
 ·skip
  refine wp_region_noPanic ?_;refine wp_region_held_drew (S:=fun wx=>f8 j wx) (by kernel_rfl) ?_ fun d=>?_
  ·exact(Below.refl _ _).drew
  refine g6 0 5 rfl (by assumption) ?_;refine C7 1 6 rfl fun K g=>?_;go_simp;refine(t8 _ _).mono ?_;rw[q];rintro e l ⟨rfl,m⟩;subst m;go_simp;refine g.out _ _ ?_ fun d=>?_
  ·exact d
  clear g K;try simp only[Act.put,zz]
  refine g6 2 7 rfl (by assumption) ?_;refine C2 3 8 rfl (by assumption) ?_;try simp only[Act.put,zz]
  refine C2 4 9 rfl (by assumption) ?_;try simp only[Act.put,zz]
  refine C2 5 10 rfl (by assumption) ?_;try simp only[Act.put,zz]
  refine C2 6 11 rfl (by assumption) ?_;try simp only[Act.put,zz]
  refine C2 7 12 rfl (by assumption) ?_;try simp only[Act.put,zz]
  refine C2 8 13 rfl (by assumption) ?_;try simp only[Act.put,zz]
  refine C2 9 14 rfl (by assumption) ?_;try simp only[Act.put,zz]
  refine g6 10 15 rfl (by assumption) ?_;refine g6 11 16 rfl (by assumption) ?_;refine C2 12 17 rfl (by assumption) ?_;try simp only[Act.put,zz]
  refine C2 13 18 rfl (by assumption) ?_;try simp only[Act.put,zz]
  refine C2 14 19 rfl (by assumption) ?_;try simp only[Act.put,zz]
  refine C2 15 20 rfl (by assumption) ?_;try simp only[Act.put,zz]
  refine C2 16 21 rfl (by assumption) ?_;try simp only[Act.put,zz]
  refine C2 17 22 rfl (by assumption) ?_;try simp only[Act.put,zz]
  refine C2 18 23 rfl (by assumption) ?_;try simp only[Act.put,zz]
  refine g6 19 24 rfl (by assumption) ?_;refine g6 20 25 rfl (by assumption) ?_;refine C2 21 26 rfl (by assumption) ?_;try simp only[Act.put,zz]
  refine C2 22 27 rfl (by assumption) ?_;try simp only[Act.put,zz]
  refine C2 23 28 rfl (by assumption) ?_;try simp only[Act.put,zz]
  refine g6 24 29 rfl (by assumption) ?_;refine g6 25 30 rfl (by assumption) ?_;refine C2 26 31 rfl (by assumption) ?_;try simp only[Act.put,zz]
  refine C2 27 32 rfl (by assumption) ?_;try simp only[Act.put,zz]
  refine C2 28 33 rfl (by assumption) ?_;try simp only[Act.put,zz]
  refine g6 29 34 rfl (by assumption) ?_;refine g6 30 4 rfl (by assumption) ?_;refine wpAnyH_done (by kernel_rfl) ?_ _;refine NoPanic.normal ?_;go_wp2_with fail;go_ret;exact⟨by simp[q],a9 HB.o (by assumption)⟩
 cases z
 ·skip
  refine wp_region_noPanic ?_;refine wp_region_held_drew (S:=fun wx=>f8 j wx) (by kernel_rfl) ?_ fun d=>?_
  ·exact(Below.refl _ _).drew
  refine g6 0 5 rfl (by assumption) ?_;refine C7 1 6 rfl fun K g=>?_;go_simp;refine(t8 _ _).mono ?_;rw[q];rintro e l ⟨rfl,m⟩;subst m;go_simp;refine g.out _ _ ?_ fun d=>?_
  ·exact d
  clear g K;try simp only[Act.put,zz]
  refine g6 2 7 rfl (by assumption) ?_;refine g6 3 8 rfl (by assumption) ?_;refine g6 4 9 rfl (by assumption) ?_;refine g6 5 10 rfl (by assumption) ?_;refine g6 7 12 rfl (by assumption) ?_;refine g6 8 13 rfl (by assumption) ?_;refine C7 6 11 rfl fun K g=>?_;go_simp;refine(N3 _ HC.o.1 _).mono ?_;rintro e l ⟨rfl,f⟩;have i:=a9 d f;clear f d;go_simp;refine g.out _ _ ?_ fun d=>?_
  ·exact i
  clear g K;try simp only[Act.put,zz]
  refine g6 9 14 rfl (by assumption) ?_;refine g6 10 15 rfl (by assumption) ?_;refine g6 11 16 rfl (by assumption) ?_;refine C2 12 17 rfl (by assumption) ?_;try simp only[Act.put,zz]
  refine C2 13 18 rfl (by assumption) ?_;try simp only[Act.put,zz]
  refine C2 14 19 rfl (by assumption) ?_;try simp only[Act.put,zz]
  refine C2 15 20 rfl (by assumption) ?_;try simp only[Act.put,zz]
  refine C2 16 21 rfl (by assumption) ?_;try simp only[Act.put,zz]
  refine C2 17 22 rfl (by assumption) ?_;try simp only[Act.put,zz]
  refine C2 18 23 rfl (by assumption) ?_;try simp only[Act.put,zz]
  refine g6 19 24 rfl (by assumption) ?_;refine g6 20 25 rfl (by assumption) ?_;refine C2 21 26 rfl (by assumption) ?_;try simp only[Act.put,zz]
  refine C2 22 27 rfl (by assumption) ?_;try simp only[Act.put,zz]
  refine C2 23 28 rfl (by assumption) ?_;try simp only[Act.put,zz]
  refine g6 24 29 rfl (by assumption) ?_;refine g6 25 30 rfl (by assumption) ?_;refine C2 26 31 rfl (by assumption) ?_;try simp only[Act.put,zz]
  refine C2 27 32 rfl (by assumption) ?_;try simp only[Act.put,zz]
  refine C2 28 33 rfl (by assumption) ?_;try simp only[Act.put,zz]
  refine g6 29 34 rfl (by assumption) ?_;refine g6 30 4 rfl (by assumption) ?_;refine wpAnyH_done (by kernel_rfl) ?_ _;refine NoPanic.normal ?_;go_wp2_with fail;go_ret;exact⟨by simp,a9 HB.o (by assumption)⟩
 cases y
 ·skip
  refine wp_region_noPanic ?_;refine wp_region_held_drew (S:=fun wx=>f8 j wx) (by kernel_rfl) ?_ fun d=>?_
  ·exact(Below.refl _ _).drew
  refine g6 0 5 rfl (by assumption) ?_;refine C7 1 6 rfl fun K g=>?_;go_simp;refine(t8 _ _).mono ?_;rw[q];rintro e l ⟨rfl,m⟩;subst m;go_simp;refine g.out _ _ ?_ fun d=>?_
  ·exact d
  clear g K;try simp only[Act.put,zz]
  refine g6 2 7 rfl (by assumption) ?_;refine g6 3 8 rfl (by assumption) ?_;refine g6 4 9 rfl (by assumption) ?_;refine g6 5 10 rfl (by assumption) ?_;refine g6 7 12 rfl (by assumption) ?_;refine g6 8 13 rfl (by assumption) ?_;refine C7 6 11 rfl fun K g=>?_;go_simp;refine(N3 _ HC.o.1 _).mono ?_;rintro e l ⟨rfl,f⟩;have i:=a9 d f;clear f d;go_simp;refine g.out _ _ ?_ fun d=>?_
  ·exact i
  clear g K;try simp only[Act.put,zz]
  refine g6 9 14 rfl (by assumption) ?_;refine g6 10 15 rfl (by assumption) ?_;refine g6 11 16 rfl (by assumption) ?_;refine g6 12 17 rfl (by assumption) ?_;refine g6 13 18 rfl (by assumption) ?_;refine g6 14 19 rfl (by assumption) ?_;refine g6 16 21 rfl (by assumption) ?_;refine g6 17 22 rfl (by assumption) ?_;refine C7 15 20 rfl fun K g=>?_;go_simp;refine(N3 _ HC.o.2 _).mono ?_;rintro e l ⟨rfl,f⟩;have i:=a9 d f;clear f d;go_simp;refine g.out _ _ ?_ fun d=>?_
  ·exact i
  clear g K;try simp only[Act.put,zz]
  refine g6 18 23 rfl (by assumption) ?_;refine g6 19 24 rfl (by assumption) ?_;refine g6 20 25 rfl (by assumption) ?_;refine C2 21 26 rfl (by assumption) ?_;try simp only[Act.put,zz]
  refine C2 22 27 rfl (by assumption) ?_;try simp only[Act.put,zz]
  refine C2 23 28 rfl (by assumption) ?_;try simp only[Act.put,zz]
  refine g6 24 29 rfl (by assumption) ?_;refine g6 25 30 rfl (by assumption) ?_;refine C2 26 31 rfl (by assumption) ?_;try simp only[Act.put,zz]
  refine C2 27 32 rfl (by assumption) ?_;try simp only[Act.put,zz]
  refine C2 28 33 rfl (by assumption) ?_;try simp only[Act.put,zz]
  refine g6 29 34 rfl (by assumption) ?_;refine g6 30 4 rfl (by assumption) ?_;refine wpAnyH_done (by kernel_rfl) ?_ _;refine NoPanic.normal ?_;go_wp2_with fail;go_ret;exact⟨by simp,a9 HB.o (by assumption)⟩
 by_cases t:0≤c.n
 ·have hd:=decide_eq_true t;refine wp_region_noPanic ?_;refine wp_region_held_drew (S:=fun wx=>f8 j wx) (by kernel_rfl) ?_ fun d=>?_
  ·exact(Below.refl _ _).drew
  refine g6 0 5 rfl (by assumption) ?_;refine C7 1 6 rfl fun K g=>?_;go_simp;refine(t8 _ _).mono ?_;rw[q];rintro e l ⟨rfl,m⟩;subst m;go_simp;refine g.out _ _ ?_ fun d=>?_
  ·exact d
  clear g K;try simp only[Act.put,zz]
  refine g6 2 7 rfl (by assumption) ?_;refine g6 3 8 rfl (by assumption) ?_;refine g6 4 9 rfl (by assumption) ?_;refine g6 5 10 rfl (by assumption) ?_;refine g6 7 12 rfl (by assumption) ?_;refine g6 8 13 rfl (by assumption) ?_;refine C7 6 11 rfl fun K g=>?_;go_simp;refine(N3 _ HC.o.1 _).mono ?_;rintro e l ⟨rfl,f⟩;have i:=a9 d f;clear f d;go_simp;refine g.out _ _ ?_ fun d=>?_
  ·exact i
  clear g K;try simp only[Act.put,zz]
  refine g6 9 14 rfl (by assumption) ?_;refine g6 10 15 rfl (by assumption) ?_;refine g6 11 16 rfl (by assumption) ?_;refine g6 12 17 rfl (by assumption) ?_;refine g6 13 18 rfl (by assumption) ?_;refine g6 14 19 rfl (by assumption) ?_;refine g6 16 21 rfl (by assumption) ?_;refine g6 17 22 rfl (by assumption) ?_;refine C7 15 20 rfl fun K g=>?_;go_simp;refine(N3 _ HC.o.2 _).mono ?_;rintro e l ⟨rfl,f⟩;have i:=a9 d f;clear f d;go_simp;refine g.out _ _ ?_ fun d=>?_
  ·exact i
  clear g K;try simp only[Act.put,zz]
  refine g6 18 23 rfl (by assumption) ?_;refine g6 19 24 rfl (by assumption) ?_;refine g6 20 25 rfl (by assumption) ?_;refine g6 21 26 rfl (by assumption) ?_;refine g6 22 27 rfl (by assumption) ?_;refine g6 23 28 rfl (by assumption) ?_;refine g6 24 29 rfl (by assumption) ?_;refine g6 25 30 rfl (by assumption) ?_;refine g6 26 31 rfl (by assumption) ?_;refine g6 27 32 rfl (by assumption) ?_;refine g6 28 33 rfl (by assumption) ?_;refine g6 29 34 rfl (by assumption) ?_;refine g6 30 4 rfl (by assumption) ?_;refine wpAnyH_done (by kernel_rfl) ?_ _;refine NoPanic.normal ?_;go_wp2_with fail;go_ret;exact⟨by simp[t,q],a9 HB.o (by assumption)⟩
 ·have hd:=decide_eq_false t;refine wp_region_noPanic ?_;refine wp_region_held_drew (S:=fun wx=>f8 j wx) (by kernel_rfl) ?_ fun d=>?_
  ·exact(Below.refl _ _).drew
  refine g6 0 5 rfl (by assumption) ?_;refine C7 1 6 rfl fun K g=>?_;go_simp;refine(t8 _ _).mono ?_;rw[q];rintro e l ⟨rfl,m⟩;subst m;go_simp;refine g.out _ _ ?_ fun d=>?_
  ·exact d
  clear g K;try simp only[Act.put,zz]
  refine g6 2 7 rfl (by assumption) ?_;refine g6 3 8 rfl (by assumption) ?_;refine g6 4 9 rfl (by assumption) ?_;refine g6 5 10 rfl (by assumption) ?_;refine g6 7 12 rfl (by assumption) ?_;refine g6 8 13 rfl (by assumption) ?_;refine C7 6 11 rfl fun K g=>?_;go_simp;refine(N3 _ HC.o.1 _).mono ?_;rintro e l ⟨rfl,f⟩;have i:=a9 d f;clear f d;go_simp;refine g.out _ _ ?_ fun d=>?_
  ·exact i
  clear g K;try simp only[Act.put,zz]
  refine g6 9 14 rfl (by assumption) ?_;refine g6 10 15 rfl (by assumption) ?_;refine g6 11 16 rfl (by assumption) ?_;refine g6 12 17 rfl (by assumption) ?_;refine g6 13 18 rfl (by assumption) ?_;refine g6 14 19 rfl (by assumption) ?_;refine g6 16 21 rfl (by assumption) ?_;refine g6 17 22 rfl (by assumption) ?_;refine C7 15 20 rfl fun K g=>?_;go_simp;refine(N3 _ HC.o.2 _).mono ?_;rintro e l ⟨rfl,f⟩;have i:=a9 d f;clear f d;go_simp;refine g.out _ _ ?_ fun d=>?_
  ·exact i
  clear g K;try simp only[Act.put,zz]
  refine g6 18 23 rfl (by assumption) ?_;refine g6 19 24 rfl (by assumption) ?_;refine g6 20 25 rfl (by assumption) ?_;refine g6 21 26 rfl (by assumption) ?_;refine g6 22 27 rfl (by assumption) ?_;refine g6 23 28 rfl (by assumption) ?_;refine g6 24 29 rfl (by assumption) ?_;refine g6 25 30 rfl (by assumption) ?_;refine C2 26 31 rfl (by assumption) ?_;try simp only[Act.put,zz]
  refine C2 27 32 rfl (by assumption) ?_;try simp only[Act.put,zz]
  refine C2 28 33 rfl (by assumption) ?_;try simp only[Act.put,zz]
  refine g6 29 34 rfl (by assumption) ?_;refine g6 30 4 rfl (by assumption) ?_;refine wpAnyH_done (by kernel_rfl) ?_ _;refine NoPanic.normal ?_;go_wp2_with fail;go_ret;exact⟨by simp,a9 HB.o (by assumption)⟩
end
section
open Ieee Go.RowKit

theorem R0(w:d9)(o p q:Obj):f8 w (((w.alloc o).alloc p).alloc q):=(D9 w o p).alloc (by rw[eQ,eQ];omega) q
theorem lI{w w1:d9}{A Z:Cl}{v:Vl}
  (h:((w.alloc (Obj.cells #[.int .u64 A.k,.bool A.p.h,.int .u64 A.p.b,.bool A.c.h,.int .u64 A.c.b,.int .i64 A.n] 132)).alloc (Obj.cells #[.bool v.h,.int .u64 v.b] 55)).alloc (Obj.cells #[.int .u64 Z.k,.bool Z.p.h,.int .u64 Z.p.b,.bool Z.c.h,.int .u64 Z.c.b,.int .i64 Z.n] 132)=w1):
  c6 (CB w1 w.heap.size A)∧c6 (VB w1 (w.heap.size+1) v)∧c6 (CB w1 (w.heap.size+1+1) Z)∧c6 (f8 w w1):=by
 subst h;refine⟨?_,?_,?_,R0 _ _ _ _⟩
 ·show CB _ _ _;constructor<;>simp[go_sem]
 ·show VB _ _ _;constructor<;>simp[go_sem]
 ·show CB _ _ _;constructor<;>simp[go_sem]
theorem pK{w w1:d9}(h:f8 w w1)(b:Nat)(hb:w.heap.size≤b)(i j:Nat)(u v:Value):f8 w ((w1.setCell ⟨b,i,none⟩ u).setCell ⟨b,j,none⟩ v):=(h.setCell hb u).setCell hb v
theorem iW{w w1:d9}(h:f8 w w1)(b:Nat)(hb:w.heap.size≤b)(u0 u1 u2 u3 u4 u5:Value):
  f8 w ((((((w1.setCell ⟨b,0,none⟩ u0).setCell ⟨b,1,none⟩ u1).setCell ⟨b,2,none⟩ u2).setCell ⟨b,3,none⟩ u3).setCell ⟨b,4,none⟩ u4).setCell ⟨b,5,none⟩ u5):=
 (((((h.setCell hb u0).setCell hb u1).setCell hb u2).setCell hb u3).setCell hb u4).setCell hb u5
theorem sE{B:Nat}{w w1:d9}(h:Below B w w1)(b:Nat)(hb:B≤b)(u0 u1 u2 u3 u4 u5:Value):
  Below B w ((((((w1.setCell ⟨b,0,none⟩ u0).setCell ⟨b,1,none⟩ u1).setCell ⟨b,2,none⟩ u2).setCell ⟨b,3,none⟩ u3).setCell ⟨b,4,none⟩ u4).setCell ⟨b,5,none⟩ u5):=
 (((((h.setCell hb u0).setCell hb u1).setCell hb u2).setCell hb u3).setCell hb u4).setCell hb u5
theorem CB.setCur{w:d9}{b:Nat}{c:Cl}(h:CB w b c)(m:Vl):CB ((w.setCell ⟨b,3,none⟩ (.bool m.h)).setCell ⟨b,4,none⟩ (.int .u64 m.b)) b ⟨c.k,c.p,m,c.n⟩:=by
 obtain⟨i,g,f,e,d,a,z⟩:=h;constructor<;>simp[go_sem,i,g,f,e,d,a,z]
theorem CB.set{w:d9}{b:Nat}{c:Cl}(h:CB w b c)(d:Cl):
  CB ((((((w.setCell ⟨b,0,none⟩ (.int .u64 d.k)).setCell ⟨b,1,none⟩ (.bool d.p.h)).setCell ⟨b,2,none⟩ (.int .u64 d.p.b)).setCell ⟨b,3,none⟩ (.bool d.c.h)).setCell ⟨b,4,none⟩ (.int .u64 d.c.b)).setCell ⟨b,5,none⟩ (.int .i64 d.n)) b d:=by
 obtain⟨j,i,g,f,e,a,z⟩:=h;constructor<;>simp[go_sem,j,i,g,f,e,a,z]
theorem MI(k:Int){c:Cl}(hc:c.ok)(b:Int){v:Vl}(hv:v.ok)(w:d9):
  Calls Tryz.prog 137 #[.int .i64 k,.agg #[.int .u64 c.k,.bool c.p.h,.int .u64 c.p.b,.bool c.c.h,.int .u64 c.c.b,.int .i64 c.n],.int .i64 b,.agg #[.bool v.h,.int .u64 v.b]] w fun e w'=>e= .returned (.tuple #[.agg #[.int .u64 (N2 k c b v).k,.bool (N2 k c b v).p.h,.int .u64 (N2 k c b v).p.b,.bool (N2 k c b v).c.h,.int .u64 (N2 k c b v).c.b,.int .i64 (N2 k c b v).n],.int .i64 (Z1 k c b)])∧f8 w w':=by
 cases B:s9 k
 ·have e:Z1 k c b=1:=if_pos (.inl B);have a:N2 k c b v=j9:=by unfold N2;rw[e];rfl
  rw[e,a];clear e a;unfold j9 K0;go_in;go_wp2_with (go_at_call 75;refine(M2 _ _).mono ?_;rintro e w' ⟨rfl,rfl⟩);all_goals (refine bodyPost_ret (by simp[results,Tryz.results137,go_sem]) rfl ⟨rfl,?_⟩;exact R0 _ _ _ _)
 by_cases x:b<1
 ·have e:Z1 k c b=1:=if_pos (.inr x);have a:N2 k c b v=j9:=by unfold N2;rw[e];rfl
  rw[e,a];clear e a;unfold j9 K0;go_in;go_wp2_with (go_at_call 75;refine(M2 _ _).mono ?_;rintro e w' ⟨rfl,rfl⟩);all_goals (refine bodyPost_ret (by simp[results,Tryz.results137,go_sem]) rfl ⟨rfl,?_⟩;exact R0 _ _ _ _)
 replace x:1≤b:=by omega
 by_cases N:b<c.n
 ·have e:Z1 k c b=100:=by unfold Z1;rw[if_neg (by simp[B];omega),if_pos N]
  have a:N2 k c b v=j9:=by unfold N2;rw[e];rfl
  rw[e,a];clear e a;unfold j9 K0;go_in;go_wp2_with (go_at_call 75;refine(M2 _ _).mono ?_;rintro e w' ⟨rfl,rfl⟩);all_goals (refine bodyPost_ret (by simp[results,Tryz.results137,go_sem]) rfl ⟨rfl,?_⟩;exact R0 _ _ _ _)
 have e:Z1 k c b=0:=by unfold Z1;rw[if_neg (by simp[B];omega),if_neg N]
 have a:N2 k c b v=⟨c.k,I6 c b,J4 k (I6 c b) v,b⟩:=by unfold N2;rw[e];rfl
 rw[e,a];clear e a;obtain⟨P,i⟩:=c7 (I6 c b);have z:c6 P.ok:=by show P.ok;rw[i];unfold I6;split;exact hc.2;exact hc.1
 have y:c6 v.ok:=hv;obtain⟨M,D⟩:=c7 (J4 k P v);have HM:c6 (J4 k P v=M):=D.symm;rw[←i,←D];clear D hv;go_in;by_cases L:c.n<b
 ·obtain rfl:P=c.c:=by rw[i];exact if_pos L
  clear hc i;go_upto_region 7 with (go_at_call 75;refine(M2 _ _).mono ?_;rintro e w' ⟨rfl,rfl⟩)
  all_goals try (exfalso;omega)
  generalize j:((w.alloc (Obj.cells #[.int .u64 c.k,.bool c.c.h,.int .u64 c.c.b,.bool c.c.h,.int .u64 c.c.b,.int .i64 b] 132)).alloc (Obj.cells #[.bool v.h,.int .u64 v.b] 55)).alloc (Obj.cells #[.int .u64 0,.bool false,.int .u64 0,.bool false,.int .u64 0,.int .i64 0] 132)=w1;obtain⟨HA,HV,HZ,HB⟩:=lI (A:=⟨c.k,c.c,c.c,b⟩) (Z:=j9) j;clear j;obtain⟨u,t,s,r,q,m,zz⟩:=HA.o;obtain⟨R,Q,_,_⟩:=HV.o;go_cut [] (fun wx=>CB wx w.heap.size ⟨c.k,c.c,M,b⟩∧CB wx (w.heap.size+1+1) j9∧f8 w wx)
  case first=>
   go_wp2_with (go_at_call 184;refine(rY k z.o y.o _).mono ?_;rw[HM.o];rintro e O ⟨rfl,d⟩;have g:=HA.o.below d (c8 HA.o.c0);obtain⟨u,t,s,r,q,m,zz⟩:=g);all_goals go_meet
   all_goals exact⟨CB.setCur (HA.o.below (by assumption) (c8 HA.o.c0)) M,((HZ.o.below (by assumption) (c8 HZ.o.c0)).other (by simp;omega) _).other (by simp;omega) _,pK (a9 HB.o (by assumption)) _ (Nat.le_refl _) _ _ _ _⟩
  case rest=>
   obtain⟨E,C,l⟩:=hcut;have f:=b9 l;obtain⟨u,t,s,r,q,m,zz⟩:=E;obtain⟨K,J,I,H,G,F,yy⟩:=C;clear l HA HV HZ HB;go_wp2_with fail;refine bodyPost_ret (by simp[results,Tryz.results137,go_sem,K,J,I,H,G,F]) rfl ⟨rfl,?_⟩;exact iW f.o _ (by omega) _ _ _ _ _ _
 ·obtain rfl:P=c.p:=by rw[i];exact if_neg L
  obtain rfl:b=c.n:=by omega
  clear hc i;go_upto_region 7 with (go_at_call 75;refine(M2 _ _).mono ?_;rintro e w' ⟨rfl,rfl⟩)
  all_goals try (exfalso;omega)
  generalize j:((w.alloc (Obj.cells #[.int .u64 c.k,.bool c.p.h,.int .u64 c.p.b,.bool c.c.h,.int .u64 c.c.b,.int .i64 c.n] 132)).alloc (Obj.cells #[.bool v.h,.int .u64 v.b] 55)).alloc (Obj.cells #[.int .u64 0,.bool false,.int .u64 0,.bool false,.int .u64 0,.int .i64 0] 132)=w1;obtain⟨HA,HV,HZ,HB⟩:=lI (A:=⟨c.k,c.p,c.c,c.n⟩) (Z:=j9) j;clear j;obtain⟨u,t,s,r,q,m,zz⟩:=HA.o;obtain⟨R,Q,_,_⟩:=HV.o;go_cut [] (fun wx=>CB wx w.heap.size ⟨c.k,c.p,M,c.n⟩∧CB wx (w.heap.size+1+1) j9∧f8 w wx)
  case first=>
   go_wp2_with (go_at_call 184;refine(rY k z.o y.o _).mono ?_;rw[HM.o];rintro e O ⟨rfl,d⟩;have g:=HA.o.below d (c8 HA.o.c0);obtain⟨u,t,s,r,q,m,zz⟩:=g);all_goals go_meet
   all_goals exact⟨CB.setCur (HA.o.below (by assumption) (c8 HA.o.c0)) M,((HZ.o.below (by assumption) (c8 HZ.o.c0)).other (by simp;omega) _).other (by simp;omega) _,pK (a9 HB.o (by assumption)) _ (Nat.le_refl _) _ _ _ _⟩
  case rest=>
   obtain⟨E,C,l⟩:=hcut;have f:=b9 l;obtain⟨u,t,s,r,q,m,zz⟩:=E;obtain⟨K,J,I,H,G,F,yy⟩:=C;clear l HA HV HZ HB;go_wp2_with fail;refine bodyPost_ret (by simp[results,Tryz.results137,go_sem,K,J,I,H,G,F]) rfl ⟨rfl,?_⟩;exact iW f.o _ (by omega) _ _ _ _ _ _
end
section
open Ieee Go.RowKit

theorem CQ(k:Int){c:Cl}(hc:c.ok)(b:Int){v:Vl}(hv:v.ok)(w:d9):
  Calls Tryz.prog 123 #[.int .i64 k,.agg #[.int .u64 c.k,.bool c.p.h,.int .u64 c.p.b,.bool c.c.h,.int .u64 c.c.b,.int .i64 c.n],.int .i64 b,.agg #[.bool v.h,.int .u64 v.b]] w fun e w'=>e= .returned (.tuple #[.agg #[.int .u64 (N2 k c b v).k,.bool (N2 k c b v).p.h,.int .u64 (N2 k c b v).p.b,.bool (N2 k c b v).c.h,.int .u64 (N2 k c b v).c.b,.int .i64 (N2 k c b v).n],.int .i64 (Z1 k c b)])∧f8 w w':=by
 cases J:s9 k
 ·have e:Z1 k c b=1:=if_pos (.inl J);have j:N2 k c b v=j9:=by unfold N2;rw[e];rfl
  rw[e,j];clear e j;unfold j9 K0;go_in;go_wp2_with (go_at_call 43;refine(t8 _ _).mono ?_;rintro e w' ⟨rfl,rfl⟩);all_goals (refine bodyPost_ret (by simp[results,Tryz.results123,go_sem]) rfl ⟨rfl,?_⟩;exact R0 _ _ _ _)
 by_cases D:b<1
 ·have e:Z1 k c b=1:=if_pos (.inr D);have j:N2 k c b v=j9:=by unfold N2;rw[e];rfl
  rw[e,j];clear e j;unfold j9 K0;go_in;go_wp2_with (go_at_call 43;refine(t8 _ _).mono ?_;rintro e w' ⟨rfl,rfl⟩);all_goals (refine bodyPost_ret (by simp[results,Tryz.results123,go_sem]) rfl ⟨rfl,?_⟩;exact R0 _ _ _ _)
 replace D:1≤b:=by omega
 by_cases Y:b<c.n
 ·have e:Z1 k c b=100:=by unfold Z1;rw[if_neg (by simp[J];omega),if_pos Y]
  have j:N2 k c b v=j9:=by unfold N2;rw[e];rfl
  rw[e,j];clear e j;unfold j9 K0;go_in;go_wp2_with (go_at_call 43;refine(t8 _ _).mono ?_;rintro e w' ⟨rfl,rfl⟩);all_goals (refine bodyPost_ret (by simp[results,Tryz.results123,go_sem]) rfl ⟨rfl,?_⟩;exact R0 _ _ _ _)
 have e:Z1 k c b=0:=by unfold Z1;rw[if_neg (by simp[J];omega),if_neg Y]
 have j:N2 k c b v=⟨c.k,I6 c b,J4 k (I6 c b) v,b⟩:=by unfold N2;rw[e];rfl
 rw[e,j];clear e j;obtain⟨P,z⟩:=c7 (I6 c b);have F:c6 P.ok:=by show P.ok;rw[z];unfold I6;split;exact hc.2;exact hc.1
 have E:c6 v.ok:=hv;obtain⟨M,N⟩:=c7 (J4 k P v);have HM:=b9 N.symm;rw[←z,←N];clear N hv;go_in;by_cases X:c.n<b
 ·obtain rfl:P=c.c:=by rw[z];exact if_pos X
  clear hc z;go_upto_region 7 with (go_at_call 43;refine(t8 _ _).mono ?_;rintro e w' ⟨rfl,rfl⟩)
  all_goals try (exfalso;omega)
  generalize B:((w.alloc (Obj.cells #[.int .u64 c.k,.bool c.c.h,.int .u64 c.c.b,.bool c.c.h,.int .u64 c.c.b,.int .i64 c.n] 132)).alloc (Obj.cells #[.bool v.h,.int .u64 v.b] 55)).alloc (Obj.cells #[.int .u64 0,.bool false,.int .u64 0,.bool false,.int .u64 0,.int .i64 0] 132)=d;obtain⟨HA,HV,HZ,HB⟩:=lI (A:=⟨c.k,c.c,c.c,c.n⟩) (Z:=j9) B;clear B;obtain⟨W,U,T,R,Q,O,zz⟩:=HA.o;obtain⟨I,H,_,_⟩:=HV.o;obtain⟨x,u,t,s,r,q,yy⟩:=HZ.o;go_cut [9] (fun g wx=>g= .int .i64 0∧CB wx (w.heap.size+1+1) ⟨c.k,c.c,M,b⟩∧f8 w wx)
  case first=>
   have k0: ∀wx,Below (w.heap.size+1+1) d wx→wx.cell? ⟨w.heap.size,0,none⟩=some (.int .u64 c.k):=fun wx h=>(HA.o.below h (by omega)).c0;have k1: ∀wx,Below (w.heap.size+1+1) d wx→wx.cell? ⟨w.heap.size,1,none⟩=some (.bool c.c.h):=fun wx h=>(HA.o.below h (by omega)).c1;have k2: ∀wx,Below (w.heap.size+1+1) d wx→wx.cell? ⟨w.heap.size,2,none⟩=some (.int .u64 c.c.b):=fun wx h=>(HA.o.below h (by omega)).c2;have k3: ∀wx,Below (w.heap.size+1+1) d wx→wx.cell? ⟨w.heap.size,3,none⟩=some (.bool c.c.h):=fun wx h=>(HA.o.below h (by omega)).c3;have k4: ∀wx,Below (w.heap.size+1+1) d wx→wx.cell? ⟨w.heap.size,4,none⟩=some (.int .u64 c.c.b):=fun wx h=>(HA.o.below h (by omega)).c4;have k5: ∀wx,Below (w.heap.size+1+1) d wx→wx.cell? ⟨w.heap.size,5,none⟩=some (.int .i64 c.n):=fun wx h=>(HA.o.below h (by omega)).c5;have k6: ∀wx,Below (w.heap.size+1+1) d wx→wx.cell? ⟨w.heap.size+1,0,none⟩=some (.bool v.h):=fun wx h=>(HV.o.below h (by omega)).c0;have k7: ∀wx,Below (w.heap.size+1+1) d wx→wx.cell? ⟨w.heap.size+1,1,none⟩=some (.int .u64 v.b):=fun wx h=>(HV.o.below h (by omega)).c1;clear W U T R Q O zz I H x u t s r q yy;refine wp_region_noPanic ?_;refine wp_region_held_drew (S:=fun wx=>Below (w.heap.size+1+1) d wx) (by kernel_rfl) ?_ fun a=>?_
   ·exact(Below.refl _ _).drew
   refine g6 0 30 rfl a ?_;refine g6 1 31 rfl a ?_;refine g6 2 32 rfl a ?_;refine g6 3 33 rfl a ?_;refine g6 4 34 rfl a ?_;refine g6 5 35 rfl a ?_;refine g6 6 36 rfl a ?_;refine g6 7 37 rfl a ?_;refine g6 9 39 rfl a ?_;refine C7 8 38 rfl fun K i=>?_;go_simp;refine(pB k F.o E.o _).mono ?_;rw[HM.o];rintro e G ⟨rfl,m⟩;have f:f8 d G:=a9 (Below.refl _ _).drew m;have l:=f.mono (Nat.le_of_lt (c8 HZ.o.c0));obtain⟨x,u,t,s,r,q,yy⟩:=HZ.o.below f (c8 HZ.o.c0);clear m a;go_simp;refine i.out _ _ ?_ fun a=>?_
   ·exact l
   clear i K;try simp only[Act.put,zz]
   refine g6 10 40 rfl a ?_;refine wpAnyH_ready (rs:=[11]) (by kernel_rfl) (by simp) ?_;refine AllReadyH.cons (o:=⟨none,_,_,_,_,_⟩) rfl (fun K i=>?_) AllReadyH.nil;go_simp;refine i.out _ _ ?_ fun a=>?_
   ·exact sE l _ (Nat.le_refl _) _ _ _ _ _ _
   clear i K;try simp only[Act.put,zz]
   refine g6 12 9 rfl a ?_;refine wpAnyH_done (by kernel_rfl) ?_ _;refine NoPanic.normal ?_;go_wp2_with fail;go_meet;exact⟨rfl,CB.set (HZ.o.below f (c8 HZ.o.c0)) ⟨c.k,c.c,M,b⟩,iW (a9 HB.o f) _ (by omega) _ _ _ _ _ _⟩
  case rest=>
   obtain⟨rfl,L,C⟩:=hcut;have y:=b9 C;obtain⟨x,u,t,s,r,q,yy⟩:=L;clear C HA HV HZ HB;go_wp2_with fail;refine bodyPost_ret (by simp[results,Tryz.results123,go_sem,x,u,t,s,r,q]) rfl ⟨rfl,y.o⟩
 ·obtain rfl:P=c.p:=by rw[z];exact if_neg X
  obtain rfl:b=c.n:=by omega
  clear hc z;go_upto_region 7 with (go_at_call 43;refine(t8 _ _).mono ?_;rintro e w' ⟨rfl,rfl⟩)
  all_goals try (exfalso;omega)
  generalize B:((w.alloc (Obj.cells #[.int .u64 c.k,.bool c.p.h,.int .u64 c.p.b,.bool c.c.h,.int .u64 c.c.b,.int .i64 c.n] 132)).alloc (Obj.cells #[.bool v.h,.int .u64 v.b] 55)).alloc (Obj.cells #[.int .u64 0,.bool false,.int .u64 0,.bool false,.int .u64 0,.int .i64 0] 132)=d;obtain⟨HA,HV,HZ,HB⟩:=lI (A:=⟨c.k,c.p,c.c,c.n⟩) (Z:=j9) B;clear B;obtain⟨W,U,T,R,Q,O,zz⟩:=HA.o;obtain⟨I,H,_,_⟩:=HV.o;obtain⟨x,u,t,s,r,q,yy⟩:=HZ.o;go_cut [9] (fun g wx=>g= .int .i64 0∧CB wx (w.heap.size+1+1) ⟨c.k,c.p,M,c.n⟩∧f8 w wx)
  case first=>
   have k0: ∀wx,Below (w.heap.size+1+1) d wx→wx.cell? ⟨w.heap.size,0,none⟩=some (.int .u64 c.k):=fun wx h=>(HA.o.below h (by omega)).c0;have k1: ∀wx,Below (w.heap.size+1+1) d wx→wx.cell? ⟨w.heap.size,1,none⟩=some (.bool c.p.h):=fun wx h=>(HA.o.below h (by omega)).c1;have k2: ∀wx,Below (w.heap.size+1+1) d wx→wx.cell? ⟨w.heap.size,2,none⟩=some (.int .u64 c.p.b):=fun wx h=>(HA.o.below h (by omega)).c2;have k3: ∀wx,Below (w.heap.size+1+1) d wx→wx.cell? ⟨w.heap.size,3,none⟩=some (.bool c.c.h):=fun wx h=>(HA.o.below h (by omega)).c3;have k4: ∀wx,Below (w.heap.size+1+1) d wx→wx.cell? ⟨w.heap.size,4,none⟩=some (.int .u64 c.c.b):=fun wx h=>(HA.o.below h (by omega)).c4;have k5: ∀wx,Below (w.heap.size+1+1) d wx→wx.cell? ⟨w.heap.size,5,none⟩=some (.int .i64 c.n):=fun wx h=>(HA.o.below h (by omega)).c5;have k6: ∀wx,Below (w.heap.size+1+1) d wx→wx.cell? ⟨w.heap.size+1,0,none⟩=some (.bool v.h):=fun wx h=>(HV.o.below h (by omega)).c0;have k7: ∀wx,Below (w.heap.size+1+1) d wx→wx.cell? ⟨w.heap.size+1,1,none⟩=some (.int .u64 v.b):=fun wx h=>(HV.o.below h (by omega)).c1;clear W U T R Q O zz I H x u t s r q yy;refine wp_region_noPanic ?_;refine wp_region_held_drew (S:=fun wx=>Below (w.heap.size+1+1) d wx) (by kernel_rfl) ?_ fun a=>?_
   ·exact(Below.refl _ _).drew
   refine g6 0 30 rfl a ?_;refine g6 1 31 rfl a ?_;refine g6 2 32 rfl a ?_;refine g6 3 33 rfl a ?_;refine g6 4 34 rfl a ?_;refine g6 5 35 rfl a ?_;refine g6 6 36 rfl a ?_;refine g6 7 37 rfl a ?_;refine g6 9 39 rfl a ?_;refine C7 8 38 rfl fun K i=>?_;go_simp;refine(pB k F.o E.o _).mono ?_;rw[HM.o];rintro e G ⟨rfl,m⟩;have f:f8 d G:=a9 (Below.refl _ _).drew m;have l:=f.mono (Nat.le_of_lt (c8 HZ.o.c0));obtain⟨x,u,t,s,r,q,yy⟩:=HZ.o.below f (c8 HZ.o.c0);clear m a;go_simp;refine i.out _ _ ?_ fun a=>?_
   ·exact l
   clear i K;try simp only[Act.put,zz]
   refine g6 10 40 rfl a ?_;refine wpAnyH_ready (rs:=[11]) (by kernel_rfl) (by simp) ?_;refine AllReadyH.cons (o:=⟨none,_,_,_,_,_⟩) rfl (fun K i=>?_) AllReadyH.nil;go_simp;refine i.out _ _ ?_ fun a=>?_
   ·exact sE l _ (Nat.le_refl _) _ _ _ _ _ _
   clear i K;try simp only[Act.put,zz]
   refine g6 12 9 rfl a ?_;refine wpAnyH_done (by kernel_rfl) ?_ _;refine NoPanic.normal ?_;go_wp2_with fail;go_meet;exact⟨rfl,CB.set (HZ.o.below f (c8 HZ.o.c0)) ⟨c.k,c.p,M,c.n⟩,iW (a9 HB.o f) _ (by omega) _ _ _ _ _ _⟩
  case rest=>
   obtain⟨rfl,L,C⟩:=hcut;have y:=b9 C;obtain⟨x,u,t,s,r,q,yy⟩:=L;clear C HA HV HZ HB;go_wp2_with fail;refine bodyPost_ret (by simp[results,Tryz.results123,go_sem,x,u,t,s,r,q]) rfl ⟨rfl,y.o⟩
end
section
open Ieee Go.RowKit

theorem qG(n:Nat)(v:Vl)(w:d9):(Op.equalIn (n+1+1) 55 (.agg #[.bool v.h,.int .u64 v.b]) (.agg #[.bool v.h,.int .u64 v.b])).run Tryz.prog w= .ok true w:=by
 have u0:=Tryz.underlying4;have u1:=Tryz.underlying37;have g:=Tryz.isAgg4;have f:=Tryz.isAgg37;have e:=Tryz.sizeOf4;have d:=Tryz.sizeOf37;have c:Tryz.prog.underlying 55=some (.struct (Tryz.prog.fieldsOf 55)):=by kernel_rfl
 have a:Tryz.prog.stoodInHeld 55=false:=by kernel_rfl
 rw[run_equalIn_agg w (n+1) 55 _ _ c a];simp only[Program.fieldsOf,Tryz.underlying55];go_simp
theorem Dw(c:Cl)(w:d9):(Op.equalIn 10000 132 (.agg #[.int .u64 c.k,.bool c.p.h,.int .u64 c.p.b,.bool c.c.h,.int .u64 c.c.b,.int .i64 c.n]) (.agg #[.int .u64 c.k,.bool c.p.h,.int .u64 c.p.b,.bool c.c.h,.int .u64 c.c.b,.int .i64 c.n])).run Tryz.prog w= .ok true w:=by
 have u1:=Tryz.underlying37;have u3:=Tryz.underlying3;have o:=Tryz.isAgg37;have m:=Tryz.isAgg55;have l:=Tryz.isAgg3;have g:=Tryz.sizeOf37;have f:=Tryz.sizeOf55;have e:=Tryz.sizeOf3;have i: ∀w,(Op.equalIn 9999 55 (.agg #[.bool c.p.h,.int .u64 c.p.b]) (.agg #[.bool c.p.h,.int .u64 c.p.b])).run Tryz.prog w= .ok true w:=qG 9997 c.p;have j: ∀w,(Op.equalIn 9999 55 (.agg #[.bool c.c.h,.int .u64 c.c.b]) (.agg #[.bool c.c.h,.int .u64 c.c.b])).run Tryz.prog w= .ok true w:=qG 9997 c.c;have d:Tryz.prog.underlying 132=some (.struct (Tryz.prog.fieldsOf 132)):=by kernel_rfl
 have a:Tryz.prog.stoodInHeld 132=false:=by kernel_rfl
 rw[show(10000:Nat)=9999+1 from rfl,run_equalIn_agg w 9999 132 _ _ d a];simp only[Program.fieldsOf,Tryz.underlying132];go_simp
theorem DP(c:Cl)(w:d9):(binOp .neq 132 (.agg #[.int .u64 c.k,.bool c.p.h,.int .u64 c.p.b,.bool c.c.h,.int .u64 c.c.b,.int .i64 c.n]) (.agg #[.int .u64 c.k,.bool c.p.h,.int .u64 c.p.b,.bool c.c.h,.int .u64 c.c.b,.int .i64 c.n])).run Tryz.prog w= .ok (.bool false) w:=by
 rw[run_neq_struct,Dw];rfl
end
section
open Ieee Go.RowKit

def Gl{α:Type}(w:d9)(ao:Option Addr)(n:Nat)(f:α→List Value)(l:List α):Prop:=
 ∀i,(h:i<l.length)→ ∃b off,ao=some ⟨b,off,none⟩∧ ∀j,j<n→w.cell? ⟨b,off+(i*n+j),none⟩=(f l[i])[j]?
def Gv{α:Type}(w:d9)(v:Value)(n:Nat)(f:α→List Value)(l:List α):Prop:=
 ∃ao cap,v= .slice ao l.length cap∧l.length≤cap∧cap≤maxLen∧(ao=none→cap=0)∧Gl w ao n f l
theorem Gl.below{α:Type}{w w':d9}{ao:Option Addr}{n:Nat}{f:α→List Value}{l:List α}(hf: ∀a,(f a).length=n)(h:Gl w ao n f l)(hb:f8 w w'):Gl w' ao n f l:=by
 intro i k;obtain⟨b,c,e,m⟩:=h i k;refine⟨b,c,e,fun j g=>?_⟩;have d:=m j g;have o:(f l[i])[j]?=some ((f l[i])[j]'(by rw[hf];exact g)):=List.getElem?_eq_getElem _;rw[o]at d⊢;rw[hb.cell (p:=⟨b,c+(i*n+j),none⟩) (c8 d)];exact d
structure At where
 a:Int
 b:Int
 v:Vl
structure Ro where
 p:Vl
 w:Vl
 f:Bool
 m:Bool
end
end Go.Proofs.YtfhoilcbhmeofaaGreat
