/- Contract of the store's takenBack. -/
import Derived.Test.YtfhoilcbhmeofaaGreatB15
import Derived.Shelf.SlSortCmp.WholeK
import Derived.Shelf.SlSortCmp.NoneTotal
import Derived.Test.YtfhoilcbhmeofaaGreatProg
set_option maxRecDepth 100000
set_option maxHeartbeats 16000000
namespace Go.Proofs.YtfhoilcbhmeofaaGreat
open Go.RowKit
section
section

variable{A:n9}{w w':d9}{sv dv:Value}{k:Int}{P:Bo}{S:Dk}{sp:Nat}

theorem ST.ptr(h:ST A w sv dv k P S): ∃sp,sv= .pointer (some ⟨sp,0,none⟩)∧sp<w.heap.size∧ ¬A sp:=by
 obtain⟨sp,c,e,b,a,_⟩:=h;exact⟨sp,e,(Array.getElem?_eq_some_iff.1 b).1,a⟩
theorem LZ(h:ST A w sv dv k P S)(hs:i6 P S=true)(hrd:S.rd<4611686018427387904):Calls Tryz.prog 41 #[sv] w (ZQ A w sv dv k P S):=by
 have HS:=b9 hs;have y:=b9 hrd;obtain⟨sp,q,i,_⟩:=h.ptr;have u:=b9 i;have C:c6 (∀x,A x→x<w.heap.size):=fun x g=>h.lt g;subst q;have E:=xL w;have HB:c6 (f8 w ((w.alloc (Obj.cells #[.slice none 0 0,.slice none 0 0,.slice none 0 0,.slice none 0 0,.slice none 0 0,.slice none 0 0] 84)).alloc (Obj.cells #[.slice none 0 0,.slice none 0 0,.slice none 0 0,.slice none 0 0,.slice none 0 0,.slice none 0 0] 84))):=a9 (a8 _ _) (a8 _ _);have f:c6 _:=E.below (a8 _ (Obj.cells #[.slice none 0 0,.slice none 0 0,.slice none 0 0,.slice none 0 0,.slice none 0 0,.slice none 0 0] 84));have l:c6 _:=h.below HB.o;clear h hs hrd E i;go_in;go_upto_region 2 with fail
 obtain⟨R,p⟩:=c7 w.heap.size;rw[←p]at f⊢;have HR:=b9 p;clear p;generalize (w.alloc (Obj.cells #[.slice none 0 0,.slice none 0 0,.slice none 0 0,.slice none 0 0,.slice none 0 0,.slice none 0 0] 84)).alloc (Obj.cells #[.slice none 0 0,.slice none 0 0,.slice none 0 0,.slice none 0 0,.slice none 0 0,.slice none 0 0] 84)=w0 at f l HB⊢;have m:c6 (¬A R):=fun e=>by have N:=C.o _ e;have D:=HR.o;omega
 go_wp2_with fail;refine wp_loop_rounds 1 ?_;rw[rounds_succ];go_wp2_with fail;refine(oC l.o 1 (by have D:=y.o;omega)).mono ?_;unfold IK;rw[vR HS.o];rintro e F ⟨r,rfl,M,b,d⟩;have t:=b9 b;have B:=b9 ((Ch.of_below HB.o).self d);have a:=b9 (f.o.chA d m.o (fun j Y x g e=>(by cases g)));have n:c6 (Ch A w ((((((F.setCell ⟨R,0,none⟩ (.slice none 0 0)).setCell ⟨R,1,none⟩ (.slice none 0 0)).setCell ⟨R,2,none⟩ (.slice none 0 0)).setCell ⟨R,3,none⟩ (.slice none 0 0)).setCell ⟨R,4,none⟩ (.slice none 0 0)).setCell ⟨R,5,none⟩ (.slice none 0 0))):=AC B.o (.inr (by rw[HR.o];exact Nat.le_refl _)) _ _ _ _ _ _;have s:c6 _:=t.o.six m.o (by have N:=u.o;have D:=HR.o;omega) (.slice none 0 0) (.slice none 0 0) (.slice none 0 0) (.slice none 0 0) (.slice none 0 0) (.slice none 0 0);have L:=a.o.c 0 (by omega);have K:=a.o.c 1 (by omega);have J:=a.o.c 2 (by omega);have I:=a.o.c 3 (by omega);have H:=a.o.c 4 (by omega);have G:=a.o.c 5 (by omega);have X:=a.o.z 0;have W:=a.o.z 1;have U:=a.o.z 2;have T:=a.o.z 3;have Q:=a.o.z 4;have O:=a.o.z 5;unfold kD at L K J I H G;clear M b d;go_wp2_with fail
 (try simp only[Exit.inBlock,Exit.then])
 refine bodyPost_ret (v:= .tuple #[.agg #[.slice none 0 0,.slice none 0 0,.slice none 0 0,.slice none 0 0,.slice none 0 0,.slice none 0 0],.int .i64 80]) (by rw[results_cell_tmp rfl];go_simp) rfl ?_;exact⟨80,kD,_,rfl,fun j _=>⟨_,_,_,rfl⟩,fun j _ x g=>(by cases g),.inl ⟨rfl,HS.o⟩,s.o,J5.mono (by omega),n.o⟩
theorem cD(h:ST A w sv dv k P S)(hrd:S.rd<4611686018427387904):Calls Tryz.prog 41 #[sv] w (ZQ A w sv dv k P S):=by
 cases hs:i6 P S
 ·exact MC h hs hrd
 ·exact LZ h hs hrd
theorem wN(w:d9):Calls Tryz.prog 41 #[.pointer none] w fun e w'=>e= .returned (.tuple #[.agg #[.slice none 0 0,.slice none 0 0,.slice none 0 0,.slice none 0 0,.slice none 0 0,.slice none 0 0],.int .i64 2])∧f8 w w':=by
 have HB:c6 (f8 w ((w.alloc (Obj.cells #[.slice none 0 0,.slice none 0 0,.slice none 0 0,.slice none 0 0,.slice none 0 0,.slice none 0 0] 84)).alloc (Obj.cells #[.slice none 0 0,.slice none 0 0,.slice none 0 0,.slice none 0 0,.slice none 0 0,.slice none 0 0] 84))):=a9 (a8 _ _) (a8 _ _);have a:c6 _:=(xL w).below (a8 _ (Obj.cells #[.slice none 0 0,.slice none 0 0,.slice none 0 0,.slice none 0 0,.slice none 0 0,.slice none 0 0] 84));go_in;go_upto_region 2 with fail
 obtain⟨R,b⟩:=c7 w.heap.size;rw[←b]at a⊢;have HR:=b9 b;clear b;generalize (w.alloc (Obj.cells #[.slice none 0 0,.slice none 0 0,.slice none 0 0,.slice none 0 0,.slice none 0 0,.slice none 0 0] 84)).alloc (Obj.cells #[.slice none 0 0,.slice none 0 0,.slice none 0 0,.slice none 0 0,.slice none 0 0,.slice none 0 0] 84)=w0 at a HB⊢;go_wp2_with fail;refine wp_loop_rounds 1 ?_;rw[rounds_succ];go_wp2_with fail;refine B4 (DA 1 _) ?_;have j:=a.o.c 0 (by omega);have i:=a.o.c 1 (by omega);have h:=a.o.c 2 (by omega);have g:=a.o.c 3 (by omega);have f:=a.o.c 4 (by omega);have d:=a.o.c 5 (by omega);have q:=a.o.z 0;have p:=a.o.z 1;have n:=a.o.z 2;have m:=a.o.z 3;have l:=a.o.z 4;have k:=a.o.z 5;unfold kD at j i h g f d;go_wp2_with fail
 (try simp only[Exit.inBlock,Exit.then])
 refine bodyPost_ret (v:= .tuple #[.agg #[.slice none 0 0,.slice none 0 0,.slice none 0 0,.slice none 0 0,.slice none 0 0,.slice none 0 0],.int .i64 2]) (by rw[results_cell_tmp rfl];go_simp) rfl ?_;exact⟨rfl,R7 HB.o (by rw[HR.o];exact Nat.le_refl _) _ _ _ _ _ _⟩
def Me(A:n9)(w:d9)(sv dv:Value)(k:Int)(P:Bo)(S:Dk)(e:Ending)(w':d9):Prop:=
 ∃(c:Nat) (m:Mk) (v:Value) (S':Dk),e= .returned (.tuple #[.agg #[.int .i64 m.b,.int .i64 m.a,v],.int .i64 c])∧w'.ownsRow w.heap.size 37 1 v m.k.length ((ib m.k).map (Value.int .u64))∧
  ((c=80∧i6 P S=true∧m=C1)∨(c=133∧i6 P S=false∧(B7 (A0 P S 0)).2≠0∧m=C1)∨(c=0∧i6 P S=false∧B7 (A0 P S 0)=(m,0)))∧ST A w' sv dv k (fW P S) S'∧F0 1 S S'∧Ch A w w'
theorem W4{D:n9}{w0 w1:d9}{g:Nat}(h:Ch D w0 w1)(hg:D g∨w0.heap.size≤g)(a b c:Value):Ch D w0 (((w1.setCell ⟨g,0,none⟩ a).setCell ⟨g,1,none⟩ b).setCell ⟨g,2,none⟩ c):=by
 have s: ∀{x:d9} (i:Nat) (u:Value),Ch D w0 x→Ch D w0 (x.setCell ⟨g,i,none⟩ u):=fun i u e=>e.trans (k8 _ g i u) (fun y d=>by subst d;exact hg);exact s _ _ (s _ _ (s _ _ h))
theorem ST.three(h:ST A w (.pointer (some ⟨sp,0,none⟩)) dv k P S){g:Nat}(hg: ¬A g)(hp:sp≠g)(a b c:Value):ST A (((w.setCell ⟨g,0,none⟩ a).setCell ⟨g,1,none⟩ b).setCell ⟨g,2,none⟩ c) (.pointer (some ⟨sp,0,none⟩)) dv k P S:=by
 have s: ∀{x:d9} (i:Nat) (u:Value),ST A x (.pointer (some ⟨sp,0,none⟩)) dv k P S→ST A (x.setCell ⟨g,i,none⟩ u) (.pointer (some ⟨sp,0,none⟩)) dv k P S:=fun i u d=>d.setB (fun y _ f e=>by subst e;exact hg f) (fun s e=>by cases e;exact hp);exact s _ _ (s _ _ (s _ _ h))
theorem X6(h:ST A w sv dv k P S)(hrd:S.rd<4611686018427387904):Calls Tryz.prog 29 #[sv] w (Me A w sv dv k P S):=by
 have d0:=b9 hrd;have W:=b9 h.ok;obtain⟨sp,b0,I,_⟩:=h.ptr;have G:=b9 I;have h0:c6 (∀x,A x→x<w.heap.size):=fun x hx=>h.lt hx;subst b0;have HB:c6 (f8 w (w.alloc (Obj.cells #[.int .i64 0,.int .i64 0,.slice none 0 0] 62))):=a8 _ _;have s:c6 _:=A9 w 0 0 (.slice none 0 0);have O:c6 _:=h.below HB.o;clear h hrd I;go_in;go_upto_region 1 with fail
 obtain⟨R,hR⟩:=c7 w.heap.size;rw[←hR]at s⊢;have HR:=b9 hR;clear hR;generalize w.alloc (Obj.cells #[.int .i64 0,.int .i64 0,.slice none 0 0] 62)=w0 at s O HB⊢;have j:c6 (¬A R):=fun e=>by have h1:=h0.o _ e;have h2:=HR.o;omega
 go_wp2_with fail;refine(oC O.o 0 (by have h2:=d0.o;omega)).mono ?_
 cases hs:i6 P S
 rotate_left
 ·have HS:=b9 hs;unfold IK;rw[vR hs];rintro e w2 ⟨r,rfl,ho,b,d⟩;have t:=b9 ((Ch.of_below HB.o).self d);have a:c6 _:=s.o.ch d j.o;have c:c6 _:=W4 t.o (.inr (by rw[HR.o];exact Nat.le_refl _)) (g:=R) (.int .i64 0) (.int .i64 0) (.slice none 0 0);have i:c6 _:=b.three j.o (by have h1:=G.o;have h2:=HR.o;omega) (.int .i64 0) (.int .i64 0) (.slice none 0 0);have r0:=a.o.c0;have r1:=a.o.c1;have r2:=a.o.c2;have z0:=a.o.z 0;have z1:=a.o.z 1;have z2:=a.o.z 2;clear ho b d hs;go_wp2_with fail
  (try simp only[Exit.inBlock,Exit.then])
  refine bodyPost_ret (v:= .tuple #[.agg #[.int .i64 0,.int .i64 0,.slice none 0 0],.int .i64 80]) (by rw[results_cell_tmp rfl];go_simp) rfl ?_;exact⟨80,C1,_,_,rfl,⟨rfl,.inl ⟨rfl,rfl⟩⟩,.inl ⟨rfl,HS.o,rfl⟩,i.o,J5,c.o⟩
 ·have HS:=b9 hs;unfold IK;rw[OO hs W.o.2 W.o.1 (by omega) (by omega),F5 hs];rintro e w2 ⟨r,rfl,ho,b,d⟩;have hL:=(mV b 0).2;rw[J3 J5]at hL;have J:=b9 (p7 ho hL);obtain⟨⟨⟨B,M,K⟩,E⟩,hD⟩: ∃D,B7 (A0 P S 0)=D:=⟨_,rfl⟩;have HD:=b9 hD;have N:=b9 b;have t:=b9 ((Ch.of_below HB.o).self d);have a:c6 _:=s.o.ch d j.o;clear ho b d hL hD hs;go_wp2_with fail;refine(TA J.o).mono ?_;unfold IN;rw[HD.o];rintro e u ⟨v3,rfl,C,q⟩;have L:=b9 (N.o.below q);have Z:=b9 (t.o.self (Ch.of_below q));have T:c6 _:=a.o.keep q;have Q:=b9 (c8 a.o.c0);have U:=b9 (q9 C Q.o);obtain⟨p,m,n,a0⟩: ∃x y z,v3= .slice x y z:=by obtain⟨x,z,e⟩:=y9 C;exact⟨x,_,z,e⟩
  subst a0;clear C q N t a J;go_upto_region 5 with fail
  have F:=b9 (L.o.below (a8 u (Obj.cells #[.int .i64 B,.int .i64 M,.slice p m n] 62)));have H:c6 _:=Z.o.self (Ch.of_below (a8 u (Obj.cells #[.int .i64 B,.int .i64 M,.slice p m n] 62)));have f:c6 _:=T.o.keep (a8 u (Obj.cells #[.int .i64 B,.int .i64 M,.slice p m n] 62));have Y:c6 _:=j8 U.o (a8 u (Obj.cells #[.int .i64 B,.int .i64 M,.slice p m n] 62));have l:c6 _:=A9 u B M (.slice p m n);generalize u.heap.size=X at l⊢;generalize u.alloc (Obj.cells #[.int .i64 B,.int .i64 M,.slice p m n] 62)=w4 at F H f Y l⊢;have r0:=f.o.c0;have r1:=f.o.c1;have r2:=f.o.c2;have z0:=f.o.z 0;have z1:=f.o.z 1;have z2:=f.o.z 2;clear L Z T U Q;by_cases hE:E=0;rotate_left
  ·have i0:((E:Int) !=0)=true:=by rw[bne_iff_ne];omega
   have g0:c6 ((B7 (A0 P S 0)).2≠0):=by rw[HD.o];exact hE
   have c:c6 _:=W4 H.o (.inr (by rw[HR.o];exact Nat.le_refl _)) (g:=R) (.int .i64 0) (.int .i64 0) (.slice none 0 0);have i:c6 _:=F.o.three j.o (by have h1:=G.o;have h2:=HR.o;omega) (.int .i64 0) (.int .i64 0) (.slice none 0 0);clear hE;go_wp2_with fail
   (try simp only[Exit.inBlock,Exit.then])
   refine bodyPost_ret (v:= .tuple #[.agg #[.int .i64 0,.int .i64 0,.slice none 0 0],.int .i64 133]) (by rw[results_cell_tmp rfl];go_simp) rfl ?_;exact⟨133,C1,_,_,rfl,⟨rfl,.inl ⟨rfl,rfl⟩⟩,.inr (.inl ⟨rfl,HS.o,g0.o,rfl⟩),by rw[F5 HS.o];exact i.o,J5,c.o⟩
  ·subst hE;have x0:=l.o.c0;have x1:=l.o.c1;have x2:=l.o.c2;have c:c6 _:=W4 H.o (.inr (by rw[HR.o];exact Nat.le_refl _)) (g:=R) (.int .i64 B) (.int .i64 M) (.slice p m n);have i:c6 _:=F.o.three j.o (by have h1:=G.o;have h2:=HR.o;omega) (.int .i64 B) (.int .i64 M) (.slice p m n);have f0:c6 _:=U2 Y.o (W4 (D:=fun x=>x=R) (Ch.refl _ w4) (.inl rfl) (g:=R) (.int .i64 B) (.int .i64 M) (.slice p m n)) (fun x hx=>by omega);go_wp2_with fail
   (try simp only[Exit.inBlock,Exit.then])
   refine bodyPost_ret (v:= .tuple #[.agg #[.int .i64 B,.int .i64 M,.slice p m n],.int .i64 0]) (by rw[results_cell_tmp rfl];go_simp) rfl ?_;exact⟨0,⟨B,M,K⟩,_,_,rfl,q9 f0.o (by rw[←HR.o];omega),.inr (.inr ⟨rfl,HS.o,HD.o⟩),by rw[F5 HS.o];exact i.o,J5,c.o⟩
theorem nX(w:d9):Calls Tryz.prog 29 #[.pointer none] w fun e w'=>e= .returned (.tuple #[.agg #[.int .i64 0,.int .i64 0,.slice none 0 0],.int .i64 2])∧f8 w w':=by
 have HB:c6 (f8 w (w.alloc (Obj.cells #[.int .i64 0,.int .i64 0,.slice none 0 0] 62))):=a8 _ _;have a:c6 _:=A9 w 0 0 (.slice none 0 0);go_in;go_upto_region 1 with fail
 obtain⟨R,b⟩:=c7 w.heap.size;rw[←b]at a⊢;have HR:=b9 b;clear b;generalize w.alloc (Obj.cells #[.int .i64 0,.int .i64 0,.slice none 0 0] 62)=w0 at a HB⊢;go_wp2_with fail;refine B4 (DA 0 _) ?_;have j:=a.o.c0;have i:=a.o.c1;have h:=a.o.c2;have g:=a.o.z 0;have f:=a.o.z 1;have d:=a.o.z 2;go_wp2_with fail
 (try simp only[Exit.inBlock,Exit.then])
 refine bodyPost_ret (v:= .tuple #[.agg #[.int .i64 0,.int .i64 0,.slice none 0 0],.int .i64 2]) (by rw[results_cell_tmp rfl];go_simp) rfl ?_;have c:w.heap.size≤R:=by rw[HR.o];exact Nat.le_refl _
 exact⟨rfl,((HB.o.setCell c _).setCell c _).setCell c _⟩
theorem uO(w:d9):Calls Tryz.prog 33 #[.pointer none] w fun e w'=>e= .returned (.int .i64 0)∧w'=w:=by
 go_in;go_wp2_with fail;go_ret;exact⟨rfl,rfl⟩
theorem jV(h:ST A w sv dv k P S):Calls Tryz.prog 33 #[sv] w fun e w'=>e= .returned (.int .i64 (Z9 P.tab))∧w'=w:=by
 obtain⟨sp,g,rfl,c,f,b,d⟩:=h;have HB:=b9 b;have l:w.cell? ⟨sp,0,none⟩=some g:=by rw[cell_of_row w sp 0 _ _ (0,0) c];rfl
 obtain⟨D,j,i,a,_⟩:=b;subst a;clear c f d;go_in;go_wp2_with fail;refine B4 (PY HB.o) ?_;go_wp2_with fail;go_ret;exact⟨rfl,rfl⟩
theorem rE(w:d9):Calls Tryz.prog 34 #[.pointer none] w fun e w'=>e= .returned (.bool false)∧w'=w:=by
 go_in;go_wp2_with fail;go_ret;exact⟨rfl,rfl⟩
theorem gJ(h:ST A w sv dv k P S):Calls Tryz.prog 34 #[sv] w fun e w'=>e= .returned (.bool P.over)∧w'=w:=by
 obtain⟨sp,g,rfl,c,f,b,d⟩:=h;have HB:=b9 b;have l:w.cell? ⟨sp,0,none⟩=some g:=by rw[cell_of_row w sp 0 _ _ (0,0) c];rfl
 obtain⟨D,j,i,a,_⟩:=b;subst a;clear c f d;go_in;go_wp2_with fail;refine B4 (LQ HB.o) ?_;go_wp2_with fail;go_ret;exact⟨rfl,rfl⟩
end
end
section
open Ieee Go.RowKit

def AA(a b:Nat):Int:=if a<b then-1 else if b<a then 1 else 0
end
section
open Go.Shelf

def lays6c_ren : Go.Shelf.Ren := ⟨fun | 6 => 147 | 15 => 193 | 14 => 192 | 28 => 224 | 29 => 225 | 20 => 216 | 21 => 217 | 22 => 218 | 23 => 219 | 24 => 220 | 25 => 221 | 26 => 222 | 27 => 223 | 46 => 234 | 47 => 235 | 48 => 236 | 49 => 237 | 50 => 238 | 57 => 242 | n => n, fun | 22 => 65 | 24 => 132 | 25 => 174 | 3 => 3 | 39 => 210 | 0 => 0 | 53 => 234 | 55 => 37 | 4 => 4 | 46 => 228 | 45 => 227 | 50 => 154 | 5 => 5 | 9 => 9 | 66 => 243 | 70 => 246 | 76 => 249 | 77 => 250 | n => n, fun | n => n⟩

theorem lays6c : Go.Proofs.SlLaysF0.n6 Tryz.prog lays6c_ren := {
  mixed := by kernel_rfl
  f6 := ⟨Tryz.f147.name, by decide, Tryz.func147.trans (congrArg some (by kernel_rfl))⟩
  f14 := ⟨Tryz.f192.name, by decide, Tryz.func192.trans (congrArg some (by kernel_rfl))⟩
  f15 := Tryz.func193.trans (congrArg some (by kernel_rfl))
  f20 := ⟨Tryz.f216.name, by decide, Tryz.func216.trans (congrArg some (by kernel_rfl))⟩
  f21 := ⟨Tryz.f217.name, by decide, Tryz.func217.trans (congrArg some (by kernel_rfl))⟩
  f22 := ⟨Tryz.f218.name, by decide, Tryz.func218.trans (congrArg some (by kernel_rfl))⟩
  f23 := ⟨Tryz.f219.name, by decide, Tryz.func219.trans (congrArg some (by kernel_rfl))⟩
  f24 := ⟨Tryz.f220.name, by decide, Tryz.func220.trans (congrArg some (by kernel_rfl))⟩
  f25 := ⟨Tryz.f221.name, by decide, Tryz.func221.trans (congrArg some (by kernel_rfl))⟩
  f26 := ⟨Tryz.f222.name, by decide, Tryz.func222.trans (congrArg some (by kernel_rfl))⟩
  f27 := ⟨Tryz.f223.name, by decide, Tryz.func223.trans (congrArg some (by kernel_rfl))⟩
  f28 := Tryz.func224.trans (congrArg some (by kernel_rfl))
  f29 := Tryz.func225.trans (congrArg some (by kernel_rfl))
  f46 := ⟨Tryz.f234.name, by decide, Tryz.func234.trans (congrArg some (by kernel_rfl))⟩
  f47 := Tryz.func235.trans (congrArg some (by kernel_rfl))
  f48 := Tryz.func236.trans (congrArg some (by kernel_rfl))
  f49 := ⟨Tryz.f237.name, by decide, Tryz.func237.trans (congrArg some (by kernel_rfl))⟩
  f50 := ⟨Tryz.f238.name, by decide, Tryz.func238.trans (congrArg some (by kernel_rfl))⟩
  f57 := ⟨Tryz.f242.name, by decide, Tryz.func242.trans (congrArg some (by kernel_rfl))⟩
  t0 := Tryz.underlying0
  a0 := Tryz.isAgg0
  z0 := Tryz.sizeOf0
  v0 := Tryz.zeroValue0
  t3 := Tryz.underlying3
  a3 := Tryz.isAgg3
  z3 := Tryz.sizeOf3
  v3 := Tryz.zeroValue3
  t4 := Tryz.underlying4
  a4 := Tryz.isAgg4
  z4 := Tryz.sizeOf4
  v4 := Tryz.zeroValue4
  t5 := Tryz.underlying5
  a5 := Tryz.isAgg5
  z5 := Tryz.sizeOf5
  v5 := Tryz.zeroValue5
  t9 := Tryz.underlying9
  a9 := Tryz.isAgg9
  z9 := Tryz.sizeOf9
  v9 := Tryz.zeroValue9
  t22 := Tryz.underlying65
  a22 := Tryz.isAgg65
  z22 := Tryz.sizeOf65
  v22 := Tryz.zeroValue65
  t25 := Tryz.underlying174
  a25 := Tryz.isAgg174
  z25 := Tryz.sizeOf174
  v25 := Tryz.zeroValue174
  t39 := Tryz.underlying210
  a39 := Tryz.isAgg210
  z39 := Tryz.sizeOf210
  v39 := Tryz.zeroValue210
  t45 := Tryz.underlying227
  a45 := Tryz.isAgg227
  z45 := Tryz.sizeOf227
  v45 := Tryz.zeroValue227
  t46 := Tryz.underlying228
  a46 := Tryz.isAgg228
  z46 := Tryz.sizeOf228
  v46 := Tryz.zeroValue228
  t50 := Tryz.underlying154
  a50 := Tryz.isAgg154
  z50 := Tryz.sizeOf154
  v50 := Tryz.zeroValue154
  t53 := Tryz.underlying234
  a53 := Tryz.isAgg234
  z53 := Tryz.sizeOf234
  v53 := Tryz.zeroValue234
  t55 := Tryz.underlying37
  a55 := Tryz.isAgg37
  z55 := Tryz.sizeOf37
  v55 := Tryz.zeroValue37
  t66 := Tryz.underlying243
  a66 := Tryz.isAgg243
  z66 := Tryz.sizeOf243
  v66 := Tryz.zeroValue243
  t70 := Tryz.underlying246
  a70 := Tryz.isAgg246
  z70 := Tryz.sizeOf246
  v70 := Tryz.zeroValue246
  t76 := Tryz.underlying249
  a76 := Tryz.isAgg249
  z76 := Tryz.sizeOf249
  v76 := Tryz.zeroValue249
  t77 := Tryz.underlying250
  a77 := Tryz.isAgg250
  z77 := Tryz.sizeOf250
  v77 := Tryz.zeroValue250 }
end
section
open Ieee Go.RowKit

theorem yW(a:Nat)(w:d9):
  Calls Tryz.prog 194 #[.int .u64 a] w fun e w'=>e= .returned (.bool false)∧w'=w:=by
 go_in;go_wp2;go_ret;exact⟨Q4 (by simp),rfl⟩
theorem zZ(a b:Nat)(w:d9):
  Calls Tryz.prog 149 #[.int .u64 a,.int .u64 b] w fun e w'=>e= .returned (.int .i64 (AA a b))∧w'=w:=by
 by_cases d:a<b
 ·have e:AA a b= -1:=if_pos d;rw[e];have c:(a:Int)<b:=by omega
  go_in;go_wp2_with (go_at_call 194;refine(yW _ _).mono ?_;rintro e w' ⟨rfl,rfl⟩);go_ret;exact⟨rfl,rfl⟩
 by_cases g:b<a
 ·have e:AA a b=1:=by unfold AA;rw[if_neg d,if_pos g]
  rw[e];have c: ¬((a:Int)<b):=by omega
  have f:(b:Int)<a:=by omega
  go_in;go_wp2_with (go_at_call 194;refine(yW _ _).mono ?_;rintro e w' ⟨rfl,rfl⟩);go_ret;exact⟨rfl,rfl⟩
 ·have e:AA a b=0:=by unfold AA;rw[if_neg d,if_neg g]
  rw[e];have c: ¬((a:Int)<b):=by omega
  have f: ¬((b:Int)<a):=by omega
  go_in;go_wp2_with (go_at_call 194;refine(yW _ _).mono ?_;rintro e w' ⟨rfl,rfl⟩);go_ret;exact⟨rfl,rfl⟩
end
section
open Ieee Go.RowKit
end
section
open Ieee Go.RowKit

def kG(t:List Pr)(i:Nat):Prop:=(∀h:i<t.length,t[i].v.h=true)∧(∀(h:i<t.length) (_:0<i),t[i-1].k<t[i].k)
theorem xX{t:List Pr}(h: ∀i,i<t.length→kG t i):UA t:=by
 unfold UA;rw[List.pairwise_iff_getElem];intro i j f b e
 induction j with
 |zero=>omega
 |succ j d=>
  have a:=(h (j+1) b).2 b (by omega);simp only[Nat.add_sub_cancel]at a;rcases Nat.lt_or_ge i j with c|c
  ·exact Nat.lt_trans (d (by omega) c) a
  ·obtain rfl:i=j:=by omega
   exact a
def cW:List Pr→Bool
 |[]=>true
 |p::t=>p.v.h&&(t.all fun q=>decide (p.k<q.k))&&cW t
theorem lJ{t:List Pr}:cW t=true↔UA t∧Kt t:=by
 induction t with
 |nil=>exact⟨fun _=>⟨List.Pairwise.nil,fun p g=>by simp at g⟩,fun _=>rfl⟩
 |cons p t f=>
  have e:cW (p::t)=(p.v.h&&(t.all fun q=>decide (p.k<q.k))&&cW t):=rfl;rw[e,Bool.and_eq_true,Bool.and_eq_true,f,List.all_eq_true];unfold UA Kt;rw[List.pairwise_cons];constructor
  ·rintro⟨⟨i,d⟩,c,b⟩
   exact⟨⟨fun q a=>by simpa using d q a,c⟩,fun q a=>by
    rcases List.mem_cons.1 a with h|h
    ·rw[h];exact i
    ·exact b q h⟩
  ·rintro⟨⟨d,c⟩,b⟩;exact⟨⟨b p (List.mem_cons_self),fun q a=>by simpa using d q a⟩,c,fun q a=>b q (List.mem_cons_of_mem _ a)⟩
theorem AY{t:List Pr}(h: ∀i,i<t.length→kG t i):cW t=true:=by
 rw[lJ];refine⟨xX h,fun p b=>?_⟩;obtain⟨i,a,rfl⟩:=List.getElem_of_mem b;exact(h i a).1 a
theorem AX{t:List Pr}{i:Nat}(hi:i<t.length)(h:t[i].v.h=false):cW t=false:=by
 cases hb:cW t
 ·rfl
 ·have:=(lJ.1 hb).2 t[i] (List.getElem_mem hi);rw[h]at this;cases this
theorem uN{t:List Pr}{i:Nat}(hi:i<t.length)(h0:0<i)(h: ¬t[i-1].k<t[i].k):cW t=false:=by
 cases hb:cW t
 ·rfl
 ·exact absurd ((List.pairwise_iff_getElem.1 (lJ.1 hb).1) (i-1) i (by omega) hi (by omega)) h
def Sd(w:d9)(t:List Pr)(iv:Value)(wr:d9):Prop:= ∃i:Nat,i≤t.length∧iv= .int .i64 i∧(∀j,j<i→kG t j)∧f8 w wr
theorem pZ{w wr w1:d9}{t:List Pr}{i:Nat}(hi:i<t.length)(h: ∀j,j<i→kG t j)(hg:kG t i)(hB:f8 w wr)(h1:f8 wr w1):Sd w t (.int .i64 ((i:Int)+1)) w1:=
 ⟨i+1,hi,by simp,fun j hj=>by
  rcases Nat.lt_or_ge j i with h2|h2
  ·exact h j h2
  ·obtain rfl:j=i:=by omega
   exact hg,a9 hB h1⟩
theorem vP{t:List Pr}(hi:0<t.length){o:Pr}(ho:o=t[0])(h:o.v.h=true):kG t 0:=⟨fun _=>by rw[←ho];exact h,fun _ h0=>by omega⟩
theorem vQ{t:List Pr}{i:Nat}(hi:i<t.length){o q:Pr}(ho:o=t[i])(hq:q=t[i-1])(h:o.v.h=true)(hk:q.k<o.k):kG t i:=⟨fun _=>by rw[←ho];exact h,fun _ _=>by rw[←ho,←hq];exact hk⟩
theorem qO{x:Int}(h0:0≤x)(h1:x<9223372036854775808):IntKind.i64.wrap x=x:=by
 rw[IntKind.wrap_i64];omega
theorem Z0(w:d9)(o:Obj)(n:Nat):f8 w ((w.alloc o).drewN n):=a9 (a8 _ _) (d8 _ _)
theorem JA{ao:Option Addr}{ca:Nat}{l:List Pr}{w:d9}(hl:l.length≤maxLen)(ha:Ql w ao l):
  Calls Tryz.prog 133 #[.slice ao l.length ca] w fun e w'=>e= .returned (.bool (cW l))∧f8 w w':=by
 have G:(l.length:Int)≤9223372036854775807:=by simp only[maxLen]at hl;omega
 have HA:c6 (Ql w ao l):=ha;clear ha hl;go_in;go_wp2_with fail;go_loopw [7] (fun iv wr=>Sd w l iv wr) (fun iv _=>l.length-(intOf iv).toNat)
 case atStart=>exact⟨0,Nat.zero_le _,rfl,fun j s=>by omega,I5 _⟩
 case round=>
  obtain⟨i,K,rfl,c,y⟩:=hrel;have HG:=b9 c;have HB:=b9 y;clear c y;by_cases a:i<l.length
  ·obtain⟨b,g,rfl,C,t,B⟩:=HA.o.below HB.o i a;obtain⟨o,f⟩:=c7 (l[i]);rw[←f]at C t B;have HE:c6 (o=l[i]):=f;clear f
   cases hh:o.v.h
   ·have HT:c6 (cW l=false):=AX a (by rw[←HE.o];exact hh);go_wp2_with fail;go_ret;exact⟨Q4 HT.o.symm,a9 HB.o (a8 _ _)⟩
   ·have HH:c6 (o.v.h=true):=hh;rw[hh]at t;clear hh;by_cases D:i=0
    ·subst D;simp only[Nat.zero_mul,Nat.add_zero]at C t B;have R': ∀n,Sd w l (.int .i64 (((0:Nat):Int)+1)) ((wr.alloc (Obj.cells #[.int .u64 o.k,.bool true,.int .u64 o.v.b] 57)).drewN n):=fun n=>pZ a HG.o (vP a HE.o HH.o) HB.o (Z0 _ _ _);go_wp2_with fail;go_quiet (fail);go_wp2_with fail;go_roundw
     case rel=>exact R' _
     case measure=>simp[intOf];omega
    ·obtain⟨L,off2,E,r,A,z⟩:=HA.o.below HB.o (i-1) (by omega)
     cases E
     obtain⟨q,d⟩:=c7 (l[i-1]);rw[←d]at r A z;have HQ:c6 (q=l[i-1]):=d;clear d A z;have I:(0:Int)<(i:Int):=by omega
     obtain⟨j,s⟩: ∃j,i=j+1:=⟨i-1,by omega⟩;subst s;simp only[Nat.add_sub_cancel]at r;have F:IntKind.i64.wrap (j:Int)=j:=qO (by omega) (by omega);have H:j<l.length:=by omega
     have J: ∀x:Obj,(wr.alloc x).cell? ⟨b,g+j*3,none⟩=some (.int .u64 q.k):=fun x=>by rw[(a8 wr x).cell (p:=⟨b,g+j*3,none⟩) (c8 r)];exact r
     by_cases m:q.k<o.k
     ·have R': ∀n,Sd w l (.int .i64 (((j+1:Nat):Int)+1)) ((wr.alloc (Obj.cells #[.int .u64 o.k,.bool true,.int .u64 o.v.b] 57)).drewN n):=fun n=>pZ a HG.o (vQ a HE.o HQ.o HH.o m) HB.o (Z0 _ _ _);have u: ¬((o.k:Int)≤(q.k:Int)):=by omega
      clear m;go_wp2_with fail;go_quiet (fail);go_wp2_with fail;go_roundw
      case rel=>exact R' _
      case measure=>simp[intOf];omega
     ·have HT:c6 (cW l=false):=uN a (by omega) (by rw[←HE.o,←HQ.o];exact m);have u:(o.k:Int)≤(q.k:Int):=by omega
      clear m;go_wp2_with fail;go_quiet (fail);go_wp2_with fail;go_ret;exact⟨Q4 HT.o.symm,a9 HB.o (Z0 _ _ _)⟩
  ·have HT:c6 (cW l=true):=AY fun j s=>HG.o j (by omega);go_wp2_with fail;go_ret;exact⟨Q4 HT.o.symm,HB.o⟩
end
def B6(b a:Int):Bool:=decide (1≤b)&&(decide (b≤1099511627776)&&(decide (1≤a)&&decide (a≤1099511627776)))
theorem wJ(b a:Int)(w:d9):Calls Tryz.prog 60 #[.int .i64 b,.int .i64 a] w fun e w'=>e= .returned (.bool (B6 b a))∧w'=w:=by
 by_cases g:(1:Int)≤b
 ·by_cases f:b≤1099511627776
  ·by_cases d:(1:Int)≤a
   ·by_cases c:a≤1099511627776
    ·have HR:c6 (B6 b a=true):=by show _=_;simp[B6,g,f,d,c]
     go_in;go_wp2_with fail;go_ret;rw[HR.o];exact⟨rfl,rfl⟩
    ·have HR:c6 (B6 b a=false):=by show _=_;unfold B6;rw[decide_eq_false c];simp
     go_in;go_wp2_with fail;go_ret;rw[HR.o];exact⟨rfl,rfl⟩
   ·have HR:c6 (B6 b a=false):=by show _=_;unfold B6;rw[decide_eq_false d];simp
    go_in;go_wp2_with fail;go_ret;rw[HR.o];exact⟨rfl,rfl⟩
  ·have HR:c6 (B6 b a=false):=by show _=_;unfold B6;rw[decide_eq_false f];simp
   go_in;go_wp2_with fail;go_ret;rw[HR.o];exact⟨rfl,rfl⟩
 ·have HR:c6 (B6 b a=false):=by show _=_;unfold B6;rw[decide_eq_false g];simp
  go_in;go_wp2_with fail;go_ret;rw[HR.o];exact⟨rfl,rfl⟩
theorem lL(k:Int)(w:d9):Calls Tryz.prog 35 #[.pointer none,.int .i64 k] w fun e w'=>e= .returned (.int .i64 2)∧w'=w:=by
 go_in;go_wp2_with fail;go_ret;exact⟨rfl,rfl⟩
def RM(k:Int):Int:=if s9 k=true then 0 else 1
theorem Z3(d:Nat)(k:Int)(w:d9):Calls Tryz.prog 35 #[.pointer (some ⟨d,0,none⟩),.int .i64 k] w fun e w'=>e= .returned (.int .i64 (RM k))∧w'=w:=by
 unfold RM;obtain⟨K,b⟩:=c7 (s9 k);rw[←b];go_in;go_wp2_with fail;refine(M2 k _).mono ?_;rw[←b];rintro e c ⟨rfl,a⟩;replace a:=a.symm;subst a;clear b
 cases K
 ·go_wp2_with fail;go_ret;exact⟨rfl,rfl⟩
 ·go_wp2_with fail;go_ret;exact⟨rfl,rfl⟩
theorem nB{m:Mk}(hk:B9 m.k): ∀x∈(J1 m).1,x<256:=by
 unfold J1
 cases h:o4 m
 ·simp
 ·rw[if_pos rfl];exact TV h hk
theorem hY{w:d9}{kv:Value}{ks:f7}(hk:Kv w kv ks)(hok:B9 ks)(b a:Int):
  Calls Tryz.prog 38 #[.agg #[.int .i64 b,.int .i64 a,kv]] w fun e w'=> ∃v,e= .returned (.agg #[.int .i64 0,v])∧w'.ownsRow w.heap.size 5 1 v (J1 ⟨b,a,ks⟩).1.length (cb (J1 ⟨b,a,ks⟩).1)∧f8 w w':=by
 have F:c6 _:=hok;have n:c6 (f8 w ((w.alloc (Obj.cells #[.int .i64 b,.int .i64 a,kv] 62)).alloc (Obj.cells #[.int .i64 0,.slice none 0 0] 77))):=a9 (a8 _ _) (a8 _ _);have q:c6 _:=hk.below n.o;have i:c6 _:=(A9 w b a kv).keep (a8 _ (Obj.cells #[.int .i64 0,.slice none 0 0] 77));have s:((w.alloc (Obj.cells #[.int .i64 b,.int .i64 a,kv] 62)).alloc (Obj.cells #[.int .i64 0,.slice none 0 0] 77)).cell? ⟨w.heap.size+1,0,none⟩=some (.int .i64 0):=by simp[go_sem]
 have r:((w.alloc (Obj.cells #[.int .i64 b,.int .i64 a,kv] 62)).alloc (Obj.cells #[.int .i64 0,.slice none 0 0] 77)).cell? ⟨w.heap.size+1,1,none⟩=some (.slice none 0 0):=by simp[go_sem]
 have rz: ∀j,((w.alloc (Obj.cells #[.int .i64 b,.int .i64 a,kv] 62)).alloc (Obj.cells #[.int .i64 0,.slice none 0 0] 77)).frozen? ⟨w.heap.size+1,j,none⟩=false:=by intro j;simp[go_sem]
 have f:c6 _:=s;have h:c6 _:=r;have d:c6 _:=rz;obtain⟨Q,O,P,C⟩:=F2 hk;subst C;clear hk hok s r rz;go_in;go_upto_region 1 with fail
 obtain⟨N,u⟩:=c7 w.heap.size;rw[←u]at i f h d⊢;have HN:=b9 u;clear u;generalize (w.alloc (Obj.cells #[.int .i64 b,.int .i64 a,.slice Q O P] 62)).alloc (Obj.cells #[.int .i64 0,.slice none 0 0] 77)=w0 at n q i f h d⊢;have U:=i.o.c0;have T:=i.o.c1;have S:=i.o.c2;have g:=b9 (c8 f.o);obtain⟨R,t⟩:=c7 (N+1);rw[←t]at f h d g⊢;have D:=b9 t;clear t;go_wp2_with fail;refine(SY q.o F.o b a).mono ?_;rintro e l ⟨v,rfl,k,c⟩;obtain⟨E,A⟩:=c7 (J1 ⟨b,a,ks⟩);rw[←A]at k;have HE:=b9 A;have s:l.cell? ⟨R,0,none⟩=some (.int .i64 0):=by rw[c.cell (p:=⟨R,0,none⟩) g.o];exact f.o
 have r:l.cell? ⟨R,1,none⟩=some (.slice none 0 0):=by rw[c.cell (p:=⟨R,1,none⟩) g.o];exact h.o
 have X:l.frozen? ⟨R,0,none⟩=false:=by rw[c.frozen (p:=⟨R,0,none⟩) g.o];exact d.o 0
 have W:l.frozen? ⟨R,1,none⟩=false:=by rw[c.frozen (p:=⟨R,1,none⟩) g.o];exact d.o 1
 have J:=b9 (a9 n.o c);have H:=b9 (q9 k g.o);have m:w.heap.size≤R:=by have h1:=HN.o;have Z:=D.o;omega
 have G:c6 (((l.setCell ⟨R,0,none⟩ (.int .i64 0)).setCell ⟨R,1,none⟩ v).ownsRow w.heap.size 5 1 v E.1.length (cb E.1)):=q9 (U2 H.o ((k8 l R 0 _).self (k8 _ R 1 _)) (fun x Y=>by omega)) (by omega);have I:c6 (f8 w ((l.setCell ⟨R,0,none⟩ (.int .i64 0)).setCell ⟨R,1,none⟩ v)):=(J.o.setCell m _).setCell m _;obtain⟨M,K,L,B⟩: ∃x y z,v= .slice x y z:=by obtain⟨x,z,e⟩:=y9 k;exact⟨x,_,z,e⟩
 subst B;clear k c U T S f h d A m;go_wp2_with fail;refine bodyPost_ret (v:= .agg #[.int .i64 0,.slice M K L]) (by simp[results,Tryz.results38,go_sem,s,r]) rfl ?_;rw[←HE.o];exact⟨_,rfl,G.o,I.o⟩
def LP(k:Int)(l:List Pr):Bool:=l.all fun p=>AK (r9 k p.v) p.v
def Q9(k:Int)(l:List Pr):Bool:=LP k l&&cW l
theorem OV{k:Int}{l:List Pr}{i:Nat}(hi:i<l.length)(h:r9 k l[i].v≠l[i].v):Q9 k l=false:=by
 have:LP k l=false:=by
  unfold LP;rw[List.all_eq_false];exact⟨l[i],List.getElem_mem _,by rw[zS];exact h⟩
 rw[Q9,this];rfl
theorem FD{k:Int}{l:List Pr}(h: ∀i,(hi:i<l.length)→r9 k l[i].v=l[i].v):Q9 k l=cW l:=by
 have:LP k l=true:=by
  unfold LP;rw[List.all_eq_true];intro p a;obtain⟨i,hi,rfl⟩:=List.mem_iff_getElem.1 a;exact zS.2 (h i hi)
 rw[Q9,this];rfl
theorem TM{w:d9}{tv:Value}{l:List Pr}(h:Qv w tv l)(k:Int):Calls Tryz.prog 65 #[.int .i64 k,tv] w fun e w'=>e= .returned (.bool (Q9 k l))∧f8 w w':=by
 have HQ:=b9 h;obtain⟨⟨ta,tc,x,y,m,_,_⟩,z⟩:=h;obtain⟨n,H⟩:=c7 l.length;rw[←H]at x;subst x;have HN:=b9 H;have J:=b9 z;have Z:(n:Int)≤9223372036854775807:=by unfold maxLen at m;omega
 have M:=b9 (Nat.le_trans y m);clear z H y m;go_in;go_wp2_with fail;go_loopw [9] (fun iv wr=> ∃i:Nat,iv= .int .i64 i∧i≤n∧(∀j,(u:j<l.length)→j<i→r9 k l[j].v=l[j].v)∧f8 w wr) (fun iv _=>n-(intOf iv).toNat)
 case atStart=>exact⟨0,rfl,by omega,fun j _ h=>by omega,Below.refl _ _⟩
 case round=>
  obtain⟨i,rfl,hi,g,R⟩:=hrel;have HA:=b9 g;have HB:=b9 R;clear g R;by_cases A:i<n;rotate_left
  ·have E: ¬(i:Int)<(n:Int):=by omega
   have HE:=b9 (FD (fun j u=>HA.o j u (by have:=HN.o;omega)));have I:=b9 (((HQ.o.below HB.o)).ql);go_wp2_with fail;rw[HN.o];refine(JA M.o I.o).mono ?_;rw[←HE.o];rintro e t ⟨rfl,C⟩;have d:=b9 (a9 HB.o C);clear C;go_wp2_with fail;go_ret;exact⟨rfl,d.o⟩
  ·have E:(i:Int)<(n:Int):=by omega
   have S:=decide_eq_true A;have B:i<l.length:=by have:=HN.o;omega
   obtain⟨b0,Y,W,P,O,N⟩:=(HQ.o.below HB.o).ql i B;subst W;obtain⟨p,G⟩:=c7 (l[i]);rw[←G]at P O N;have HP:=b9 G;have D:c6 p.v.ok:=by rw[G];exact(J.o _ (List.getElem_mem _)).2
   clear G;go_upto_region 4 with fail
   clear P O N;have f:c6 _:=yN wr p.k p.v;have d:c6 (f8 w (wr.alloc (Obj.cells #[.int .u64 p.k,.bool p.v.h,.int .u64 p.v.b] 57))):=a9 HB.o (a8 _ _);generalize wr.heap.size=X at f⊢;generalize wr.alloc (Obj.cells #[.int .u64 p.k,.bool p.v.h,.int .u64 p.v.b] 57)=t at f d⊢;have q1: ∀wx,f8 t wx→wx.cell? ⟨X,1,none⟩=some (.bool p.v.h):=fun wx h=>(f.o.keep h).c1;have q2: ∀wx,f8 t wx→wx.cell? ⟨X,2,none⟩=some (.int .u64 p.v.b):=fun wx h=>(f.o.keep h).c2;obtain⟨F,Q⟩:=c7 (r9 k p.v);have HF:=b9 Q;have c0:=bH;clear Q;by_cases a:F=p.v
   ·have U: ∀w,(binOp .neq 55 (.agg #[.bool F.h,.int .u64 F.b]) (.agg #[.bool p.v.h,.int .u64 p.v.b])).run Tryz.prog w= .ok (.bool false) w:=by rw[a];exact NX p.v
    have K:c6 (∀j,(u:j<l.length)→j<i+1→r9 k l[j].v=l[j].v):=fun j u a0=>by
     rcases Nat.lt_or_ge j i with q|q
     ·exact HA.o j u q
     ·obtain rfl:j=i:=by omega
      rw[←HP.o,←HF.o];exact a
    clear a;go_wp2_with fail
    go_region_held3 (fun wx=>f8 t wx) (first|assumption|exact(Below.refl _ _).drew)
     (first|(go_at_call 132;refine(mW k D.o _).mono ?_;rw[←HF.o];rintro e T ⟨rfl,c⟩;have r:=a9 (by assumption) c))
    have s:=b9 (a9 d.o (by assumption));clear c r;go_wp2_with fail;go_roundw
    case rel=>exact⟨i+1,by go_num,A,K.o,s.o⟩
    case measure=>simp[intOf];omega
   ·have U:=DO F p.v a;have L:=b9 (OV B (by rw[←HP.o,←HF.o];exact a));clear a;go_wp2_with fail
    go_region_held3 (fun wx=>f8 t wx) (first|assumption|exact(Below.refl _ _).drew)
     (first|(go_at_call 132;refine(mW k D.o _).mono ?_;rw[←HF.o];rintro e T ⟨rfl,c⟩;have r:=a9 (by assumption) c))
    have s:=b9 (a9 d.o (by assumption));clear c r;go_wp2_with fail;go_ret;exact⟨by rw[L.o];rfl,s.o⟩
def U5(ks:f7)(l:List Pr):Bool:=l.all fun p=>decide (p.k∈ks)
theorem xD{w:d9}{tv kv:Value}{l:List Pr}{ks:f7}(h:Qv w tv l)(hk:Kv w kv ks)(mb ma:Int):Calls Tryz.prog 66 #[.agg #[.int .i64 mb,.int .i64 ma,kv],tv] w fun e w'=>e= .returned (.bool (U5 ks l))∧f8 w w':=by
 have HQ:=b9 h;have HK:=b9 hk;obtain⟨⟨ta,tc,u,J,x,_,_⟩,K⟩:=h;obtain⟨n,G⟩:=c7 l.length;rw[←G]at u;subst u;have HN:=b9 G;have d0:(n:Int)≤9223372036854775807:=by unfold maxLen at x;omega
 obtain⟨F,D,E,L⟩:=F2 hk;subst L;have c:c6 _:=a8 w (Obj.cells #[.int .i64 mb,.int .i64 ma,.slice F D E] 62);have m:c6 _:=A9 w mb ma (.slice F D E);clear K G J x hk;go_in;go_upto_region 1 with fail
 generalize O:w.heap.size=N at m⊢;clear O;generalize w.alloc (Obj.cells #[.int .i64 mb,.int .i64 ma,.slice F D E] 62)=R at c m⊢;go_wp2_with fail;go_loopw [9] (fun iv wr=> ∃i:Nat,iv= .int .i64 i∧i≤n∧(∀j,(s:j<l.length)→j<i→l[j].k∈ks)∧f8 R wr) (fun iv _=>n-(intOf iv).toNat)
 case atStart=>exact⟨0,rfl,by omega,fun j _ h=>by omega,Below.refl _ _⟩
 case round=>
  obtain⟨i,rfl,hi,d,I⟩:=hrel;have HA:=b9 d;have HB:=b9 I;have A:=b9 (a9 c.o I);clear d I;by_cases y:i<n;rotate_left
  ·have C: ¬(i:Int)<(n:Int):=by omega
   have HE:c6 (U5 ks l=true):=by
    show _=_;unfold U5;rw[List.all_eq_true];intro p r;obtain⟨j,s,rfl⟩:=List.mem_iff_getElem.1 r;exact decide_eq_true (HA.o j s (by have:=HN.o;omega))
   go_wp2_with fail;go_ret;exact⟨by rw[HE.o];rfl,A.o⟩
  ·have C:(i:Int)<(n:Int):=by omega
   have W:=decide_eq_true y;have M:i<l.length:=by have:=HN.o;omega
   obtain⟨b0,a0,e0,U,T,S⟩:=(HQ.o.below A.o).ql i M;subst e0;obtain⟨p,r⟩:=c7 (l[i]);rw[←r]at U T S;have HP:=b9 r;clear r;go_upto_region 4 with fail
   clear U T S;have f:c6 _:=yN wr p.k p.v;have a:c6 (f8 R (wr.alloc (Obj.cells #[.int .u64 p.k,.bool p.v.h,.int .u64 p.v.b] 57))):=a9 HB.o (a8 _ _);generalize wr.heap.size=X at f⊢;generalize wr.alloc (Obj.cells #[.int .u64 p.k,.bool p.v.h,.int .u64 p.v.b] 57)=w2 at f a⊢;have g:c6 _:=m.o.keep a.o;have Q:=b9 (HK.o.below (a9 c.o a.o));have y0:=g.o.c0;have Z:=g.o.c1;have Y:=g.o.c2;have q0:=f.o.c0;obtain⟨H,t⟩:=c7 (decide (p.k∈ks));go_wp2_with fail;refine(oI Q.o mb ma p.k).mono ?_;rw[←t];rintro e w3 ⟨rfl,z⟩;have B:=b9 (a9 a.o z);clear z y0 Z Y q0
   cases H
   ·have HE:c6 (U5 ks l=false):=by
     show _=_;unfold U5;rw[List.all_eq_false];exact⟨l[i],List.getElem_mem _,by rw[←HP.o,←t];simp⟩
    clear t;go_wp2_with fail;go_ret;exact⟨by rw[HE.o];rfl,a9 c.o B.o⟩
   ·have P:c6 (∀j,(s:j<l.length)→j<i+1→l[j].k∈ks):=fun j s f0=>by
     rcases Nat.lt_or_ge j i with q|q
     ·exact HA.o j s q
     ·obtain rfl:j=i:=by omega
      rw[←HP.o];exact of_decide_eq_true t.symm
    clear t;go_wp2_with fail;go_roundw
    case rel=>exact⟨i+1,by go_num,y,P.o,B.o⟩
    case measure=>simp[intOf];omega
section
theorem zY{P:Bo}{S:Dk}: ∀{k:Nat}{l:List (List Cl)},C8 P S k=some l→ ∀j,j<k→(t7 (A0 P S (1+(j:Int)))).2=0∧B3 l j=(t7 (A0 P S (1+(j:Int)))).1:=by
 intro k
 induction k with
 |zero=>intro l _ j g;omega
 |succ k f=>
  intro l h j g;have i:=T4 h;unfold C8 at h
  split at h
  ·cases h
  ·rename_i l' c
   have d:=T4 c
   split at h
   ·rename_i hd
    cases h
    by_cases e:j=k
    ·subst e;refine⟨hd,?_⟩;unfold B3;rw[List.getD_eq_getElem?_getD,List.getElem?_append_right (by omega),d,Nat.sub_self];rfl
    ·obtain⟨a,b⟩:=f c j (by omega);refine⟨a,?_⟩;rw[←b];unfold B3;rw[List.getD_eq_getElem?_getD,List.getElem?_append_left (by omega),List.getD_eq_getElem?_getD]
   ·cases h
theorem dR{P:Bo}{S S':Dk}{j:Nat}(h:F0 j S S'): ∀k,C8 P S' k=C8 P S k:=by
 intro k
 induction k with
 |zero=>rfl
 |succ k a=>unfold C8;rw[a,J3 h]
theorem TP{l:List Cl}(h:(m9 l).2=0):l.length≤16:=by
 unfold m9 at h
 split at h
 ·simp at h
 ·omega
def MM(Ls:List (List Cl)):Prop:=Ls.length=6∧(∀i,i<6→ ∀c∈B3 Ls i,c.okB)∧ ∀i,i<6→(B3 Ls i).length≤16
theorem nC{P:Bo}{S:Dk}{Ls:List (List Cl)}(h:C8 P S 6=some Ls)(hb: ∀p,∀c∈A0 P S p,c<256):MM Ls:=by
 refine⟨T4 h,fun i d=>?_,fun i d=>?_⟩
 ·obtain⟨a,b⟩:=zY h i d;rw[b];exact(oJ (hb _) a).2
 ·obtain⟨a,b⟩:=zY h i d;rw[b];exact TP (by rw[(oJ (hb _) a).1])
theorem Ax{ks:f7}{b:Int}{c:Cl}(h:c.okB):(U1 ks b c).okB:=by
 unfold U1
 split
 ·unfold bP
  split
  ·exact h
  ·rename_i q
   obtain⟨d,a,g,f,e⟩:=h;exact⟨d,a,a,by show _≤c.n-1;omega,by show c.n-1<_;omega⟩
 ·exact h
theorem CF{ks:f7}{b:Int}{l:List Cl}(h: ∀c∈l,c.okB): ∀c∈A4 ks b l,c.okB:=by
 intro c a;unfold A4 at a;rw[List.mem_filter,List.mem_map]at a;obtain⟨⟨d,hd,rfl⟩,_⟩:=a;exact Ax (h d hd)
theorem cO{g:List Cl→List Cl}{Ls:List (List Cl)}{i:Nat}(hi:i<Ls.length):B3 (Ls.map g) i=g (B3 Ls i):=by
 rw[aW (by simpa using hi),aW hi];simp
theorem NZ{ks:f7}{b:Int}{Ls:List (List Cl)}(h:MM Ls):MM (Ls.map (A4 ks b)):=by
 refine⟨by simp[h.1],fun i a=>?_,fun i a=>?_⟩
 ·rw[cO (by rw[h.1];exact a)];exact CF (h.2.1 i a)
 ·rw[cO (by rw[h.1];exact a)];exact Nat.le_trans (lW _ _ _) (h.2.2 i a)
theorem pJ{D:n9}{w w':d9}{v:Value}{l:f7}(h:Kv w v l)(hc:Ch D w w')(hd: ∀x,v.ownBlock=some x→ ¬D x):Kv w' v l:=by
 obtain⟨o,c,e,m,k,j,g⟩:=h;refine⟨o,c,e,m,k,j,fun i f=>?_⟩;obtain⟨b,a,d,n⟩:=g i f;exact⟨b,a,d,hc.cell n (hd b (by rw[e,d];rfl))⟩
def UE(Ls:List (List Cl))(ks:f7)(mb b:Int):List (Int × f7):=if b=mb then aH Ls (Ls.map (A4 ks mb)) 6 else []
section

variable{A:n9}{w w':d9}{sv dv:Value}{k:Int}{P:Bo}{S:Dk}{sp:Nat}

theorem sK(h:ST A w sv dv k P S): ∀p,∀c∈A0 P S p,c<256:=fun p=>(mV h p).2
theorem qW(h:ST A w sv dv k P S)(hs:i6 P S=false){Ls:List (List Cl)}(hD:C8 P S 6=some Ls)(hrd:S.rd<4611686018427387904){kv:Value}{ks:f7}(hk:Kv w kv ks)(hkA: ∀x,kv.ownBlock=some x→ ¬A x)(mb ma b:Int)(hmb:mb≤9223372036854775807):
  Calls Tryz.prog 64 #[sv,.agg #[.int .i64 mb,.int .i64 ma,kv],.int .i64 b] w fun e w'=> ∃lv S',e= .returned (.tuple #[lv,.int .i64 0])∧WL w.heap.size w' lv (UE Ls ks mb b)∧ST A w' sv dv k P S'∧F0 6 S S'∧Ch A w w':=by
 have HS:=b9 hs;have I0:=b9 hrd;have HD:=b9 hD;have p:=b9 (nC hD (sK h));have L0:=b9 hmb;obtain⟨sp,q0,r0,_⟩:=h.ptr;subst q0;have Q0:c6 (∀x,A x→x<w.heap.size):=fun x hx=>h.lt hx;have q:c6 (f8 w (w.alloc (Obj.cells #[.int .i64 mb,.int .i64 ma,kv] 62))):=a8 _ _;have z:c6 _:=A9 w mb ma kv;have f0:=b9 (h.below q.o);have l0:=b9 (hk.below q.o);have N0:=b9 hkA;obtain⟨ka,kn,kc,t0⟩:=F2 hk;subst t0;clear h hs hD hrd hk hmb hkA r0;go_in;go_upto_region 1 with fail
 obtain⟨N,hN⟩:=c7 w.heap.size;rw[←hN]at z⊢;have HN:=b9 hN;clear hN;generalize w.alloc (Obj.cells #[.int .i64 mb,.int .i64 ma,.slice ka kn kc] 62)=w0 at q z f0 l0⊢;have K0:c6 (¬A N):=fun e=>by have h1:=Q0.o _ e;have n:=HN.o;omega
 have c0:=z.o.c0;by_cases hb:b=mb;rotate_left
 ·have A0:(b !=mb)=true:=by rw[bne_iff_ne];exact hb
  have d0:c6 (UE Ls ks mb b=[]):=by show _=_;unfold UE;rw[if_neg hb]
  clear hb;go_wp2_with fail;go_ret2;exact⟨_,S,rfl,by rw[d0.o];exact WL.nil _ _,f0.o,F0.refl _,Ch.of_below q.o⟩
 ·have A0:(b !=mb)=false:=by rw[bne_eq_false_iff_eq];exact hb
  have d0:c6 (UE Ls ks mb b=aH Ls (Ls.map (A4 ks mb)) 6):=by show _=_;unfold UE;rw[if_pos hb]
  clear hb;go_wp2_with fail;refine(cD f0.o I0.o).mono ?_;rintro e u ⟨c,f,S1,rfl,a,v0,hcase,hst1,t,l⟩;rw[F5 HS.o]at hst1
  have z0:c=0∧ ∀j,j<6→Cv u (f j) (B3 Ls j):=by
   rcases hcase with ⟨_,n⟩|⟨_,_,n⟩|⟨h1,_,L',n,h3⟩
   ·rw[HS.o]at n;cases n
   ·rw[HD.o]at n;cases n
   ·rw[HD.o]at n;cases n;exact⟨h1,h3⟩
  obtain⟨rfl,g0⟩:=z0;have G0:=b9 hst1;have J0:=b9 t;have m0:=b9 ((Ch.of_below q.o).self l);have M0:=b9 (z.o.ch l K0.o);have O0:=b9 (pJ l0.o l N0.o);have j0:=b9 g0;obtain⟨a0,X,O,e0⟩:=a 0 (by omega);obtain⟨a1,W,M,e1⟩:=a 1 (by omega);obtain⟨a2,U,L,e2⟩:=a 2 (by omega);obtain⟨a3,T,K,e3⟩:=a 3 (by omega);obtain⟨a4,R,J,Z⟩:=a 4 (by omega);obtain⟨a5,Q,I,Y⟩:=a 5 (by omega);have HE:c6 (f 0= .slice a0 X O∧f 1= .slice a1 W M∧f 2= .slice a2 U L∧f 3= .slice a3 T K∧f 4= .slice a4 R J∧f 5= .slice a5 Q I):=⟨e0,e1,e2,e3,Z,Y⟩;rw[e0,e1,e2,e3,Z,Y];clear a v0 hcase hst1 t l g0 c0 e0 e1 e2 e3 Z Y;go_upto_region 4 with fail
  have C:c6 (f8 u (u.alloc (Obj.cells #[.slice a0 X O,.slice a1 W M,.slice a2 U L,.slice a3 T K,.slice a4 R J,.slice a5 Q I] 84))):=a8 _ _;have i:c6 (SH (u.alloc (Obj.cells #[.slice a0 X O,.slice a1 W M,.slice a2 U L,.slice a3 T K,.slice a4 R J,.slice a5 Q I] 84)) u.heap.size f Ls):=by have h:=gI u f p.o.1 j0.o;obtain⟨e0,e1,e2,e3,Z,Y⟩:=HE.o;rw[e0,e1,e2,e3,Z,Y]at h;exact h
  obtain⟨T8,h0⟩:=c7 u.heap.size;rw[←h0]at i⊢;clear h0;generalize u.alloc (Obj.cells #[.slice a0 X O,.slice a1 W M,.slice a2 U L,.slice a3 T K,.slice a4 R J,.slice a5 Q I] 84)=H at C i⊢;have s0:=i.o.c 0 (by omega);rw[HE.o.1]at s0;have s1:=i.o.c 1 (by omega);rw[HE.o.2.1]at s1;have s2:=i.o.c 2 (by omega);rw[HE.o.2.2.1]at s2;have s3:=i.o.c 3 (by omega);rw[HE.o.2.2.2.1]at s3;have s4:=i.o.c 4 (by omega);rw[HE.o.2.2.2.2.1]at s4;have s5:=i.o.c 5 (by omega);rw[HE.o.2.2.2.2.2]at s5;go_upto_region 7 with fail
  clear s0 s1 s2 s3 s4 s5;have B:c6 (f8 H (H.alloc (Obj.cells #[.slice a0 X O,.slice a1 W M,.slice a2 U L,.slice a3 T K,.slice a4 R J,.slice a5 Q I] 84))):=a8 _ _;have v:c6 (SH (H.alloc (Obj.cells #[.slice a0 X O,.slice a1 W M,.slice a2 U L,.slice a3 T K,.slice a4 R J,.slice a5 Q I] 84)) H.heap.size f Ls):=by have h:=gI H f p.o.1 (fun j hj=>(j0.o j hj).below C.o);obtain⟨e0,e1,e2,e3,Z,Y⟩:=HE.o;rw[e0,e1,e2,e3,Z,Y]at h;exact h
  obtain⟨B0,s⟩:=c7 H.heap.size;rw[←s]at v⊢;have E:=b9 s;clear s;generalize H.alloc (Obj.cells #[.slice a0 X O,.slice a1 W M,.slice a2 U L,.slice a3 T K,.slice a4 R J,.slice a5 Q I] 84)=w3 at B v⊢;have m:=b9 (a9 C.o B.o);have y:=b9 (M0.o.keep m.o);have k0:=b9 (O0.o.below m.o);have y0:=y.o.c0;have y1:=y.o.c1;have y2:=y.o.c2;go_wp2_with fail;refine(xK v.o p.o.2.2 k0.o mb ma L0.o).mono ?_;rintro e w4 ⟨rfl,⟨g,hg,x0⟩,r⟩;have H0:=b9 hg;have C0:c6 (u.heap.size≤B0):=by have h1:=E.o;have n:=C.o.size;show _≤_;omega
  have G:=b9 (m.o.trans (r.to_below m.o.size (fun x hx=>by have:=C0.o;omega)));have d:=b9 (i.o.below (B.o.trans (r.to_below B.o.size (fun x hx=>by have:=E.o;omega))));clear hg x0 r y0 y1 y2 y k0 v;have s0:=d.o.c 0 (by omega);rw[HE.o.1]at s0;have s1:=d.o.c 1 (by omega);rw[HE.o.2.1]at s1;have s2:=d.o.c 2 (by omega);rw[HE.o.2.2.1]at s2;have s3:=d.o.c 3 (by omega);rw[HE.o.2.2.2.1]at s3;have s4:=d.o.c 4 (by omega);rw[HE.o.2.2.2.2.1]at s4;have s5:=d.o.c 5 (by omega);rw[HE.o.2.2.2.2.2]at s5;go_wp2_with fail;have b0:=nJ (g:=f) H0.o p.o.1 d.o.cv (NZ p.o).2.1;rw[HE.o.1,HE.o.2.1,HE.o.2.2.1,HE.o.2.2.2.1,HE.o.2.2.2.2.1,HE.o.2.2.2.2.2]at b0;refine b0.mono ?_;clear b0;rintro e w5 ⟨lv,rfl,D,i0⟩;have F:=b9 (a9 G.o i0);have o0:c6 (WL w.heap.size w5 lv (UE Ls ks mb b)):=by rw[d0.o];exact D.low (by have h1:=G.o.size;have n:=m0.o.size;omega)
  have D0:=b9 (G0.o.below F.o);have P0:=b9 (m0.o.self (Ch.of_below F.o));clear D i0 s0 s1 s2 s3 s4 s5;go_wp2_with fail;go_ret2;exact⟨lv,S1,rfl,o0.o,D0.o,J0.o,P0.o⟩
end
end
end Go.Proofs.YtfhoilcbhmeofaaGreat
