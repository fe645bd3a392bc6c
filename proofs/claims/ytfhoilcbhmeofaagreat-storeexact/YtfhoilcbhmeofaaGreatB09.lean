/- Contract of bucket's Put at no cells, and of Put. -/
import Derived.Test.YtfhoilcbhmeofaaGreatB08
set_option maxRecDepth 100000
set_option maxHeartbeats 16000000
namespace Go.Proofs.YtfhoilcbhmeofaaGreat
open Go.RowKit
section
variable{M:Nat}

def cH(l:f7)(w:d9)(e:Ending)(w':d9):Prop:=
 ∃v,e= .returned (.tuple #[v,.int .i64 ((t7 l).2:Nat)])∧w'.ownsRow w.heap.size 132 6 v (t7 l).1.length (l9 (t7 l).1)∧f8 w w'
theorem F9{l:f7}{w w':d9}{e:Nat}{x:Int}(h:t7 l=([],e))(hx:x=e)(hb:f8 w w'):cH l w (.returned (.tuple #[.slice none 0 0,.int .i64 x])) w':=by
 subst hx;exact⟨_,by rw[h],by rw[h];exact⟨rfl,.inl ⟨rfl,rfl⟩⟩,hb⟩
theorem wI{l:f7}{acc:List Cl}{v:Value}{w w':d9}(h:t7 l=(acc,0))(ho:w'.ownsRow w.heap.size 132 6 v acc.length (l9 acc))(hb:f8 w w'):cH l w (.returned (.tuple #[v,.int .i64 0])) w':=
 ⟨v,by rw[h];rfl,by rw[h];exact ho,hb⟩
theorem Hi{w:d9}{v:Value}{l:f7}(h:Bv w v l)(hm: ∀x,v.ownBlock=some x→x<w.heap.size):RD w.heap.size (w.alloc (Obj.cells #[v,.int .i64 0] 187)) w.heap.size v l 0:=
 ⟨by simp[go_sem],by simp[go_sem],by intro j;simp[go_sem],h.below (a8 _ _),hm⟩
theorem P5(w:d9)(c:Cl):Cv (w.alloc (Obj.cells #[.int .u64 c.k,.bool c.p.h,.int .u64 c.p.b,.bool c.c.h,.int .u64 c.c.b,.int .i64 c.n] 132)) (.slice (some ⟨w.heap.size,0,none⟩) 1 1) [c]:=by
 have:=B0 w c;obtain⟨m,j,g,f,e,d,_⟩:=this
 have h:=FV (w:=w.alloc (Obj.cells #[.int .u64 c.k,.bool c.p.h,.int .u64 c.p.b,.bool c.c.h,.int .u64 c.c.b,.int .i64 c.n] 132)) (b:=w.heap.size) (off:=0) (cap:=1) (l:=[c]) (by simp) (by simp[maxLen]) (fun i a=>by
  have:i=0:=by simp at a;omega
  subst this;exact⟨m,j,g,f,e,d⟩)
 simpa using h
theorem U2{D:n9}{w w':d9}{base e size n:Nat}{v:Value}{xs:List Value}(h:w.ownsRow base e size v n xs)(hc:Ch D w w')(hd: ∀x,D x→x<base):w'.ownsRow base e size v n xs:=by
 refine⟨h.1,?_⟩;rcases h.2 with f|⟨g,a,cur,c,d,b,r⟩
 ·exact .inl f
 ·exact .inr ⟨g,a,cur,c,d,by rw[hc.block g ((Array.getElem?_eq_some_iff.1 b).1) (fun e=>by have:=hd g e;omega)];exact b,r⟩
theorem q9{w:d9}{base base' e size n:Nat}{v:Value}{xs:List Value}(h:w.ownsRow base e size v n xs)(hb:base'≤base):w.ownsRow base' e size v n xs:=by
 refine⟨h.1,?_⟩;rcases h.2 with f|⟨g,a,cur,b,d,c,r⟩
 ·exact .inl f
 ·exact .inr ⟨g,a,cur,b,Nat.le_trans hb d,c,r⟩
theorem g8(w:d9)(o:Obj):(w.alloc o).heap.size=w.heap.size+1:=by simp[go_sem]
def PT(D:Nat × List Cl × f7)(n i:Nat)(acc:List Cl)(l:f7)(f:Nat):Prop:=
 (f=0∧acc.length=i∧D.1=(J9 (n-i) (x7 acc) l).1∧(D.1=0→D.2.1=acc++(J9 (n-i) (x7 acc) l).2.1∧D.2.2=(J9 (n-i) (x7 acc) l).2.2))∨(f≠0∧D.1=f)
theorem FT(n:Nat)(l:f7):PT (J9 n none l) n 0 [] l 0:= .inl ⟨rfl,rfl,rfl,fun _=>⟨rfl,rfl⟩⟩
theorem LV{D:Nat × List Cl × f7}{n i:Nat}{acc:List Cl}{l:f7}(h:PT D n i acc l 0)(hi:i<n):PT D n (i+1) (acc++[tB l]) (B1 (jQ l)) (AD (x7 acc) l 0):=by
 rcases h with ⟨_,j,c,d⟩|⟨h,_⟩
 ·obtain⟨g,p⟩:=Ef (x7 acc) l;have en:n-i=(n-(i+1))+1:=by omega
  rw[en]at c d;simp only[J9]at c d;by_cases q:(L3 (x7 acc) l).1=0
  ·obtain⟨o,m⟩:=p q;rw[if_neg (by omega)]at c d;rw[g,q,o,m];refine .inl ⟨rfl,by simp[j],?_⟩;rw[bY];by_cases e:(J9 (n-(i+1)) (some (L3 (x7 acc) l).2.1.k) (L3 (x7 acc) l).2.2).1=0
   ·rw[if_neg (by omega)]at c d;refine⟨by rw[c,e],fun f=>?_⟩;obtain⟨a,b⟩:=d f;exact⟨by rw[a];simp,b⟩
   ·rw[if_pos e]at c d;exact⟨c,fun f=>absurd (c.symm.trans f) e⟩
  ·rw[if_pos q]at c;rw[g];exact .inr ⟨q,c⟩
 ·exact absurd rfl h
theorem jC{l:f7}{x n:Nat}(ht:Wm.take l=(x,n,0))(h0:l.length≠0)(h1:x≠0)(h2:x≤16):t7 l=uB x (l.drop n):=by
 unfold t7;rw[if_neg h0,ht,if_neg (by simp),if_neg h1,if_neg (by simp;omega)]
theorem kS{n e:Nat}{l:f7}(h:(J9 n none l).1=e)(h0:e≠0):uB n l=([],e):=by
 unfold uB;rw[h,if_pos h0]
theorem oQ{n:Nat}{l:f7}(h:(J9 n none l).1=0)(h0:(J9 n none l).2.2.length≠0):uB n l=([],5):=by
 unfold uB;rw[if_neg (by omega),if_pos h0]
theorem zW{n:Nat}{l:f7}(h:(J9 n none l).1=0)(h0:(J9 n none l).2.2.length=0):uB n l=((J9 n none l).2.1,0):=by
 unfold uB;rw[if_neg (by omega),if_neg (by omega)]
theorem kR{l:f7}{e:Nat}(ht:Wm.take l=(0,0,e))(h0:l.length≠0)(he:e≠0):t7 l=([],e):=by
 unfold t7;rw[if_neg h0,ht,if_pos he]
theorem iD{l:f7}{n:Nat}(ht:Wm.take l=(0,n,0))(h0:l.length≠0):t7 l=([],4):=by
 unfold t7;rw[if_neg h0,ht,if_neg (by simp),if_pos rfl]
theorem kQ{l:f7}{x n:Nat}(ht:Wm.take l=(x,n,0))(h0:l.length≠0)(hx:16<x):t7 l=([],6):=by
 unfold t7;rw[if_neg h0,ht,if_neg (by simp),if_neg (by simp;omega),if_pos hx]
theorem FR(ao:Option Addr)(cap:Nat)(w:d9):Calls Tryz.prog 89 #[.slice ao 0 cap] w (cH [] w):=by
 go_in;go_wp2_with fail;go_ret2;exact F9 (e:=0) rfl rfl (Below.refl _ _)
def MO(n:Nat)(l0:f7)(w:d9)(cv iv:Value)(wr:d9):Prop:=
 ∃(i:Nat) (acc:List Cl) (v:Value) (l:f7) (f:Nat),iv= .int .u64 i∧i≤n∧acc.length≤i∧PT (J9 n none l0) n i acc l f∧RD w.heap.size wr w.heap.size v l f∧wr.ownsRow (w.heap.size+1) 132 6 cv acc.length (l9 acc)∧Ch (fun x=>x=w.heap.size) w wr
theorem FS(l:f7)(b off cap:Nat)(w:d9)(hp:0<l.length)(hv:Bv w (.slice (some ⟨b,off,none⟩) l.length cap) l)(hb:b<w.heap.size):
  Calls Tryz.prog 89 #[.slice (some ⟨b,off,none⟩) l.length cap] w (cH l w):=by
 have d1:((l.length:Int)==0)=false:=by rw[beq_eq_false_iff_ne];omega
 have h0:c6 (l.length≠0):=by show _≠_;omega
 have hT:=Wm.take_form l hv.2;obtain⟨R,hR⟩:=c7 w.heap.size
 have v0:c6 (RD R (w.alloc (Obj.cells #[.slice (some ⟨b,off,none⟩) l.length cap,.int .i64 0] 187)) R (.slice (some ⟨b,off,none⟩) l.length cap) l 0):=by
  rw[hR];exact Hi hv (fun x r=>by cases r;exact hb)
 have y0:c6 (Ch (fun x=>x=R) w (w.alloc (Obj.cells #[.slice (some ⟨b,off,none⟩) l.length cap,.int .i64 0] 187))):=Ch.of_below (a8 _ _);clear hp hv hb;go_in;go_upto_region 4 with fail
 rw[←hR];generalize w.alloc (Obj.cells #[.slice (some ⟨b,off,none⟩) l.length cap,.int .i64 0] 187)=w0 at v0 y0⊢;have j:c6 (R=w.heap.size):=hR;clear hR;go_wp2_with fail;refine(gZ v0.o).mono ?_;rintro N w1 ⟨rfl,⟨v1,D0⟩,F0⟩;have L:c6 (Ch (fun x=>x=R) w w1):=y0.o.self F0;have K:=b9 D0;clear D0 F0 y0 v0;rcases hT with ⟨e,P,T0⟩|⟨x,n,P,r,n0,m0,k0⟩
 ·have e1:(Wm.take l).1=0:=by rw[P]
  have en:M8 l 0=e:=by unfold M8;rw[P];exact dP (by simp;omega)
  have m:c6 (e≠0):=by show _≠_;omega
  have HD:=b9 (kR P h0.o m.o);clear P T0;rw[e1]at*;have y:c6 (RD R w1 R v1 (B1 l) e):=by show RD _ _ _ _ _ _;rw[←en];exact K.o
  clear K;go_wp2_with fail;refine(o8 y.o true 4).mono ?_;rw[show G3 true 4 e=e from y7 m.o];rintro N w2 ⟨rfl,B,E⟩;have F:=b9 B;have G:c6 (Ch (fun x=>x=R) w w2):=L.o.self E;clear B E y L;go_wp2_with fail;refine(o8 F.o false 6).mono ?_;rw[show G3 false 6 e=e from Z6 _ _];rintro N H ⟨rfl,u,C⟩;have g:c6 (RD R (H.alloc (Obj.cells #[] 132)) R v1 (B1 l) e):=u.below (a8 _ _);have z:c6 (Ch (fun x=>x=R) w (H.alloc (Obj.cells #[] 132))):=(G.o.self C).self (Ch.of_below (a8 _ _));clear u C F G;go_upto_region 8 with fail
  generalize H.alloc (Obj.cells #[] 132)=w4 at g z⊢;have t1:=g.o.c1;go_wp2_with fail;refine wp_loop_rounds 1 ?_;rw[rounds_succ];obtain⟨ao,ln,lc,A⟩:=r8 g.o.bv;subst A;have W:=g.o.c0;go_wp2_with fail;refine(o8 g.o _ 5).mono ?_;rw[y7 m.o];rintro N wz ⟨rfl,I,d⟩;have t:c6 (f8 w wz):=(z.o.self d).to_below (Nat.le_refl _) (fun x r=>by rw[r,j.o];exact Nat.le_refl _);have U:=I.c1;have s2: ∀n,(wz.drewN n).cell? ⟨R,1,none⟩=some (.int .i64 (e:Nat)):=fun _=>U;have g0:(((e:Nat):Int) !=0)=true:=by rw[bne_iff_ne];have h:=m.o;omega
  clear I d W;go_wp2_with fail;go_quiet (fail);go_wp2_with fail;go_ret2;exact F9 HD.o (by rfl) (a9 t.o (d8 _ _))
 ·have e1:(Wm.take l).1=x:=by rw[P]
  have en:M8 l 0=0:=by unfold M8;rw[P];exact bQ (by simp)
  by_cases d0:x=0
  ·subst d0;have m:c6 (4≠0):=by show _≠_;omega
   have HD:c6 (t7 l=([],4)):=iD P h0.o;clear P n0 m0 k0 r;rw[e1]at*;have y:c6 (RD R w1 R v1 (B1 l) 0):=by show RD _ _ _ _ _ _;rw[←en];exact K.o
   clear K;go_wp2_with fail;refine(o8 y.o true 4).mono ?_;rw[show G3 true 4 0=4 from aC 4];rintro N w2 ⟨rfl,B,E⟩;have F:=b9 B;have G:c6 (Ch (fun x=>x=R) w w2):=L.o.self E;clear B E y L;go_wp2_with fail;refine(o8 F.o false 6).mono ?_;rw[show G3 false 6 4=4 from Z6 _ _];rintro N H ⟨rfl,u,C⟩;have g:c6 (RD R (H.alloc (Obj.cells #[] 132)) R v1 (B1 l) 4):=u.below (a8 _ _);have z:c6 (Ch (fun x=>x=R) w (H.alloc (Obj.cells #[] 132))):=(G.o.self C).self (Ch.of_below (a8 _ _));clear u C F G;go_upto_region 8 with fail
   generalize H.alloc (Obj.cells #[] 132)=w4 at g z⊢;have t1:=g.o.c1;go_wp2_with fail;refine wp_loop_rounds 1 ?_;rw[rounds_succ];obtain⟨ao,ln,lc,A⟩:=r8 g.o.bv;subst A;have W:=g.o.c0;go_wp2_with fail;refine(o8 g.o _ 5).mono ?_;rw[y7 m.o];rintro N wz ⟨rfl,I,d⟩;have t:c6 (f8 w wz):=(z.o.self d).to_below (Nat.le_refl _) (fun x r=>by rw[r,j.o];exact Nat.le_refl _);have U:=I.c1;have s2: ∀n,(wz.drewN n).cell? ⟨R,1,none⟩=some (.int .i64 (4:Nat)):=fun _=>U;have g0:(((4:Nat):Int) !=0)=true:=by rw[bne_iff_ne];have h:=m.o;omega
   clear I d W;go_wp2_with fail;go_quiet (fail);go_wp2_with fail;go_ret2;exact F9 HD.o (by rfl) (a9 t.o (d8 _ _))
  ·have Y0:((x:Int)==0)=false:=by rw[beq_eq_false_iff_ne];omega
   by_cases Y:16<x
   ·have O:(16:Int)<(x:Int):=by omega
    have a1:(0:Int)<(x:Int):=by omega
    have A0:decide ((16:Int)<(x:Int))=true:=decide_eq_true O;have m:c6 (6≠0):=by show _≠_;omega
    have HD:c6 (t7 l=([],6)):=kQ P h0.o Y;clear P n0 m0 k0 r Y d0;rw[e1]at*;have y:c6 (RD R w1 R v1 (B1 l) 0):=by show RD _ _ _ _ _ _;rw[←en];exact K.o
    clear K;go_wp2_with fail;refine(o8 y.o false 4).mono ?_;rw[show G3 false 4 0=0 from Z6 _ _];rintro N w2 ⟨rfl,B,E⟩;have F:=b9 B;have G:c6 (Ch (fun x=>x=R) w w2):=L.o.self E;clear B E y L;go_wp2_with fail;refine(o8 F.o true 6).mono ?_;rw[show G3 true 6 0=6 from aC 6];rintro N H ⟨rfl,u,C⟩;have g:c6 (RD R (H.alloc (Obj.cells #[] 132)) R v1 (B1 l) 6):=u.below (a8 _ _);have z:c6 (Ch (fun x=>x=R) w (H.alloc (Obj.cells #[] 132))):=(G.o.self C).self (Ch.of_below (a8 _ _));clear u C F G;go_upto_region 8 with fail
    generalize H.alloc (Obj.cells #[] 132)=w4 at g z⊢;have t1:=g.o.c1;go_wp2_with fail;refine wp_loop_rounds 1 ?_;rw[rounds_succ];obtain⟨ao,ln,lc,A⟩:=r8 g.o.bv;subst A;have W:=g.o.c0;go_wp2_with fail;refine(o8 g.o _ 5).mono ?_;rw[y7 m.o];rintro N wz ⟨rfl,I,d⟩;have t:c6 (f8 w wz):=(z.o.self d).to_below (Nat.le_refl _) (fun x r=>by rw[r,j.o];exact Nat.le_refl _);have U:=I.c1;have s2: ∀n,(wz.drewN n).cell? ⟨R,1,none⟩=some (.int .i64 (6:Nat)):=fun _=>U;have g0:(((6:Nat):Int) !=0)=true:=by rw[bne_iff_ne];have h:=m.o;omega
    clear I d W;go_wp2_with fail;go_quiet (fail);go_wp2_with fail;go_ret2;exact F9 HD.o (by rfl) (a9 t.o (d8 _ _))
   ·have O: ¬(16:Int)<(x:Int):=by omega
    have A0:decide ((16:Int)<(x:Int))=false:=decide_eq_false O;have HX:c6 (x≤16):=by show _≤_;omega
    have HD:c6 (t7 l=uB x (l.drop n)):=jC P h0.o d0 (by omega);have M0:c6 (B1 l=l.drop n):=by show B1 l=_;unfold B1;rw[P]
    rw[e1]at*;have y:c6 (RD R w1 R v1 (l.drop n) 0):=by show RD _ _ _ _ _ _;rw[←M0.o,←en];exact K.o
    obtain⟨l0,i0⟩:=c7 (l.drop n);rw[←i0]at HD y;clear P n0 m0 k0 r Y d0 K en M0 i0 e1;go_wp2_with fail;refine(o8 y.o false 4).mono ?_;rw[Z6];rintro N w2 ⟨rfl,B,E⟩;have F:=b9 B;have G:c6 (Ch (fun x=>x=R) w w2):=L.o.self E;clear B E y L;go_wp2_with fail;refine(o8 F.o false 6).mono ?_;rw[Z6];rintro N H ⟨rfl,u,C⟩;have g:c6 (RD R (H.alloc (Obj.cells #[] 132)) R v1 l0 0):=u.below (a8 _ _);have z:c6 (Ch (fun x=>x=R) w (H.alloc (Obj.cells #[] 132))):=(G.o.self C).self (Ch.of_below (a8 _ _));have J0:c6 (R<H.heap.size):=c8 u.c0;have x0:c6 ((H.alloc (Obj.cells #[] 132)).ownsRow (w.heap.size+1) 132 6 (.slice (some ⟨H.heap.size,0,none⟩) 0 0) 0 []):=World.ownsRow_made H #[] 0 (by have h1:=J0.o;rw[j.o]at h1;omega) (by simp[maxLen]) rfl;clear u C F G;go_upto_region 8 with fail
    generalize H.alloc (Obj.cells #[] 132)=w4 at g z x0⊢;have H0:c6 (MO x l0 w (.slice (some ⟨H.heap.size,0,none⟩) 0 0) (.int .u64 0) w4):=⟨0,[],v1,l0,0,rfl,Nat.zero_le _,Nat.le_refl _,FT x l0,by rw[←j.o];exact g.o,x0.o,by rw[←j.o];exact z.o⟩;clear g z x0 J0;have Z0:(x:Int)≤16:=by omega
    go_wp2_with fail;go_loopw [6,7] (fun cv iv wr=>MO x l0 w cv iv wr) (fun _ iv _=>x-(intOf iv).toNat)
    case atStart=>exact H0.o
    case round=>
     obtain⟨i,acc,v,l',f,rfl,hi,j0,C0,f0,Z,q0⟩:=hrel;rw[←j.o]at f0 q0 Z;have z0:=b9 C0;have s:=b9 f0;have Q:=b9 Z;have T:c6 (Ch (fun x=>x=R) w wr):=q0;have Q0:c6 (acc.length≤i):=j0;have r1:=f0.c1;clear C0 f0 Z q0 j0 H0;by_cases hf:f=0
     ·subst hf;by_cases o0:i<x
      ·have a0:(i:Int)<(x:Int):=by omega
       have L0:=b9 (LV z0.o o0);obtain⟨c,hc⟩:=c7 (tB l');rw[←hc]at L0;go_wp2_with fail;refine(TT (q:=acc) s.o (fun w' h=>(cX (U2 Q.o h (fun x r=>by rw[r];omega))).1)).mono ?_;rw[←hc];rintro N w5 ⟨rfl,⟨v5,r0⟩,t0⟩;have K0:c6 (RD R (w5.alloc (Obj.cells #[.int .u64 c.k,.bool c.p.h,.int .u64 c.p.b,.bool c.c.h,.int .u64 c.c.b,.int .i64 c.n] 132)) R v5 (B1 (jQ l')) (AD (x7 acc) l' 0)):=r0.below (a8 _ _);have X:c6 ((w5.alloc (Obj.cells #[.int .u64 c.k,.bool c.p.h,.int .u64 c.p.b,.bool c.c.h,.int .u64 c.c.b,.int .i64 c.n] 132)).ownsRow (R+1) 132 6 u6 acc.length (l9 acc)):=(U2 Q.o t0 (fun x r=>by rw[r];omega)).alloc _;have P0:c6 (Ch (fun x=>x=R) w (w5.alloc (Obj.cells #[.int .u64 c.k,.bool c.p.h,.int .u64 c.p.b,.bool c.c.h,.int .u64 c.c.b,.int .i64 c.n] 132))):=(T.o.self t0).self (Ch.of_below (a8 _ _));have G0:c6 (Cv (w5.alloc (Obj.cells #[.int .u64 c.k,.bool c.p.h,.int .u64 c.p.b,.bool c.c.h,.int .u64 c.c.b,.int .i64 c.n] 132)) (.slice (some ⟨w5.heap.size,0,none⟩) 1 1) [c]):=P5 w5 c;have I0:c6 (R+1≤(w5.alloc (Obj.cells #[.int .u64 c.k,.bool c.p.h,.int .u64 c.p.b,.bool c.c.h,.int .u64 c.c.b,.int .i64 c.n] 132)).heap.size):=by have h1:R<w5.heap.size:=c8 r0.c0;show _≤_;rw[g8];omega
       have O0:c6 (acc.length+1≤17):=by have h1:=Q0.o;have h2:=HX.o;show _≤_;omega
       clear r0 t0 r1 hc;go_wp2_with (at_builtin;refine i9 (by rfl) (.tmp 37) (.tmp 41) (by rfl) (R+1) _ _ _ (by rfl) X.o _ [c] (by rfl) G0.o (by have:=O0.o;simp only[maxLen,List.length_singleton];omega) (by have:=O0.o;simp only[List.length_singleton];omega) I0.o ?_;intro v7 w7 b0 J);have U0:c6 (RD R w7 R v5 (B1 (jQ l')) (AD (x7 acc) l' 0)):=K0.o.ch (Ch.of_grown (D:=fun x=>u6.ownBlock=some x) J (fun x r=>r)) (fun h=>by have:=(X.o.lt R h).1;omega) (fun x h=>by have:=(X.o.lt x h).1;omega);have X0:c6 (Ch (fun x=>x=R) w w7):=P0.o.trans (Ch.of_grown (D:=fun x=>u6.ownBlock=some x) J (fun x r=>r)) (fun x h=> .inr (by have:=(X.o.lt x h).1;rw[j.o]at this;omega))
       have W0:c6 (w7.ownsRow (w.heap.size+1) 132 6 v7 (acc++[c]).length (l9 (acc++[c]))):=by
        show World.ownsRow _ _ _ _ _ _ _;rw[G4,List.length_append,←j.o];exact b0
       clear b0 J X K0 P0 G0 I0 Q s T;have R0:c6 (MO x l0 w v7 (.int .u64 ((i:Int)+1)) w7):=⟨i+1,acc++[c],v5,_,_,rfl,o0,by have:=Q0.o;simp;omega,L0.o,by rw[←j.o];exact U0.o,W0.o,by rw[←j.o];exact X0.o⟩;go_wp2;go_roundw
       case rel=>exact R0.o
       case measure=>simp[intOf];omega
      ·have a0: ¬(i:Int)<(x:Int):=by omega
       obtain rfl:i=x:=by omega
       have M:c6 ((J9 i none l0).1=0∧(J9 i none l0).2.1=acc∧(J9 i none l0).2.2=l'):=by
        rcases z0.o with ⟨_,_,h2,h3⟩|⟨h,_⟩
        ·rw[Nat.sub_self]at h2 h3;simp only[J9]at h2 h3;obtain⟨a,b⟩:=h3 h2;exact⟨h2,by rw[a];simp,b⟩
        ·exact absurd rfl h
       obtain⟨ao,ln,lc,A⟩:=r8 s.o.bv;subst A;obtain⟨B0,_,_⟩:=cU s.o.bv;have N0:=b9 B0;clear B0;have W:=s.o.c0;by_cases p0:ln=0
       ·have S:c6 (t7 l=(acc,0)):=by
         show _=_;rw[HD.o,zW M.o.1 (by rw[M.o.2.2,←N0.o];exact p0),M.o.2.1]
        subst p0;go_wp2_with fail;refine(o8 s.o false 5).mono ?_;rw[Z6];rintro N wz ⟨rfl,I,d⟩;have t:c6 (f8 w wz):=(T.o.self d).to_below (Nat.le_refl _) (fun x r=>by rw[r,j.o];exact Nat.le_refl _);have V0:c6 (wz.ownsRow w.heap.size 132 6 u6 acc.length (l9 acc)):=q9 (U2 Q.o d (fun x r=>by rw[r];omega)) (by rw[j.o];omega);have U:=I.c1;clear I d W;go_wp2_with fail;go_ret2;exact wI S.o V0.o t.o
       ·have b1:(0:Int)<(ln:Int):=by omega
        have S0:decide (0<ln)=true:=decide_eq_true (by omega)
        have S:c6 (t7 l=([],5)):=by
         show _=_;rw[HD.o,oQ M.o.1 (by rw[M.o.2.2,←N0.o];exact p0)]
        go_wp2_with fail;try rw[S0]
        refine(o8 s.o true 5).mono ?_;rw[aC];rintro N wz ⟨rfl,I,d⟩;have t:c6 (f8 w wz):=(T.o.self d).to_below (Nat.le_refl _) (fun x r=>by rw[r,j.o];exact Nat.le_refl _);have U:=I.c1;have s2: ∀n,(wz.drewN n).cell? ⟨R,1,none⟩=some (.int .i64 5):=fun _=>U;clear I d W;go_wp2_with fail;go_quiet (fail);go_wp2_with fail;go_ret2;exact F9 S.o (by rfl) (a9 t.o (d8 _ _))
     ·have m:c6 (f≠0):=hf;have f1:((f:Int)==0)=false:=by rw[beq_eq_false_iff_ne];omega
      have S:c6 (t7 l=([],f)):=by
       show _=_;rcases z0.o with ⟨h,_⟩|⟨_,h⟩
       ·exact absurd h hf
       ·rw[HD.o,kS h m.o]
      by_cases o0:i<x
      ·have a0:(i:Int)<(x:Int):=by omega
       obtain⟨ao,ln,lc,A⟩:=r8 s.o.bv;subst A;have W:=s.o.c0;go_wp2_with fail;refine(o8 s.o _ 5).mono ?_;rw[y7 m.o];rintro N wz ⟨rfl,I,d⟩;have t:c6 (f8 w wz):=(T.o.self d).to_below (Nat.le_refl _) (fun x r=>by rw[r,j.o];exact Nat.le_refl _);have U:=I.c1;have s2: ∀n,(wz.drewN n).cell? ⟨R,1,none⟩=some (.int .i64 (f:Nat)):=fun _=>U;have g0:(((f:Nat):Int) !=0)=true:=by rw[bne_iff_ne];have h:=m.o;omega
       clear I d W;go_wp2_with fail;go_quiet (fail);go_wp2_with fail;go_ret2;exact F9 S.o (by rfl) (a9 t.o (d8 _ _))
      ·have a0: ¬(i:Int)<(x:Int):=by omega
       obtain⟨ao,ln,lc,A⟩:=r8 s.o.bv;subst A;have W:=s.o.c0;go_wp2_with fail;refine(o8 s.o _ 5).mono ?_;rw[y7 m.o];rintro N wz ⟨rfl,I,d⟩;have t:c6 (f8 w wz):=(T.o.self d).to_below (Nat.le_refl _) (fun x r=>by rw[r,j.o];exact Nat.le_refl _);have U:=I.c1;have s2: ∀n,(wz.drewN n).cell? ⟨R,1,none⟩=some (.int .i64 (f:Nat)):=fun _=>U;have g0:(((f:Nat):Int) !=0)=true:=by rw[bne_iff_ne];have h:=m.o;omega
       clear I d W;go_wp2_with fail;go_quiet (fail);go_wp2_with fail;go_ret2;exact F9 S.o (by rfl) (a9 t.o (d8 _ _))
theorem FQ{w:d9}{v:Value}{l:f7}(h:Bv w v l):Calls Tryz.prog 89 #[v] w (cH l w):=by
 rcases N6 h with ⟨rfl,f,a,rfl⟩|⟨b,c,a,rfl,d,i,g,e⟩
 ·exact FR f a w
 ·exact FS l b c a w d h (c8 (e 0 d))
end
def Pc(w:d9)(v:Value)(ls:List (List Cl)):Prop:=
 ∃ao cap,v= .slice ao ls.length cap∧ls.length≤cap∧cap≤maxLen∧(ao=none→cap=0)∧
  ∀i,i<ls.length→ ∃b off u,ao=some ⟨b,off,none⟩∧w.cell? ⟨b,off+i,none⟩=some u∧Cv w u (ls.getD i [])
theorem YJ(ls:List (List Cl))(k:Nat):(ls.take k).flatten.length≤ls.flatten.length:=by
 have:ls.flatten=(ls.take k).flatten++(ls.drop k).flatten:=by rw[←List.flatten_append,List.take_append_drop]
 rw[this];simp
theorem sL(ls:List (List Cl))(k:Nat)(hk:k<ls.length):(ls.take (k+1)).flatten=(ls.take k).flatten++ls.getD k []:=by
 have e:ls.getD k []=ls[k]:=by simp[List.getD,List.getElem?_eq_getElem hk]
 rw[e,List.take_succ_eq_append_getElem hk,List.flatten_append,List.flatten_singleton]
def ZX(ls:List (List Cl))(H:Nat)(w:d9)(v iv:Value)(wr:d9):Prop:=
 ∃k:Nat,k≤ls.length∧iv= .int .i64 k∧wr.ownsRow H 132 6 v (ls.take k).flatten.length (l9 (ls.take k).flatten)∧Below H w wr
theorem KY{ls:List (List Cl)}{H k:Nat}{w wr w1:d9}{v v':Value}{p:List Cl}(hp:ls.getD k []=p)(hk:k<ls.length)(hH:H≤wr.heap.size)(hbel:Below H w wr)
  (hown:wr.ownsRow H 132 6 v (ls.take k).flatten.length (l9 (ls.take k).flatten))
  (hown':w1.ownsRow H 132 6 v' ((ls.take k).flatten.length+p.length) (l9 (ls.take k).flatten++l9 p)) (hg:wr.grownBy w1 v.ownBlock):
  ZX ls H w v' (.int .i64 ((k:Int)+1)) w1:=by
 refine⟨k+1,hk,rfl,?_,hbel.trans (g9 hown hg hH)⟩;rw[sL ls k hk,hp,List.length_append,G4];exact hown'
theorem EG(ls:List (List Cl))(b off cap:Nat)(w:d9)(hl:ls.length≤cap)(hcap:cap≤maxLen)(hsz:ls.flatten.length*48≤140737488355328)
  (hc: ∀i,i<ls.length→ ∃u,w.cell? ⟨b,off+i,none⟩=some u∧Cv w u (ls.getD i [])):
  Calls Tryz.prog 186 #[.slice (some ⟨b,off,none⟩) ls.length cap] w fun e w'=> ∃v,e= .returned v∧w'.ownsRow w.heap.size 132 6 v ls.flatten.length (l9 ls.flatten)∧f8 w w':=by
 unfold maxLen at hcap
 have t:c6 (ZX ls w.heap.size w (.slice (some ⟨w.heap.size,0,none⟩) 0 0) (.int .i64 0) (w.alloc (.cells #[] 132))):=
  ⟨0,Nat.zero_le _,rfl,World.ownsRow_made w #[] 0 (Nat.le_refl _) (by simp[maxLen]) rfl,a8 w _⟩
 have A:(ls.length:Int)≤9223372036854775807:=by omega
 have s:=b9 hsz;have HC:c6 (∀i,i<ls.length→ ∃u,w.cell? ⟨b,off+i,none⟩=some u∧Cv w u (ls.getD i [])):=hc;clear hcap hsz hc hl;go_in;go_wp2;go_loopw [3,9] (fun v iv wr=>ZX ls w.heap.size w v iv wr) (fun _ iv _=>ls.length-(intOf iv).toNat)
 case atStart=>exact t.o
 case round=>
  obtain⟨k,C,rfl,f,d⟩:=hrel;have y:w.heap.size≤wr.heap.size:=d.size;by_cases l:k<ls.length
  ·obtain⟨u,q,j⟩:=HC.o k l;obtain⟨p,n⟩: ∃p,ls.getD k []=p:=⟨_,rfl⟩;rw[n]at j;have HP:c6 (ls.getD k []=p):=n;have HB:c6 (Cv wr u p):=j.below d
   have m:c6 (((ls.take k).flatten.length+p.length)*48≤140737488355328):=by
    have z:=YJ ls (k+1);rw[sL ls k l,List.length_append,n]at z;have D:=s.o;show _≤_;omega
   obtain⟨a,c,r⟩:=j.form;have x:wr.cell? ⟨b,off+k,none⟩=some u:=by rw[d.cell (p:=⟨b,off+k,none⟩) (c8 q)];exact q
   subst r;clear n q j;go_wp2_with (at_builtin;refine i9 (by rfl) (.tmp 13) (.tmp 14) (by rfl) w.heap.size _ _ _ (by rfl) f _ p (by rfl) HB.o (by have:=m.o;simp only[maxLen];omega) (by have:=m.o;omega) y ?_;intro v' B g h);have R:=KY HP.o l y d f g h;clear g h;go_wp2;go_roundw
   case rel=>exact R
   case measure=>simp[intOf];omega
  ·obtain rfl:k=ls.length:=by omega
   have HO:c6 (wr.ownsRow w.heap.size 132 6 u3 ls.flatten.length (l9 ls.flatten)):=by
    have:=f;rwa [List.take_length]at this
   clear f;go_wp2;go_ret;exact⟨_,rfl,HO.o,d⟩
theorem Q8{w:d9}{v:Value}{ls:List (List Cl)}(h:Pc w v ls)(h0:0<ls.length)(hsz:ls.flatten.length*48≤140737488355328):
  Calls Tryz.prog 186 #[v] w fun e w'=> ∃v,e= .returned v∧w'.ownsRow w.heap.size 132 6 v ls.flatten.length (l9 ls.flatten)∧f8 w w':=by
 obtain⟨o,c,rfl,j,g,n,d⟩:=h;obtain⟨b,a,u,rfl,_,_⟩:=d 0 h0;refine EG ls b a c w j g hsz fun i f=>?_;obtain⟨b',off',u',m,l,k⟩:=d i f
 cases m
 exact⟨u',l,k⟩
theorem bS{w:d9}{a b c:Value}{la lb lc:List Cl}(t:TypeId)(ha:Cv w a la)(hb:Cv w b lb)(hc:Cv w c lc):
  Pc (w.alloc (.cells #[a,b,c] t)) (.slice (some ⟨w.heap.size,0,none⟩) 3 3) [la,lb,lc]:=by
 refine⟨_,3,rfl,Nat.le_refl _,by simp[maxLen],by simp,fun i d=>?_⟩;simp at d;have:i=0∨i=1∨i=2:=by omega
 rcases this with rfl|rfl|rfl
 ·exact⟨_,_,a,rfl,by simp,ha.below (a8 _ _)⟩
 ·exact⟨_,_,b,rfl,by simp,hb.below (a8 _ _)⟩
 ·exact⟨_,_,c,rfl,by simp,hc.below (a8 _ _)⟩
def I7(l:List Cl)(c:Cl):List Cl × Nat:=
 if O9 l=false then([],7)else if fT l (x8 l c.k) c.k=true then(l.take (x8 l c.k)++([c]++l.drop (x8 l c.k+1)),0)else
 if 16≤l.length then([],92)else(l.take (x8 l c.k)++([c]++l.drop (x8 l c.k)),0)
def F1(r:List Cl × Nat)(w:d9)(e:Ending)(w':d9):Prop:=
 ∃v,e= .returned (.tuple #[v,.int .i64 (r.2:Nat)])∧w'.ownsRow w.heap.size 132 6 v r.1.length (l9 r.1)∧f8 w w'
theorem qE{r:List Cl × Nat}{w w':d9}{e:Nat}{x:Int}(h:r=([],e))(hx:x=e)(hb:f8 w w'):F1 r w (.returned (.tuple #[.slice none 0 0,.int .i64 x])) w':=by
 subst hx h;exact⟨_,rfl,⟨rfl,.inl ⟨rfl,rfl⟩⟩,hb⟩
theorem W1{r:List Cl × Nat}{l:List Cl}{v:Value}{w w1 w':d9}(h:r=(l,0))(ho:w'.ownsRow w1.heap.size 132 6 v l.length (l9 l))(h1:w.heap.size≤w1.heap.size)(hb:f8 w w'):F1 r w (.returned (.tuple #[v,.int .i64 0])) w':=by
 subst h;exact⟨v,rfl,q9 ho h1,hb⟩
theorem zD{l:List Cl}{i k:Nat}(h:fT l i k=true):i<l.length:=by
 rcases Nat.lt_or_ge i l.length with q|q
 ·exact q
 ·simp[fT,List.getElem?_eq_none q]at h
theorem fJ(a b c:List Cl):[a,b,c].flatten=a++(b++c):=by simp
theorem V0{l:List Cl}{k:Nat}(h:O9 l=true):I0 l k=x8 l k:=by simp[I0,h]
theorem R5{l:List Cl}{k:Nat}(h:O9 l=true):I1 l k=fT l (x8 l k) k:=by simp[I1,h]
theorem Bg(l:List Cl)(c:Cl)(ao:Option Addr)(cap:Nat)(w:d9)(hv:Cv w (.slice ao l.length cap) l)(ho:O9 l=false):
  Calls Tryz.prog 138 #[.slice ao l.length cap,.agg #[.int .u64 c.k,.bool c.p.h,.int .u64 c.p.b,.bool c.c.h,.int .u64 c.c.b,.int .i64 c.n]] w (F1 (I7 l c) w):=by
 have HV:=b9 hv;have a:c6 (f8 w (w.alloc (Obj.cells #[.int .u64 c.k,.bool c.p.h,.int .u64 c.p.b,.bool c.c.h,.int .u64 c.c.b,.int .i64 c.n] 132))):=a8 _ _;have HR:c6 (I7 l c=([],7)):=by show _=_;unfold I7;rw[if_pos ho]
 clear hv;go_in;go_wp2_with fail;refine(R4 (HV.o.below a.o)).mono ?_;rw[ho];rintro e f ⟨rfl,d⟩;go_wp2_with fail;go_ret2;exact qE HR.o rfl (a9 a.o d)
theorem RU(l:List Cl)(c:Cl)(ao:Option Addr)(cap:Nat)(w:d9)(hv:Cv w (.slice ao l.length cap) l)(ho:O9 l=true)(hk:fT l (x8 l c.k) c.k=true)(hsz:(l.length+1)*48≤140737488355328):
  Calls Tryz.prog 138 #[.slice ao l.length cap,.agg #[.int .u64 c.k,.bool c.p.h,.int .u64 c.p.b,.bool c.c.h,.int .u64 c.c.b,.int .i64 c.n]] w (F1 (I7 l c) w):=by
 have HV:=b9 hv;have X:=b9 (B0 w c);have R:c6 (f8 w (w.alloc (Obj.cells #[.int .u64 c.k,.bool c.p.h,.int .u64 c.p.b,.bool c.c.h,.int .u64 c.c.b,.int .i64 c.n] 132))):=a8 _ _;have B:=b9 ho;obtain⟨A,F⟩:=c7 (x8 l c.k);have U:A≤l.length:=by rw[F];exact kK l c.k
 obtain⟨ao',cap',T,G,H,C,_⟩:=hv
 cases T
 unfold maxLen at H;have g0:(cap:Int)≤9223372036854775807:=by omega
 have b0:(l.length:Int)≤(cap:Int):=by omega
 have i0:(A:Int)≤(l.length:Int):=by omega
 have l0:(A:Int)≤(cap:Int):=by omega
 have HA:=b9 F;have O:c6 (fT l A c.k=true):=by show _=_;rw[F];exact hk
 have t:=zD O.o;have HR:c6 (I7 l c=(l.take A++([c]++l.drop (A+1)),0)):=by show _=_;unfold I7;rw[if_neg (by simp[ho]),if_pos hk,F]
 have L:c6 ([l.take A,[c],l.drop (A+1)].flatten.length*48≤140737488355328):=by show _≤_;rw[fJ];simp only[List.length_append,List.length_take,List.length_drop,List.length_singleton];omega
 have Y:(A:Int)<(l.length:Int):=by omega
 have a0:(A:Int)+1≤(l.length:Int):=by omega
 have Z:(A:Int)+1≤(cap:Int):=by omega
 have M:=b9 t;have d0:IntKind.i64.wrap ((A:Int)+1)=(A:Int)+1:=by rw[IntKind.wrap_i64];omega
 have n0:(0:Int)≤(A:Int)+1:=by omega
 have f0:((A:Int)+1).toNat=A+1:=by omega
 have m0:(A:Int)≤(A:Int)+1:=by omega
 obtain⟨b,f,rfl⟩: ∃b f,ao=some ⟨b,f,none⟩:=by
  rcases B2 HV.o with ⟨h0,_⟩|⟨b,f,cap',e,_⟩
  ·rw[h0]at t;simp at t
  ·cases e;exact⟨b,f,rfl⟩
 have W:=b9 G;clear F hk hsz U G H C t ho;go_in;go_wp2_with fail;refine(R4 (HV.o.below R.o)).mono ?_;rw[B.o];rintro e w1 ⟨rfl,y⟩;have Q:=b9 (a9 R.o y);have P:=b9 (X.o.keep y);have k0:=P.o.c0;clear y;go_wp2_with fail;refine(fL (HV.o.below Q.o) c.k).mono ?_;rw[V0 B.o,R5 B.o,←HA.o,O.o];rintro e d ⟨rfl,x⟩;have j:=b9 (a9 Q.o x);have g:=b9 (P.o.keep x);clear k0;clear x;have J: ∀wx,f8 d wx→Cv wx (.slice (some ⟨b,f,none⟩) A cap) (l.take A):=fun wx h=>(HV.o.below (a9 j.o h)).upto A (by have:=M.o;omega);by_cases I:cap=A+1
 ·have N:c6 (l.length≤A+1):=by have:=W.o;show _≤_;omega
  subst I;go_upto_region 5 with fail
  have z: ∀wx,f8 d wx→Cv wx (.slice (some ⟨b,f,none⟩) (l.length-(A+1)) 0) (l.drop (A+1)):=fun wx h=>by
   rw[show l.length-(A+1)=0 from by have:=N.o;omega];exact Cv.void N.o
  have j0: ∀wx,f8 d wx→wx.cell? ⟨w.heap.size,0,none⟩=some (.int .u64 c.k):=fun wx h=>(g.o.keep h).c0;have j1: ∀wx,f8 d wx→wx.cell? ⟨w.heap.size,1,none⟩=some (.bool c.p.h):=fun wx h=>(g.o.keep h).c1;have j2: ∀wx,f8 d wx→wx.cell? ⟨w.heap.size,2,none⟩=some (.int .u64 c.p.b):=fun wx h=>(g.o.keep h).c2;have j3: ∀wx,f8 d wx→wx.cell? ⟨w.heap.size,3,none⟩=some (.bool c.c.h):=fun wx h=>(g.o.keep h).c3;have j4: ∀wx,f8 d wx→wx.cell? ⟨w.heap.size,4,none⟩=some (.int .u64 c.c.b):=fun wx h=>(g.o.keep h).c4;have j5: ∀wx,f8 d wx→wx.cell? ⟨w.heap.size,5,none⟩=some (.int .i64 c.n):=fun wx h=>(g.o.keep h).c5;refine wp_region_noPanic ?_;refine wp_region_held_drew (S:=fun wx=>f8 d wx) (by kernel_rfl) ?_ fun a=>?_
  ·exact(Below.refl _ _).drew
  refine g6 0 19 rfl a ?_;refine g6 1 20 rfl a ?_;refine g6 2 21 rfl a ?_;refine g6 3 22 rfl a ?_;refine g6 5 24 rfl a ?_;refine g6 6 25 rfl a ?_;refine g6 7 26 rfl a ?_;refine g6 8 27 rfl a ?_;refine C7 4 23 rfl fun K i=>?_;go_simp;have E:Cv ((d.alloc (Obj.cells #[.int .u64 c.k,.bool c.p.h,.int .u64 c.p.b,.bool c.c.h,.int .u64 c.c.b,.int .i64 c.n] 132)).drew) (.slice (some ⟨d.heap.size,0,none⟩) 1 1) [c]:=(P5 d c).below (J8 _);have r:f8 d ((d.alloc (Obj.cells #[.int .u64 c.k,.bool c.p.h,.int .u64 c.p.b,.bool c.c.h,.int .u64 c.c.b,.int .i64 c.n] 132)).drew):=(a8 _ _).drew;clear a;generalize (d.alloc (Obj.cells #[.int .u64 c.k,.bool c.p.h,.int .u64 c.p.b,.bool c.c.h,.int .u64 c.c.b,.int .i64 c.n] 132)).drew=wB at E r⊢;refine i.out _ _ ?_ fun a=>?_
  ·exact r
  clear i K;try simp only[Act.put,zz]
  refine C7 9 28 rfl fun K i=>?_;go_simp;have D:=bS 65 (J _ a) E (z _ a);have q:f8 d (wB.alloc (Obj.cells #[.slice (some ⟨b,f,none⟩) A (A+1),.slice (some ⟨d.heap.size,0,none⟩) 1 1,.slice (some ⟨b,f,none⟩) (l.length-(A+1)) 0] 65)):=a.alloc a.size _;clear a;generalize wB.alloc (Obj.cells #[.slice (some ⟨b,f,none⟩) A (A+1),.slice (some ⟨d.heap.size,0,none⟩) 1 1,.slice (some ⟨b,f,none⟩) (l.length-(A+1)) 0] 65)=wC at D q⊢;refine i.out _ _ ?_ fun a=>?_
  ·exact q
  clear i K;try simp only[Act.put,zz]
  refine C7 10 29 rfl fun K i=>?_;go_simp;refine(Q8 D (by simp) L.o).mono ?_;rintro e w9 ⟨v9,rfl,m,s⟩;have u:=a9 a s;have v:=a;clear s a;go_simp;refine i.out _ _ ?_ fun a=>?_
  ·exact u
  clear i K;try simp only[Act.put,zz]
  refine g6 11 4 rfl a ?_;refine g6 12 5 rfl a ?_;refine wpAnyH_done (by kernel_rfl) ?_ _;refine NoPanic.normal ?_;go_wp2_with fail;go_ret2;exact W1 HR.o (by rw[fJ]at m;exact m) (by have h1:=j.o.size;have h2:=v.size;omega) (a9 j.o a)
 ·go_upto_region 5 with fail
  have z: ∀wx,f8 d wx→Cv wx (.slice (some ⟨b,f+(A+1)*6,none⟩) (l.length-(A+1)) (cap-(A+1))) (l.drop (A+1)):=fun wx h=>by
   have:=(HV.o.below (a9 j.o h)).from (A+1) M.o I;simpa[WideShapes.add_plain]using this
  have j0: ∀wx,f8 d wx→wx.cell? ⟨w.heap.size,0,none⟩=some (.int .u64 c.k):=fun wx h=>(g.o.keep h).c0;have j1: ∀wx,f8 d wx→wx.cell? ⟨w.heap.size,1,none⟩=some (.bool c.p.h):=fun wx h=>(g.o.keep h).c1;have j2: ∀wx,f8 d wx→wx.cell? ⟨w.heap.size,2,none⟩=some (.int .u64 c.p.b):=fun wx h=>(g.o.keep h).c2;have j3: ∀wx,f8 d wx→wx.cell? ⟨w.heap.size,3,none⟩=some (.bool c.c.h):=fun wx h=>(g.o.keep h).c3;have j4: ∀wx,f8 d wx→wx.cell? ⟨w.heap.size,4,none⟩=some (.int .u64 c.c.b):=fun wx h=>(g.o.keep h).c4;have j5: ∀wx,f8 d wx→wx.cell? ⟨w.heap.size,5,none⟩=some (.int .i64 c.n):=fun wx h=>(g.o.keep h).c5;refine wp_region_noPanic ?_;refine wp_region_held_drew (S:=fun wx=>f8 d wx) (by kernel_rfl) ?_ fun a=>?_
  ·exact(Below.refl _ _).drew
  refine g6 0 19 rfl a ?_;refine g6 1 20 rfl a ?_;refine g6 2 21 rfl a ?_;refine g6 3 22 rfl a ?_;refine g6 5 24 rfl a ?_;refine g6 6 25 rfl a ?_;refine g6 7 26 rfl a ?_;refine g6 8 27 rfl a ?_;refine C7 4 23 rfl fun K i=>?_;go_simp;have E:Cv ((d.alloc (Obj.cells #[.int .u64 c.k,.bool c.p.h,.int .u64 c.p.b,.bool c.c.h,.int .u64 c.c.b,.int .i64 c.n] 132)).drew) (.slice (some ⟨d.heap.size,0,none⟩) 1 1) [c]:=(P5 d c).below (J8 _);have r:f8 d ((d.alloc (Obj.cells #[.int .u64 c.k,.bool c.p.h,.int .u64 c.p.b,.bool c.c.h,.int .u64 c.c.b,.int .i64 c.n] 132)).drew):=(a8 _ _).drew;clear a;generalize (d.alloc (Obj.cells #[.int .u64 c.k,.bool c.p.h,.int .u64 c.p.b,.bool c.c.h,.int .u64 c.c.b,.int .i64 c.n] 132)).drew=wB at E r⊢;refine i.out _ _ ?_ fun a=>?_
  ·exact r
  clear i K;try simp only[Act.put,zz]
  refine C7 9 28 rfl fun K i=>?_;go_simp;have D:=bS 65 (J _ a) E (z _ a);have q:f8 d (wB.alloc (Obj.cells #[.slice (some ⟨b,f,none⟩) A cap,.slice (some ⟨d.heap.size,0,none⟩) 1 1,.slice (some ⟨b,f+(A+1)*6,none⟩) (l.length-(A+1)) (cap-(A+1))] 65)):=a.alloc a.size _;clear a;generalize wB.alloc (Obj.cells #[.slice (some ⟨b,f,none⟩) A cap,.slice (some ⟨d.heap.size,0,none⟩) 1 1,.slice (some ⟨b,f+(A+1)*6,none⟩) (l.length-(A+1)) (cap-(A+1))] 65)=wC at D q⊢;refine i.out _ _ ?_ fun a=>?_
  ·exact q
  clear i K;try simp only[Act.put,zz]
  refine C7 10 29 rfl fun K i=>?_;go_simp;refine(Q8 D (by simp) L.o).mono ?_;rintro e w9 ⟨v9,rfl,m,s⟩;have u:=a9 a s;have v:=a;clear s a;go_simp;refine i.out _ _ ?_ fun a=>?_
  ·exact u
  clear i K;try simp only[Act.put,zz]
  refine g6 11 4 rfl a ?_;refine g6 12 5 rfl a ?_;refine wpAnyH_done (by kernel_rfl) ?_ _;refine NoPanic.normal ?_;go_wp2_with fail;go_ret2;exact W1 HR.o (by rw[fJ]at m;exact m) (by have h1:=j.o.size;have h2:=v.size;omega) (a9 j.o a)
theorem WK(l:List Cl)(c:Cl)(ao:Option Addr)(cap:Nat)(w:d9)(hv:Cv w (.slice ao l.length cap) l)(ho:O9 l=true)(hk:fT l (x8 l c.k) c.k=false)(h16:16≤l.length):
  Calls Tryz.prog 138 #[.slice ao l.length cap,.agg #[.int .u64 c.k,.bool c.p.h,.int .u64 c.p.b,.bool c.c.h,.int .u64 c.c.b,.int .i64 c.n]] w (F1 (I7 l c) w):=by
 have HV:=b9 hv;have v:=b9 (B0 w c);have m:c6 (f8 w (w.alloc (Obj.cells #[.int .u64 c.k,.bool c.p.h,.int .u64 c.p.b,.bool c.c.h,.int .u64 c.c.b,.int .i64 c.n] 132))):=a8 _ _;have d:=b9 ho;obtain⟨A,q⟩:=c7 (x8 l c.k);have t:A≤l.length:=by rw[q];exact kK l c.k
 obtain⟨ao',cap',r,s,g,f,_⟩:=hv
 cases r
 unfold maxLen at g;have D:(cap:Int)≤9223372036854775807:=by omega
 have z:(l.length:Int)≤(cap:Int):=by omega
 have E:(A:Int)≤(l.length:Int):=by omega
 have F:(A:Int)≤(cap:Int):=by omega
 have HA:=b9 q;have u:c6 (fT l A c.k=false):=by show _=_;rw[q];exact hk
 have HR:c6 (I7 l c=([],92)):=by show _=_;unfold I7;rw[if_neg (by simp[ho]),if_neg (by simp[hk]),if_pos h16]
 have B:(16:Int)≤(l.length:Int):=by omega
 clear q hk t s g f ho h16;go_in;go_wp2_with fail;refine(R4 (HV.o.below m.o)).mono ?_;rw[d.o];rintro e H ⟨rfl,a⟩;have j:=b9 (a9 m.o a);have x:=b9 (v.o.keep a);have C:=x.o.c0;clear a;go_wp2_with fail;refine(fL (HV.o.below j.o) c.k).mono ?_;rw[V0 d.o,R5 d.o,←HA.o,u.o];rintro e G ⟨rfl,i⟩;have y:=b9 (a9 j.o i);clear C;clear i;go_wp2_with fail;go_ret2;exact qE HR.o rfl y.o
theorem Bf(l:List Cl)(c:Cl)(ao:Option Addr)(cap:Nat)(w:d9)(hv:Cv w (.slice ao l.length cap) l)(ho:O9 l=true)(hk:fT l (x8 l c.k) c.k=false)(h16:l.length<16)(hp:0<l.length):
  Calls Tryz.prog 138 #[.slice ao l.length cap,.agg #[.int .u64 c.k,.bool c.p.h,.int .u64 c.p.b,.bool c.c.h,.int .u64 c.c.b,.int .i64 c.n]] w (F1 (I7 l c) w):=by
 have HV:=b9 hv;have W:=b9 (B0 w c);have P:c6 (f8 w (w.alloc (Obj.cells #[.int .u64 c.k,.bool c.p.h,.int .u64 c.p.b,.bool c.c.h,.int .u64 c.c.b,.int .i64 c.n] 132))):=a8 _ _;have z:=b9 ho;obtain⟨A,E⟩:=c7 (x8 l c.k);have I:A≤l.length:=by rw[E];exact kK l c.k
 obtain⟨ao',cap',R,F,G,B,_⟩:=hv
 cases R
 unfold maxLen at G;have a0:(cap:Int)≤9223372036854775807:=by omega
 have X:(l.length:Int)≤(cap:Int):=by omega
 have b0:(A:Int)≤(l.length:Int):=by omega
 have d0:(A:Int)≤(cap:Int):=by omega
 have HA:=b9 E;have U:c6 (fT l A c.k=false):=by show _=_;rw[E];exact hk
 have HR:c6 (I7 l c=(l.take A++([c]++l.drop A),0)):=by show _=_;unfold I7;rw[if_neg (by simp[ho]),if_neg (by simp[hk]),if_neg (by omega),E]
 have L:c6 ([l.take A,[c],l.drop A].flatten.length*48≤140737488355328):=by show _≤_;rw[fJ];simp only[List.length_append,List.length_take,List.length_drop,List.length_singleton];omega
 have Y: ¬(16:Int)≤(l.length:Int):=by omega
 obtain⟨b,f,rfl⟩: ∃b f,ao=some ⟨b,f,none⟩:=by
  rcases B2 HV.o with ⟨h0,_⟩|⟨b,f,cap',e,_⟩
  ·rw[h0]at hp;simp at hp
  ·cases e;exact⟨b,f,rfl⟩
 have T:=b9 F;have Q:=b9 I;clear E hk I F G B ho h16 hp;go_in;go_wp2_with fail;refine(R4 (HV.o.below P.o)).mono ?_;rw[z.o];rintro e w1 ⟨rfl,x⟩;have O:=b9 (a9 P.o x);have N:=b9 (W.o.keep x);have k0:=N.o.c0;clear x;go_wp2_with fail;refine(fL (HV.o.below O.o) c.k).mono ?_;rw[V0 z.o,R5 z.o,←HA.o,U.o];rintro e d ⟨rfl,v⟩;have j:=b9 (a9 O.o v);have g:=b9 (N.o.keep v);clear k0;clear v;have J: ∀wx,f8 d wx→Cv wx (.slice (some ⟨b,f,none⟩) A cap) (l.take A):=fun wx h=>(HV.o.below (a9 j.o h)).upto A Q.o;by_cases H:cap=A
 ·have M:c6 (l.length≤A):=by have:=T.o;show _≤_;omega
  subst H;go_upto_region 8 with fail
  have y: ∀wx,f8 d wx→Cv wx (.slice (some ⟨b,f,none⟩) (l.length-cap) 0) (l.drop cap):=fun wx h=>by
   rw[show l.length-cap=0 from by have:=M.o;omega];exact Cv.void M.o
  have j0: ∀wx,f8 d wx→wx.cell? ⟨w.heap.size,0,none⟩=some (.int .u64 c.k):=fun wx h=>(g.o.keep h).c0;have j1: ∀wx,f8 d wx→wx.cell? ⟨w.heap.size,1,none⟩=some (.bool c.p.h):=fun wx h=>(g.o.keep h).c1;have j2: ∀wx,f8 d wx→wx.cell? ⟨w.heap.size,2,none⟩=some (.int .u64 c.p.b):=fun wx h=>(g.o.keep h).c2;have j3: ∀wx,f8 d wx→wx.cell? ⟨w.heap.size,3,none⟩=some (.bool c.c.h):=fun wx h=>(g.o.keep h).c3;have j4: ∀wx,f8 d wx→wx.cell? ⟨w.heap.size,4,none⟩=some (.int .u64 c.c.b):=fun wx h=>(g.o.keep h).c4;have j5: ∀wx,f8 d wx→wx.cell? ⟨w.heap.size,5,none⟩=some (.int .i64 c.n):=fun wx h=>(g.o.keep h).c5;refine wp_region_noPanic ?_;refine wp_region_held_drew (S:=fun wx=>f8 d wx) (by kernel_rfl) ?_ fun a=>?_
  ·exact(Below.refl _ _).drew
  refine g6 0 33 rfl a ?_;refine g6 1 34 rfl a ?_;refine g6 2 35 rfl a ?_;refine g6 3 36 rfl a ?_;refine g6 5 38 rfl a ?_;refine g6 6 39 rfl a ?_;refine g6 7 40 rfl a ?_;refine C7 4 37 rfl fun K i=>?_;go_simp;have D:Cv ((d.alloc (Obj.cells #[.int .u64 c.k,.bool c.p.h,.int .u64 c.p.b,.bool c.c.h,.int .u64 c.c.b,.int .i64 c.n] 132)).drew) (.slice (some ⟨d.heap.size,0,none⟩) 1 1) [c]:=(P5 d c).below (J8 _);have r:f8 d ((d.alloc (Obj.cells #[.int .u64 c.k,.bool c.p.h,.int .u64 c.p.b,.bool c.c.h,.int .u64 c.c.b,.int .i64 c.n] 132)).drew):=(a8 _ _).drew;clear a;generalize (d.alloc (Obj.cells #[.int .u64 c.k,.bool c.p.h,.int .u64 c.p.b,.bool c.c.h,.int .u64 c.c.b,.int .i64 c.n] 132)).drew=wB at D r⊢;refine i.out _ _ ?_ fun a=>?_
  ·exact r
  clear i K;try simp only[Act.put,zz]
  refine C7 8 41 rfl fun K i=>?_;go_simp;have C:=bS 65 (J _ a) D (y _ a);have q:f8 d (wB.alloc (Obj.cells #[.slice (some ⟨b,f,none⟩) cap cap,.slice (some ⟨d.heap.size,0,none⟩) 1 1,.slice (some ⟨b,f,none⟩) (l.length-cap) 0] 65)):=a.alloc a.size _;clear a;generalize wB.alloc (Obj.cells #[.slice (some ⟨b,f,none⟩) cap cap,.slice (some ⟨d.heap.size,0,none⟩) 1 1,.slice (some ⟨b,f,none⟩) (l.length-cap) 0] 65)=wC at C q⊢;refine i.out _ _ ?_ fun a=>?_
  ·exact q
  clear i K;try simp only[Act.put,zz]
  refine C7 9 42 rfl fun K i=>?_;go_simp;refine(Q8 C (by simp) L.o).mono ?_;rintro e Z ⟨v9,rfl,m,s⟩;have t:=a9 a s;have u:=a;clear s a;go_simp;refine i.out _ _ ?_ fun a=>?_
  ·exact t
  clear i K;try simp only[Act.put,zz]
  refine g6 10 4 rfl a ?_;refine g6 11 5 rfl a ?_;refine wpAnyH_done (by kernel_rfl) ?_ _;refine NoPanic.normal ?_;go_wp2_with fail;go_ret2;exact W1 HR.o (by rw[fJ]at m;exact m) (by have h1:=j.o.size;have h2:=u.size;omega) (a9 j.o a)
 ·go_upto_region 8 with fail
  have y: ∀wx,f8 d wx→Cv wx (.slice (some ⟨b,f+A*6,none⟩) (l.length-A) (cap-A)) (l.drop A):=fun wx h=>by
   have:=(HV.o.below (a9 j.o h)).from A Q.o H;simpa[WideShapes.add_plain]using this
  have j0: ∀wx,f8 d wx→wx.cell? ⟨w.heap.size,0,none⟩=some (.int .u64 c.k):=fun wx h=>(g.o.keep h).c0;have j1: ∀wx,f8 d wx→wx.cell? ⟨w.heap.size,1,none⟩=some (.bool c.p.h):=fun wx h=>(g.o.keep h).c1;have j2: ∀wx,f8 d wx→wx.cell? ⟨w.heap.size,2,none⟩=some (.int .u64 c.p.b):=fun wx h=>(g.o.keep h).c2;have j3: ∀wx,f8 d wx→wx.cell? ⟨w.heap.size,3,none⟩=some (.bool c.c.h):=fun wx h=>(g.o.keep h).c3;have j4: ∀wx,f8 d wx→wx.cell? ⟨w.heap.size,4,none⟩=some (.int .u64 c.c.b):=fun wx h=>(g.o.keep h).c4;have j5: ∀wx,f8 d wx→wx.cell? ⟨w.heap.size,5,none⟩=some (.int .i64 c.n):=fun wx h=>(g.o.keep h).c5;refine wp_region_noPanic ?_;refine wp_region_held_drew (S:=fun wx=>f8 d wx) (by kernel_rfl) ?_ fun a=>?_
  ·exact(Below.refl _ _).drew
  refine g6 0 33 rfl a ?_;refine g6 1 34 rfl a ?_;refine g6 2 35 rfl a ?_;refine g6 3 36 rfl a ?_;refine g6 5 38 rfl a ?_;refine g6 6 39 rfl a ?_;refine g6 7 40 rfl a ?_;refine C7 4 37 rfl fun K i=>?_;go_simp;have D:Cv ((d.alloc (Obj.cells #[.int .u64 c.k,.bool c.p.h,.int .u64 c.p.b,.bool c.c.h,.int .u64 c.c.b,.int .i64 c.n] 132)).drew) (.slice (some ⟨d.heap.size,0,none⟩) 1 1) [c]:=(P5 d c).below (J8 _);have r:f8 d ((d.alloc (Obj.cells #[.int .u64 c.k,.bool c.p.h,.int .u64 c.p.b,.bool c.c.h,.int .u64 c.c.b,.int .i64 c.n] 132)).drew):=(a8 _ _).drew;clear a;generalize (d.alloc (Obj.cells #[.int .u64 c.k,.bool c.p.h,.int .u64 c.p.b,.bool c.c.h,.int .u64 c.c.b,.int .i64 c.n] 132)).drew=wB at D r⊢;refine i.out _ _ ?_ fun a=>?_
  ·exact r
  clear i K;try simp only[Act.put,zz]
  refine C7 8 41 rfl fun K i=>?_;go_simp;have C:=bS 65 (J _ a) D (y _ a);have q:f8 d (wB.alloc (Obj.cells #[.slice (some ⟨b,f,none⟩) A cap,.slice (some ⟨d.heap.size,0,none⟩) 1 1,.slice (some ⟨b,f+A*6,none⟩) (l.length-A) (cap-A)] 65)):=a.alloc a.size _;clear a;generalize wB.alloc (Obj.cells #[.slice (some ⟨b,f,none⟩) A cap,.slice (some ⟨d.heap.size,0,none⟩) 1 1,.slice (some ⟨b,f+A*6,none⟩) (l.length-A) (cap-A)] 65)=wC at C q⊢;refine i.out _ _ ?_ fun a=>?_
  ·exact q
  clear i K;try simp only[Act.put,zz]
  refine C7 9 42 rfl fun K i=>?_;go_simp;refine(Q8 C (by simp) L.o).mono ?_;rintro e Z ⟨v9,rfl,m,s⟩;have t:=a9 a s;have u:=a;clear s a;go_simp;refine i.out _ _ ?_ fun a=>?_
  ·exact t
  clear i K;try simp only[Act.put,zz]
  refine g6 10 4 rfl a ?_;refine g6 11 5 rfl a ?_;refine wpAnyH_done (by kernel_rfl) ?_ _;refine NoPanic.normal ?_;go_wp2_with fail;go_ret2;exact W1 HR.o (by rw[fJ]at m;exact m) (by have h1:=j.o.size;have h2:=u.size;omega) (a9 j.o a)

theorem mT(ao:Option Addr)(cap:Nat)(w:d9):Calls Tryz.prog 185 #[.slice ao 0 cap] w fun e w'=>e= .returned (.bool true)∧f8 w w':=fF ao cap w
theorem PA(w:d9)(ao:Option Addr):Cv w (.slice ao 0 0) []:=⟨ao,0,rfl,by simp,by simp[maxLen],by simp,fun i hi=>by simp at hi⟩
theorem WJ(c:Cl)(w:d9):
  Calls Tryz.prog 138 #[.slice none 0 0,.agg #[.int .u64 c.k,.bool c.p.h,.int .u64 c.p.b,.bool c.c.h,.int .u64 c.c.b,.int .i64 c.n]] w (F1 ([c],0) w):=by
 have z:=b9 (B0 w c);have B:c6 (f8 w (w.alloc (Obj.cells #[.int .u64 c.k,.bool c.p.h,.int .u64 c.p.b,.bool c.c.h,.int .u64 c.c.b,.int .i64 c.n] 132))):=a8 _ _;have y:c6 ([[],[c],([]:List Cl)].flatten.length*48≤140737488355328):=by show _≤_;simp
 have s: ∀wx:d9,Cv wx (.slice none 0 0) []:=fun wx=>PA wx none;go_in;go_wp2_with fail;refine(mT none 0 _).mono ?_;rintro e G ⟨rfl,j⟩;have A:=b9 (a9 B.o j);have t:=b9 (z.o.keep j);have E:=t.o.c0;clear j;go_wp2_with fail;refine(oM none 0 c.k _).mono ?_;rintro e d ⟨rfl,i⟩;have u:=b9 (a9 A.o i);have f:=b9 (t.o.keep i);clear E i;go_upto_region 8 with fail
 have O: ∀wx,f8 d wx→wx.cell? ⟨w.heap.size,0,none⟩=some (.int .u64 c.k):=fun wx h=>(f.o.keep h).c0;have N: ∀wx,f8 d wx→wx.cell? ⟨w.heap.size,1,none⟩=some (.bool c.p.h):=fun wx h=>(f.o.keep h).c1;have M: ∀wx,f8 d wx→wx.cell? ⟨w.heap.size,2,none⟩=some (.int .u64 c.p.b):=fun wx h=>(f.o.keep h).c2;have L: ∀wx,f8 d wx→wx.cell? ⟨w.heap.size,3,none⟩=some (.bool c.c.h):=fun wx h=>(f.o.keep h).c3;have J: ∀wx,f8 d wx→wx.cell? ⟨w.heap.size,4,none⟩=some (.int .u64 c.c.b):=fun wx h=>(f.o.keep h).c4;have I: ∀wx,f8 d wx→wx.cell? ⟨w.heap.size,5,none⟩=some (.int .i64 c.n):=fun wx h=>(f.o.keep h).c5;refine wp_region_noPanic ?_;refine wp_region_held_drew (S:=fun wx=>f8 d wx) (by kernel_rfl) ?_ fun a=>?_
 ·exact(Below.refl _ _).drew
 refine g6 0 33 rfl a ?_;refine g6 1 34 rfl a ?_;refine g6 2 35 rfl a ?_;refine g6 3 36 rfl a ?_;refine g6 5 38 rfl a ?_;refine g6 6 39 rfl a ?_;refine g6 7 40 rfl a ?_;refine C7 4 37 rfl fun K g=>?_;go_simp;have D:Cv ((d.alloc (Obj.cells #[.int .u64 c.k,.bool c.p.h,.int .u64 c.p.b,.bool c.c.h,.int .u64 c.c.b,.int .i64 c.n] 132)).drew) (.slice (some ⟨d.heap.size,0,none⟩) 1 1) [c]:=(P5 d c).below (J8 _);have q:f8 d ((d.alloc (Obj.cells #[.int .u64 c.k,.bool c.p.h,.int .u64 c.p.b,.bool c.c.h,.int .u64 c.c.b,.int .i64 c.n] 132)).drew):=(a8 _ _).drew;clear a;generalize (d.alloc (Obj.cells #[.int .u64 c.k,.bool c.p.h,.int .u64 c.p.b,.bool c.c.h,.int .u64 c.c.b,.int .i64 c.n] 132)).drew=wB at D q⊢;refine g.out _ _ ?_ fun a=>?_
 ·exact q
 clear g K;try simp only[Act.put,zz]
 refine C7 8 41 rfl fun K g=>?_;go_simp;have C:=bS 65 (s wB) D (s wB);have m:f8 d (wB.alloc (Obj.cells #[.slice none 0 0,.slice (some ⟨d.heap.size,0,none⟩) 1 1,.slice none 0 0] 65)):=a.alloc a.size _;clear a;generalize wB.alloc (Obj.cells #[.slice none 0 0,.slice (some ⟨d.heap.size,0,none⟩) 1 1,.slice none 0 0] 65)=wC at C m⊢;refine g.out _ _ ?_ fun a=>?_
 ·exact m
 clear g K;try simp only[Act.put,zz]
 refine C7 9 42 rfl fun K g=>?_;go_simp;refine(Q8 C (by simp) y.o).mono ?_;rintro e F ⟨H,rfl,l,r⟩;have v:=a9 a r;have x:=a;clear r a;go_simp;refine g.out _ _ ?_ fun a=>?_
 ·exact v
 clear g K;try simp only[Act.put,zz]
 refine g6 10 4 rfl a ?_;refine g6 11 5 rfl a ?_;refine wpAnyH_done (by kernel_rfl) ?_ _;refine NoPanic.normal ?_;go_wp2_with fail;go_ret2;exact W1 rfl (by rw[fJ]at l;exact l) (by have Q:=u.o.size;have P:=x.size;omega) (a9 u.o a)
theorem WH(c:Cl)(p:Addr)(cap:Nat)(w:d9)(hcm:cap≤maxLen):
  Calls Tryz.prog 138 #[.slice (some p) 0 cap,.agg #[.int .u64 c.k,.bool c.p.h,.int .u64 c.p.b,.bool c.c.h,.int .u64 c.c.b,.int .i64 c.n]] w (F1 ([c],0) w):=by
 have C:=b9 (B0 w c);have E:c6 (f8 w (w.alloc (Obj.cells #[.int .u64 c.k,.bool c.p.h,.int .u64 c.p.b,.bool c.c.h,.int .u64 c.c.b,.int .i64 c.n] 132))):=a8 _ _;have A:c6 ([[],[c],([]:List Cl)].flatten.length*48≤140737488355328):=by show _≤_;simp
 unfold maxLen at hcm;have W:(cap:Int)≤9223372036854775807:=by omega
 have X:(0:Int)≤(cap:Int):=by omega
 have r: ∀wx:d9,Cv wx (.slice (some p) 0 cap) []:=fun wx=>⟨some p,cap,rfl,by simp,by simp only[maxLen];exact hcm,by simp,fun i Q=>by simp at Q⟩;go_in;go_wp2_with fail;refine(mT (some p) cap _).mono ?_;rintro e Y ⟨rfl,x⟩;have D:=b9 (a9 E.o x);have B:=b9 (C.o.keep x);have H:=B.o.c0;clear x;go_wp2_with fail;refine(oM (some p) cap c.k _).mono ?_;rintro e d ⟨rfl,v⟩;have s:=b9 (a9 D.o v);have f:=b9 (B.o.keep v);clear H v;by_cases P:cap=0
 ·subst P;go_upto_region 8 with fail
  have O: ∀wx,f8 d wx→wx.cell? ⟨w.heap.size,0,none⟩=some (.int .u64 c.k):=fun wx h=>(f.o.keep h).c0;have N: ∀wx,f8 d wx→wx.cell? ⟨w.heap.size,1,none⟩=some (.bool c.p.h):=fun wx h=>(f.o.keep h).c1;have M: ∀wx,f8 d wx→wx.cell? ⟨w.heap.size,2,none⟩=some (.int .u64 c.p.b):=fun wx h=>(f.o.keep h).c2;have L: ∀wx,f8 d wx→wx.cell? ⟨w.heap.size,3,none⟩=some (.bool c.c.h):=fun wx h=>(f.o.keep h).c3;have J: ∀wx,f8 d wx→wx.cell? ⟨w.heap.size,4,none⟩=some (.int .u64 c.c.b):=fun wx h=>(f.o.keep h).c4;have I: ∀wx,f8 d wx→wx.cell? ⟨w.heap.size,5,none⟩=some (.int .i64 c.n):=fun wx h=>(f.o.keep h).c5;refine wp_region_noPanic ?_;refine wp_region_held_drew (S:=fun wx=>f8 d wx) (by kernel_rfl) ?_ fun a=>?_
  ·exact(Below.refl _ _).drew
  refine g6 0 33 rfl a ?_;refine g6 1 34 rfl a ?_;refine g6 2 35 rfl a ?_;refine g6 3 36 rfl a ?_;refine g6 5 38 rfl a ?_;refine g6 6 39 rfl a ?_;refine g6 7 40 rfl a ?_;refine C7 4 37 rfl fun K g=>?_;go_simp;have z:Cv ((d.alloc (Obj.cells #[.int .u64 c.k,.bool c.p.h,.int .u64 c.p.b,.bool c.c.h,.int .u64 c.c.b,.int .i64 c.n] 132)).drew) (.slice (some ⟨d.heap.size,0,none⟩) 1 1) [c]:=(P5 d c).below (J8 _);have m:f8 d ((d.alloc (Obj.cells #[.int .u64 c.k,.bool c.p.h,.int .u64 c.p.b,.bool c.c.h,.int .u64 c.c.b,.int .i64 c.n] 132)).drew):=(a8 _ _).drew;clear a;generalize (d.alloc (Obj.cells #[.int .u64 c.k,.bool c.p.h,.int .u64 c.p.b,.bool c.c.h,.int .u64 c.c.b,.int .i64 c.n] 132)).drew=wB at z m⊢;refine g.out _ _ ?_ fun a=>?_
  ·exact m
  clear g K;try simp only[Act.put,zz]
  refine C7 8 41 rfl fun K g=>?_;go_simp;have y:=bS 65 (r wB) z (r wB);have l:f8 d (wB.alloc (Obj.cells #[.slice (some p) 0 0,.slice (some ⟨d.heap.size,0,none⟩) 1 1,.slice (some p) 0 0] 65)):=a.alloc a.size _;clear a;generalize wB.alloc (Obj.cells #[.slice (some p) 0 0,.slice (some ⟨d.heap.size,0,none⟩) 1 1,.slice (some p) 0 0] 65)=wC at y l⊢;refine g.out _ _ ?_ fun a=>?_
  ·exact l
  clear g K;try simp only[Act.put,zz]
  refine C7 9 42 rfl fun K g=>?_;go_simp;refine(Q8 y (by simp) A.o).mono ?_;rintro e F ⟨G,rfl,j,q⟩;have t:=a9 a q;have u:=a;clear q a;go_simp;refine g.out _ _ ?_ fun a=>?_
  ·exact t
  clear g K;try simp only[Act.put,zz]
  refine g6 10 4 rfl a ?_;refine g6 11 5 rfl a ?_;refine wpAnyH_done (by kernel_rfl) ?_ _;refine NoPanic.normal ?_;go_wp2_with fail;go_ret2;exact W1 rfl (by rw[fJ]at j;exact j) (by have T:=s.o.size;have R:=u.size;omega) (a9 s.o a)
 ·have U: ¬(cap:Int)=0:=by omega
  go_upto_region 8 with fail
  have O: ∀wx,f8 d wx→wx.cell? ⟨w.heap.size,0,none⟩=some (.int .u64 c.k):=fun wx h=>(f.o.keep h).c0;have N: ∀wx,f8 d wx→wx.cell? ⟨w.heap.size,1,none⟩=some (.bool c.p.h):=fun wx h=>(f.o.keep h).c1;have M: ∀wx,f8 d wx→wx.cell? ⟨w.heap.size,2,none⟩=some (.int .u64 c.p.b):=fun wx h=>(f.o.keep h).c2;have L: ∀wx,f8 d wx→wx.cell? ⟨w.heap.size,3,none⟩=some (.bool c.c.h):=fun wx h=>(f.o.keep h).c3;have J: ∀wx,f8 d wx→wx.cell? ⟨w.heap.size,4,none⟩=some (.int .u64 c.c.b):=fun wx h=>(f.o.keep h).c4;have I: ∀wx,f8 d wx→wx.cell? ⟨w.heap.size,5,none⟩=some (.int .i64 c.n):=fun wx h=>(f.o.keep h).c5;refine wp_region_noPanic ?_;refine wp_region_held_drew (S:=fun wx=>f8 d wx) (by kernel_rfl) ?_ fun a=>?_
  ·exact(Below.refl _ _).drew
  refine g6 0 33 rfl a ?_;refine g6 1 34 rfl a ?_;refine g6 2 35 rfl a ?_;refine g6 3 36 rfl a ?_;refine g6 5 38 rfl a ?_;refine g6 6 39 rfl a ?_;refine g6 7 40 rfl a ?_;refine C7 4 37 rfl fun K g=>?_;go_simp;have z:Cv ((d.alloc (Obj.cells #[.int .u64 c.k,.bool c.p.h,.int .u64 c.p.b,.bool c.c.h,.int .u64 c.c.b,.int .i64 c.n] 132)).drew) (.slice (some ⟨d.heap.size,0,none⟩) 1 1) [c]:=(P5 d c).below (J8 _);have m:f8 d ((d.alloc (Obj.cells #[.int .u64 c.k,.bool c.p.h,.int .u64 c.p.b,.bool c.c.h,.int .u64 c.c.b,.int .i64 c.n] 132)).drew):=(a8 _ _).drew;clear a;generalize (d.alloc (Obj.cells #[.int .u64 c.k,.bool c.p.h,.int .u64 c.p.b,.bool c.c.h,.int .u64 c.c.b,.int .i64 c.n] 132)).drew=wB at z m⊢;refine g.out _ _ ?_ fun a=>?_
  ·exact m
  clear g K;try simp only[Act.put,zz]
  refine C7 8 41 rfl fun K g=>?_;go_simp;have y:=bS 65 (r wB) z (r wB);have l:f8 d (wB.alloc (Obj.cells #[.slice (some p) 0 cap,.slice (some ⟨d.heap.size,0,none⟩) 1 1,.slice (some p) 0 cap] 65)):=a.alloc a.size _;clear a;generalize wB.alloc (Obj.cells #[.slice (some p) 0 cap,.slice (some ⟨d.heap.size,0,none⟩) 1 1,.slice (some p) 0 cap] 65)=wC at y l⊢;refine g.out _ _ ?_ fun a=>?_
  ·exact l
  clear g K;try simp only[Act.put,zz]
  refine C7 9 42 rfl fun K g=>?_;go_simp;refine(Q8 y (by simp) A.o).mono ?_;rintro e F ⟨G,rfl,j,q⟩;have t:=a9 a q;have u:=a;clear q a;go_simp;refine g.out _ _ ?_ fun a=>?_
  ·exact t
  clear g K;try simp only[Act.put,zz]
  refine g6 10 4 rfl a ?_;refine g6 11 5 rfl a ?_;refine wpAnyH_done (by kernel_rfl) ?_ _;refine NoPanic.normal ?_;go_wp2_with fail;go_ret2;exact W1 rfl (by rw[fJ]at j;exact j) (by have T:=s.o.size;have R:=u.size;omega) (a9 s.o a)
theorem KI{w:d9}{v:Value}{l:List Cl}(h:Cv w v l)(c:Cl)(hsz:(l.length+1)*48≤140737488355328):
  Calls Tryz.prog 138 #[v,.agg #[.int .u64 c.k,.bool c.p.h,.int .u64 c.p.b,.bool c.c.h,.int .u64 c.c.b,.int .i64 c.n]] w (F1 (I7 l c) w):=by
 obtain⟨d,a,rfl⟩:=h.form
 cases ho:O9 l
 ·exact Bg l c d a w h ho
 ·cases hk:fT l (x8 l c.k) c.k
  ·by_cases f:16≤l.length
   ·exact WK l c d a w h ho hk f
   ·by_cases g:0<l.length
    ·exact Bf l c d a w h ho hk (by omega) g
    ·obtain rfl:l=[]:=List.eq_nil_of_length_eq_zero (by omega);have e:I7 [] c=([c],0):=rfl;rw[e];obtain⟨ao',cap',m,_,j,i,_⟩:=h
     cases m
     cases d with
     |none=>obtain rfl:=i rfl;exact WJ c w
     |some p=>exact WH c p a w j
  ·exact RU l c d a w h ho hk hsz
end Go.Proofs.YtfhoilcbhmeofaaGreat
