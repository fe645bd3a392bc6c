/- The reference's store: pages. -/
import Derived.Test.YtfhoilcbhmeofaaGreatB21
set_option maxRecDepth 100000
set_option maxHeartbeats 16000000
namespace Go.Proofs.YtfhoilcbhmeofaaGreat
open Go.RowKit
def Kb(D:Nat × List Cl × f7)(n:Nat)(acc:List Cl)(l:f7):Prop:=
 D.1=(J9 (n-acc.length) (x7 acc) l).1∧(D.1=0→D.2.1=acc++(J9 (n-acc.length) (x7 acc) l).2.1∧D.2.2=(J9 (n-acc.length) (x7 acc) l).2.2)
theorem RQ(n:Nat)(l:f7):Kb (J9 n none l) n [] l:=⟨rfl,fun _=>⟨rfl,rfl⟩⟩
theorem Bc{D:Nat × List Cl × f7}{n e:Nat}{acc:List Cl}{l r:f7}{c:Cl}(h:Kb D n acc l)(hi:acc.length<n)(ho:L3 (x7 acc) l=(e,c,r))(he:e≠0):D.1=e:=by
 obtain⟨a,_⟩:=h;rw[a,show n-acc.length=(n-(acc.length+1))+1 by omega];simp only[J9,ho];rw[if_pos he]
theorem Hj{D:Nat × List Cl × f7}{n:Nat}{acc:List Cl}{l r:f7}{c:Cl}(h:Kb D n acc l)(hi:acc.length<n)(ho:L3 (x7 acc) l=(0,c,r)):Kb D n (acc++[c]) r:=by
 obtain⟨d,e⟩:=h;rw[show n-acc.length=(n-(acc.length+1))+1 by omega]at d e;simp only[J9,ho]at d e;rw[if_neg (by simp)]at d e;unfold Kb;rw[List.length_append,List.length_singleton,bY];by_cases q:(J9 (n-(acc.length+1)) (some c.k) r).1=0
 ·rw[if_neg (by simpa using q)]at d e;refine⟨by rw[d,q],fun f=>?_⟩;obtain⟨a,b⟩:=e f;exact⟨by rw[a];simp,b⟩
 ·rw[if_pos q]at d e;exact⟨d,fun f=>absurd (d.symm.trans f) q⟩
def Nj(n:Nat)(l0:f7)(w:d9)(bv cv lv iv:Value)(wr:d9):Prop:=
 ∃(i L:Nat) (acc:List Cl) (l:f7),iv= .int .i64 i∧lv= .int .u64 L∧i≤n∧acc.length=i∧(x7 acc=if decide (i=0)=true then none else some L)∧Kb (J9 n none l0) n acc l∧Bv wr bv l∧(∀y,bv.ownBlock=some y→y<w.heap.size)∧wr.ownsRow w.heap.size 132 6 cv acc.length (l9 acc)∧f8 w wr
theorem yH(ao:Option Addr)(cap:Nat)(w:d9):Calls Tryz.prog 106 #[.slice ao 0 cap] w (cH [] w):=by
 go_in;go_wp2_with fail;go_ret2;exact F9 (e:=0) rfl rfl (Below.refl _ _)
theorem TW{w w':d9}{v:Value}{l:f7}{B:Nat}(h:Bv w v l)(hm: ∀x,v.ownBlock=some x→x<B)(hb:Below B w w'):Bv w' v l:=by
 obtain⟨⟨q,c,e,n,m,k,j⟩,g⟩:=h;refine⟨⟨q,c,e,n,m,k,fun i f=>?_⟩,g⟩;obtain⟨b,a,d,o⟩:=j i f;exact⟨b,a,d,by rw[hb.cell (p:=⟨b,a+i,none⟩) (hm b (by rw[e,d];rfl))];exact o⟩
theorem yI(l:f7)(b off cap:Nat)(w:d9)(hp:0<l.length)(hv:Bv w (.slice (some ⟨b,off,none⟩) l.length cap) l)(hb:b<w.heap.size):
  Calls Tryz.prog 106 #[.slice (some ⟨b,off,none⟩) l.length cap] w (cH l w):=by
 have b1:((l.length:Int)==0)=false:=by rw[beq_eq_false_iff_ne];omega
 have E:c6 (l.length≠0):=by show _≠_;omega
 have HV:=b9 hv;have R0:=b9 hb;have hT:=Wm.take_form l hv.2;obtain⟨_,K0,n0⟩:=cU hv;unfold maxLen at n0;have f1:(cap:Int)≤9223372036854775807:=by omega
 have J0:(l.length:Int)≤(cap:Int):=by omega
 clear hp hv hb K0 n0;go_in;go_wp2_with fail;refine(z8 HV.o).mono ?_;rcases hT with ⟨e,s,N0⟩|⟨x,n,s,O,T,B,S⟩
 ·have Q:e≠0:=by omega
  have HQ:=b9 (kR s E.o Q);rw[K7 s];rintro e9 w2 ⟨rfl,g⟩;have M0:((e:Int) !=0)=true:=by rw[bne_iff_ne];omega
  replace g:=g.symm;subst g;clear Q N0 s;go_wp2_with fail;go_ret2;exact F9 HQ.o rfl (Below.refl _ _)
 ·rw[K7 s];rintro e9 w2 ⟨rfl,g⟩;replace g:=g.symm;subst g;by_cases h0:x=0
  ·subst h0;have HQ:=b9 (iD s E.o);clear T B S s O;go_wp2_with fail;go_ret2;exact F9 HQ.o rfl (Below.refl _ _)
  ·have Z0:((x:Int)==0)=false:=by rw[beq_eq_false_iff_ne];omega
   by_cases Z:16<x
   ·have HQ:=b9 (kQ s E.o Z);have C0:(16:Int)<(x:Int):=by omega
    clear T B S s O h0 Z;go_wp2_with fail;go_ret2;exact F9 HQ.o rfl (Below.refl _ _)
   ·have C0: ¬(16:Int)<(x:Int):=by omega
    have HD:=b9 (jC s E.o h0 (by omega));have a1:IntKind.i64.wrap (x:Int)=(x:Int):=by rw[IntKind.wrap_i64];omega
    have X0:c6 (x≤16):=by show _≤_;omega
    have HN:=b9 B;have G0:(n:Int)≤(l.length:Int):=by omega
    have H0:(n:Int)≤(cap:Int):=by omega
    clear T B S s O h0 Z;go_upto_region 10 with fail
    go_cut [0] (fun u wx=>Bv w u (l.drop n)∧Sb u (.slice (some ⟨b,off,none⟩) l.length cap)∧wx=w)
    case first=>
     obtain⟨k1,k2⟩:=kX HV.o n HN.o;by_cases hc:cap=n
     ·have K:=k1 hc;clear k1 k2;subst hc;go_wp2_with fail;go_meet;exact⟨K,cK,rfl⟩
     ·have K:=k2 hc;clear k1 k2;go_wp2_with fail;go_meet;exact⟨by simpa[WideShapes.add_plain]using K,fun y hy=>by simpa[Value.ownBlock]using hy,rfl⟩
    case rest=>
     obtain⟨X,j0,R⟩:=hcut;replace R:=R.symm;subst R;obtain⟨G,H⟩:=c7 (l.drop n);rw[←H]at X HD
     have t0:c6 (Nj x G w u0 (.slice (some ⟨w.heap.size,0,none⟩) 0 0) (.int .u64 0) (.int .i64 0) (w.alloc (.cells #[] 132))):=
      ⟨0,0,[],G,rfl,rfl,by omega,rfl,rfl,RQ x G,X.below (a8 _ _),fun y hy=>by have:=j0 y hy;cases this;exact R0.o,World.ownsRow_made w #[] 0 (Nat.le_refl _) (by simp[maxLen]) rfl,a8 _ _⟩
     clear H X j0 HV G0 H0 J0;go_wp2_with fail;go_loopw [0,7,8,9] (fun bv cv lv iv wr=>Nj x G w bv cv lv iv wr) (fun _ _ _ iv _=>x-(intOf iv).toNat)
     case atStart=>exact t0.o
     case round=>
      clear t0;obtain⟨i,L,acc,l',rfl,rfl,d1,J,A,s0,p0,q0,d,I⟩:=hrel;have F:=b9 p0;have W0:=b9 q0;have i0:=b9 s0;have v:=b9 J;have S0:=b9 A;have HO:=b9 d;have HB:=b9 I;clear p0 q0 s0 J A d I;by_cases I0:i<x
      ·have A0:(i:Int)<(x:Int):=by omega
       obtain⟨fb,W⟩:=c7 (decide (i=0));have L0:((i:Int)==0)=fb:=by rw[W];by_cases q:i=0<;>simp[q]
       have U0:=b9 W;clear W;obtain⟨e,c,r,M⟩: ∃a b c,L3 (x7 acc) l'=(a,b,c):=⟨_,_,_,rfl⟩;have z:=b9 M;clear M;go_wp2_with fail;refine(RF F.o L fb (o:=x7 acc) (by rw[S0.o,U0.o])).mono ?_;rw[z.o];rintro e9 N ⟨u3,rfl,r0,m0,Y⟩;have z0:=b9 r0;have w0:c6 (∀y,u3.ownBlock=some y→y<w.heap.size):=fun y hy=>W0.o y (m0 y hy);have b0:=b9 (j8 HO.o Y);have d0:=b9 (a9 HB.o Y);clear r0 m0 Y HO HB F L0;by_cases Q:e=0;rotate_left
       ·have HQ:c6 (t7 l=([],e)):=by show _=_;rw[HD.o,kS (Bc i0.o (by have:=v.o;omega) z.o Q) Q]
        have M0:((e:Int) !=0)=true:=by rw[bne_iff_ne];omega
        clear Q;go_wp2_with fail;go_ret2;exact F9 HQ.o rfl (a9 d0.o (a8 _ _))
       ·subst Q;have Q0:=b9 (Hj i0.o (by have:=v.o;omega) z.o);have v0:c6 (∀k,u7.ownBlock=some k→k<N.heap.size):=fun k hk=>(b0.o.lt k hk).2;go_upto_region 19 with fail
        have t:=b9 (B0 N c);have C:c6 ((N.alloc (Obj.cells #[.int .u64 c.k,.bool c.p.h,.int .u64 c.p.b,.bool c.c.h,.int .u64 c.c.b,.int .i64 c.n] 132)).ownsRow w.heap.size 132 6 u7 acc.length (l9 acc)):=b0.o.alloc _;have m:c6 (f8 w (N.alloc (Obj.cells #[.int .u64 c.k,.bool c.p.h,.int .u64 c.p.b,.bool c.c.h,.int .u64 c.c.b,.int .i64 c.n] 132))):=a9 d0.o (a8 _ _);have a0:c6 (Bv (N.alloc (Obj.cells #[.int .u64 c.k,.bool c.p.h,.int .u64 c.p.b,.bool c.c.h,.int .u64 c.c.b,.int .i64 c.n] 132)) u3 r):=z0.o.below (a8 _ _);generalize N.alloc (Obj.cells #[.int .u64 c.k,.bool c.p.h,.int .u64 c.p.b,.bool c.c.h,.int .u64 c.c.b,.int .i64 c.n] 132)=w4 at t C m a0⊢;obtain⟨P,hP⟩:=c7 N.heap.size;rw[←hP]at t v0⊢;clear hP b0 d0 z0;obtain⟨c0,c1,c2,c3,c4,c5,zz⟩:=t.o;have y0:c6 (acc.length+1≤17):=by show _≤_;have:=v.o;have:=X0.o;omega
        go_upto_region 20 with (at_builtin;refine i9 (by rfl) (.tmp 51) (.tmp 53) (by rfl) w.heap.size _ _ _ (by rfl) (C.o.alloc _) _ [c] (by rfl) (P5 w4 c) (by have:=y0.o;simp only[maxLen,List.length_singleton];omega) (by have:=y0.o;simp only[List.length_singleton];omega) (by rw[g8];have:=m.o.size;omega) ?_;intro v5 w5 d j)
        have f0:c6 (Below w.heap.size w4 w5):=((a8 w4 _).mono m.o.size).trans (g9 (C.o.alloc _) j (by rw[g8];have:=m.o.size;omega));have T0:=b9 (m.o.trans f0.o);have O0:=b9 (TW a0.o w0.o f0.o);have P0:c6 (w5.ownsRow w.heap.size 132 6 v5 (acc++[c]).length (l9 (acc++[c]))):=by show World.ownsRow _ _ _ _ _ _ _;rw[List.length_append,G4];exact d
        have V0:c6 (w5.cell? ⟨P,0,none⟩=some (.int .u64 c.k)):=(Ch.of_grown (D:=fun x=>u7.ownBlock=some x) j (fun x O=>O)).cell (p:=⟨P,0,none⟩) ((t.o.keep (a8 _ _)).c0) (fun O=>by have:=v0.o P O;omega);clear d j c0 c1 c2 c3 c4 c5 zz C a0 t f0 m;have k0:=V0.o;have D0:c6 (Nj x G w u3 v5 (.int .u64 c.k) (.int .i64 ((i:Int)+1)) w5):=⟨i+1,c.k,acc++[c],r,rfl,rfl,I0,by have:=v.o;simp;omega,by rw[bY];simp,Q0.o,O0.o,w0.o,P0.o,T0.o⟩;go_wp2_with fail;go_roundw
        case rel=>exact D0.o
        case measure=>simp[intOf];omega
      ·have A0: ¬(i:Int)<(x:Int):=by omega
       obtain rfl:i=x:=by omega
       have f:c6 ((J9 i none G).1=0∧(J9 i none G).2.1=acc∧(J9 i none G).2.2=l'):=by
        obtain⟨h1,R⟩:=i0.o;rw[v.o,Nat.sub_self]at h1 R;simp only[J9]at h1 R;obtain⟨a,b⟩:=R h1;exact⟨h1,by rw[a];simp,b⟩
       obtain⟨va,vn,vc,F0⟩:=r8 F.o;subst F0;obtain⟨o0,_,_⟩:=cU F.o;have x0:=b9 o0;clear o0;by_cases U:vn=0
       ·have g0:c6 (t7 l=(acc,0)):=by
         show _=_;rw[HD.o,zW f.o.1 (by rw[f.o.2.2,←x0.o];exact U),f.o.2.1]
        subst U;go_wp2_with fail;go_ret2;exact wI g0.o HO.o HB.o
       ·have g0:c6 (t7 l=([],5)):=by
         show _=_;rw[HD.o,oQ f.o.1 (by rw[f.o.2.2,←x0.o];exact U)]
        have Y0:(0:Int)<(vn:Int):=by omega
        go_wp2_with fail;go_ret2;exact F9 g0.o rfl HB.o
theorem mA{w:d9}{v:Value}{l:f7}(h:Bv w v l):Calls Tryz.prog 106 #[v] w (cH l w):=by
 rcases N6 h with ⟨rfl,f,a,rfl⟩|⟨b,c,a,rfl,d,i,g,e⟩
 ·exact yH f a w
 ·exact yI l b c a w d h (c8 (e 0 d))
theorem MF{w w':d9}{v:Value}{l:f7}{B:Nat}(h:Bv w v l)(hm: ∀x,v.ownBlock=some x→l≠[]→x<B)(hb:Below B w w'):Bv w' v l:=by
 obtain⟨⟨r,d,e,o,n,m,k⟩,j⟩:=h;refine⟨⟨r,d,e,o,n,m,fun i f=>?_⟩,j⟩;obtain⟨b,a,g,q⟩:=k i f;have c:l≠[]:=by rintro rfl;simp[ib]at f
 exact⟨b,a,g,by rw[hb.cell (p:=⟨b,a+i,none⟩) (hm b (by rw[e,g];rfl) c)];exact q⟩
theorem TQ{l:f7}{e:Nat}(h:Wm.take l=(0,0,e))(he:e≠0):I8 l=(e,0,[]):=by simp[I8,h,he]
theorem YW{l:f7}{x n:Nat}(h:Wm.take l=(x,n,0))(hx:1099511627776<x):I8 l=(4,0,[]):=by simp[I8,h,hx]
theorem Ed{l:f7}{x n:Nat}(h:Wm.take l=(x,n,0))(hx: ¬1099511627776<x):I8 l=(0,x,l.drop n):=by simp[I8,h,hx]
def AI(r:Nat × Nat × f7)(v:Value)(w:d9)(e:Ending)(w':d9):Prop:=
 ∃u,e= .returned (.tuple #[.int .i64 (r.2.1:Nat),u,.int .i64 (r.1:Nat)])∧Bv w' u r.2.2∧Sb u v∧f8 w w'
theorem KC{w:d9}{v:Value}{l:f7}{e:Nat}(h:Bv w v l)(ht:Wm.take l=(0,0,e))(he:e≠0):Calls Tryz.prog 169 #[v] w (AI (I8 l) v w):=by
 have HV:c6 (Bv w v l):=h;have HQ:c6 (I8 l=(e,0,[])):=TQ ht he;have HT:c6 _:=K7 ht;have b:((e:Int) !=0)=true:=by rw[bne_iff_ne];omega
 clear h ht he;go_in;go_wp2_with fail;refine(z8 HV.o).mono ?_;rw[HT.o];rintro d c ⟨rfl,a⟩;replace a:=a.symm;subst a;go_wp2_with fail;go_ret3;exact⟨_,by rw[HQ.o];rfl,by rw[HQ.o];exact Bv.nil _,xN _,Below.refl _ _⟩
theorem KB{w:d9}{v:Value}{l:f7}{x n:Nat}(h:Bv w v l)(ht:Wm.take l=(x,n,0))(hx:1099511627776<x):Calls Tryz.prog 169 #[v] w (AI (I8 l) v w):=by
 have HV:c6 (Bv w v l):=h;have HQ:c6 (I8 l=(4,0,[])):=YW ht hx;have HT:c6 _:=K7 ht;have b:decide ((1099511627776:Int)<(x:Int))=true:=decide_eq_true (by omega);clear h ht hx;go_in;go_wp2_with fail;refine(z8 HV.o).mono ?_;rw[HT.o];rintro d c ⟨rfl,a⟩;replace a:=a.symm;subst a;go_wp2_with fail;go_ret3;exact⟨_,by rw[HQ.o];rfl,by rw[HQ.o];exact Bv.nil _,xN _,Below.refl _ _⟩
theorem RO{w:d9}{l:f7}{x n b off cap:Nat}(h:Bv w (.slice (some ⟨b,off,none⟩) l.length cap) l)(ht:Wm.take l=(x,n,0))(hx: ¬1099511627776<x)(hn:n≤l.length):Calls Tryz.prog 169 #[.slice (some ⟨b,off,none⟩) l.length cap] w (AI (I8 l) (.slice (some ⟨b,off,none⟩) l.length cap) w):=by
 have HV:=b9 h;have HQ:c6 (I8 l=(0,x,l.drop n)):=Ed ht hx;have HT:c6 _:=K7 ht;have m:decide ((1099511627776:Int)<(x:Int))=false:=decide_eq_false (by omega);have p:IntKind.i64.wrap (x:Int)=(x:Int):=by rw[IntKind.wrap_i64];omega
 obtain⟨_,g,c⟩:=cU h;unfold maxLen at c;have u:(cap:Int)≤9223372036854775807:=by omega
 have s:(l.length:Int)≤(cap:Int):=by omega
 have q:(n:Int)≤(l.length:Int):=by omega
 have r:(n:Int)≤(cap:Int):=by omega
 have HN:c6 (n≤l.length):=hn;obtain⟨e,d⟩:=kX h n hn;clear h ht hx c g hn;by_cases f:cap=n
 ·have K:c6 (Bv w (.slice (some ⟨b,off,none⟩) (l.length-n) 0) (l.drop n)):=e f;clear e d;subst f;go_in;go_wp2_with fail;refine(z8 HV.o).mono ?_;rw[HT.o];rintro k i ⟨rfl,a⟩;replace a:=a.symm;subst a;go_wp2_with fail;go_quiet (fail);go_wp2_with fail;go_ret3;exact⟨_,by rw[HQ.o];rfl,by rw[HQ.o];exact K.o.below (d8 _ _),cK,d8 _ _⟩
 ·have K:c6 (Bv w (.slice (some ⟨b,off+n,none⟩) (l.length-n) (cap-n)) (l.drop n)):=by show Bv _ _ _;simpa[WideShapes.add_plain]using d f
  have t: ¬(cap:Int)=(n:Int):=by omega
  clear e d;go_in;go_wp2_with fail;refine(z8 HV.o).mono ?_;rw[HT.o];rintro k i ⟨rfl,a⟩;replace a:=a.symm;subst a;go_wp2_with fail;go_quiet (fail);go_wp2_with fail;go_ret3;exact⟨.slice (some ⟨b,off+n,none⟩) (l.length-n) (cap-n),by rw[HQ.o];rfl,by rw[HQ.o];exact K.o.below (d8 _ _),fun y j=>by simpa[Value.ownBlock]using j,d8 _ _⟩
theorem pD{w:d9}{v:Value}{l:f7}(h:Bv w v l):Calls Tryz.prog 169 #[v] w (AI (I8 l) v w):=by
 rcases Wm.take_form l h.2 with ⟨e,c,j⟩|⟨x,n,c,d,i,a,g⟩
 ·exact KC h c (by omega)
 ·by_cases d:1099511627776<x
  ·exact KB h c d
  ·rcases N6 h with ⟨rfl,_⟩|⟨b,f,k,rfl,_⟩
   ·simp at a;omega
   ·exact RO h c d a
structure DR(N:Nat)(w0 w:d9)(v:Value)(l:f7):Prop where
 n:N=w0.heap.size
 z:MB w N 0 0 (.slice none 0 0)
 bv:Bv w v l
 m: ∀x,v.ownBlock=some x→l≠[]→x<N
 below:Below N w0 w
theorem DR.turn{N:Nat}{w0 w w':d9}{v u:Value}{l r:f7}(h:DR N w0 w v l)(hb:Bv w' u r)(hs:Sb u v)(hr:r≠[]→l≠[])(hB:f8 w w'):DR N w0 w' u r:=
 ⟨h.n,h.z.keep hB,hb,fun x hx hne=>h.m x (hs x hx) (hr hne),h.below.trans (hB.mono (Nat.le_of_lt (c8 h.z.c0)))⟩
theorem DR.grow{N:Nat}{w0 w w':d9}{v:Value}{l:f7}(h:DR N w0 w v l)(hB:Below (N+1) w w'):DR N w0 w' v l:=
 ⟨h.n,h.z.belowB hB (by omega),MF h.bv (fun x hx hne=>by have:=h.m x hx hne;omega) hB,h.m,h.below.trans (hB.mono (by omega))⟩
theorem pP{w:d9}{N:Nat}(x y z:Value)(h:N<w.heap.size):Below N w (((w.setCell ⟨N,0,none⟩ x).setCell ⟨N,1,none⟩ y).setCell ⟨N,2,none⟩ z):=by
 have c:=k8 w N 0 x;have b:=k8 (w.setCell ⟨N,0,none⟩ x) N 1 y;have a:=k8 ((w.setCell ⟨N,0,none⟩ x).setCell ⟨N,1,none⟩ y) N 2 z;exact(((c.self b).self a).to_below (Nat.le_of_lt h) (fun x d=>by omega))
theorem DR.bad{N:Nat}{w0 w:d9}{v:Value}{l L:f7}{e:Nat}{x:Int}(h:DR N w0 w v l)(hd:(B7 L).2=e)(he:e≠0)(hx:x=e):
  IN L w0 (.returned (.tuple #[.agg #[.int .i64 0,.int .i64 0,.slice none 0 0],.int .i64 x])) (((w.setCell ⟨N,0,none⟩ (.int .i64 0)).setCell ⟨N,1,none⟩ (.int .i64 0)).setCell ⟨N,2,none⟩ (.slice none 0 0)):=
 FP hd he hx (by rw[←h.n];exact h.below.trans (pP _ _ _ (c8 h.z.c0)))
theorem YV{l:f7}(h:(I8 l).2.2≠[]):l≠[]:=by
 rintro rfl;apply h;unfold I8
 split
 ·rfl
 ·split
  ·rfl
  ·simp
def Mt(x:Nat)(l0:f7)(N:Nat)(w:d9)(bv kv iv:Value)(wr:d9):Prop:=
 ∃(i:Nat) (acc l:f7),iv= .int .i64 i∧i≤x∧Aa (Q2 x l0) x i acc l 0∧DR N w wr bv l∧wr.ownsRow (N+1) 37 1 kv acc.length ((ib acc).map (Value.int .u64))
theorem Da{D:Nat × f7 × f7}{n i:Nat}{acc l:f7}(h:Aa D n i acc l 0):acc.length=i:=by
 rcases h with ⟨_,h,_⟩|⟨h,_⟩
 ·exact h
 ·exact absurd rfl h
theorem TF{D:Nat × f7 × f7}{n i e:Nat}{acc l:f7}(h:Aa D n i acc l 0)(hi:i<n)(ht:Wm.take l=(0,0,e))(he:e≠0):D.1=e:=by
 have:=sF h hi;rw[yV,ht]at this;rcases this with ⟨q,_⟩|⟨_,q⟩
 ·exact absurd q he
 ·exact q
theorem XZ{D:Nat × f7 × f7}{n i y k:Nat}{acc l:f7}(h:Aa D n i acc l 0)(hi:i<n)(ht:Wm.take l=(y,k,0)):Aa D n (i+1) (acc++[y]) (l.drop k) 0:=by
 have:=sF h hi;rw[yV]at this;unfold B1 at this;rw[ht]at this;exact this
theorem Cz{D:Nat × f7 × f7}{n:Nat}{acc l:f7}(h:Aa D n n acc l 0):D=(0,acc,l):=by
 rcases h with ⟨_,_,d,c⟩|⟨h,_⟩
 ·rw[Nat.sub_self]at d c;simp only[Q2]at d c;obtain⟨a,b⟩:=c d;obtain⟨g,f,e⟩:=D
  simp_all
 ·exact absurd rfl h
theorem Iu{l l1:f7}{e x:Nat}(h:I8 l=(e,x,l1))(he:e≠0):(B7 l).2=e:=by simp[B7,h,he]
theorem It{l l1:f7}{x:Nat}(h:I8 l=(0,x,l1)):B7 l=uC x l1:=by simp[B7,h]
theorem Jf{l l1:f7}{b e x:Nat}(h:I8 l=(e,x,l1))(he:e≠0):(uC b l).2=e:=by simp[uC,h,he]
theorem Je{l l1:f7}{b x:Nat}(h:I8 l=(0,x,l1)):uC b l=oR b x l1:=by simp[uC,h]
theorem Iz{l:f7}{b a e:Nat}(h:Wm.take l=(0,0,e))(he:e≠0):(oR b a l).2=e:=by simp[oR,h,he]
theorem Iy{l:f7}{b a x n:Nat}(h:Wm.take l=(x,n,0))(hx:64<x):(oR b a l).2=6:=by simp[oR,h,hx]
theorem Ix{l:f7}{b a x n:Nat}(h:Wm.take l=(x,n,0))(hx: ¬64<x):oR b a l=iE b a (Q2 x (l.drop n)):=by simp[oR,h,hx]
theorem Jd{b a e:Nat}{r:Nat × f7 × f7}(h:r.1=e)(he:e≠0):(iE b a r).2=e:=by simp[iE,h,he]
theorem Jc{b a:Nat}{ks l:f7}(h:l.length≠0):(iE b a (0,ks,l)).2=5:=by simp only[iE];rw[if_neg (by simp),if_pos h]
theorem Jb{b a:Nat}{ks l:f7}(h:l.length=0)(hs:o4 ⟨b,a,ks⟩=false):(iE b a (0,ks,l)).2=1:=by simp only[iE];rw[if_neg (by simp),if_neg (by omega),if_pos hs]
theorem Ja{b a:Nat}{ks l:f7}(h:l.length=0)(hs:o4 ⟨b,a,ks⟩=true):iE b a (0,ks,l)=(⟨b,a,ks⟩,0):=by simp only[iE];rw[if_neg (by simp),if_neg (by omega),if_neg (by simp[hs])]
theorem rL{w:d9}{v:Value}{l:f7}(hv:Bv w v l):
  Calls Tryz.prog 105 #[v] w (IN l w):=by
 obtain⟨N,hN⟩:=c7 w.heap.size
 have H0:c6 (DR N w (w.alloc (Obj.cells #[.int .i64 0,.int .i64 0,.slice none 0 0] 62)) v l):=
  ⟨hN,by rw[hN];exact A9 w 0 0 (.slice none 0 0),hv.below (a8 _ _),fun x hx t=>by rw[hN];exact GS hv x hx t,by rw[hN];exact a8 _ _⟩
 have S0:=b9 hN;clear hv;go_in;go_upto_region 1 with fail
 rw[←hN];clear hN;generalize w.alloc (Obj.cells #[.int .i64 0,.int .i64 0,.slice none 0 0] 62)=w0 at H0⊢;obtain⟨e1,xb,l1,J0⟩: ∃e x r,I8 l=(e,x,r):=⟨_,_,_,rfl⟩;have E:=b9 J0;clear J0;go_wp2_with fail;refine(pD H0.o.bv).mono ?_;rw[E.o];rintro e9 w1 ⟨u1,rfl,L0,t0,O0⟩;have I:=b9 (H0.o.turn L0 t0 (fun h=>YV (by rw[E.o];exact h)) O0);clear L0 t0 O0 H0;have J:=I.o.z.c0;have z1:=I.o.z.c1;have z2:=I.o.z.c2;have y0:=I.o.z.z 0;have y1:=I.o.z.z 1;have y2:=I.o.z.z 2;by_cases R:e1=0;rotate_left
 ·have HQ:c6 _:=Iu E.o R;have f:=b9 R;have g0:((e1:Int) !=0)=true:=by rw[bne_iff_ne];omega
  clear R;go_wp2_with fail
  (try simp only[Exit.inBlock,Exit.then])
  refine bodyPost_ret (v:= .tuple #[.agg #[.int .i64 0,.int .i64 0,.slice none 0 0],.int .i64 (e1:Nat)]) (by rw[results_cell_tmp rfl];go_simp) rfl ?_;exact I.o.bad HQ.o f.o rfl
 subst R;have r0:c6 _:=It E.o;clear E;obtain⟨e2,xa,Y,I0⟩: ∃e x r,I8 l1=(e,x,r):=⟨_,_,_,rfl⟩;have D:=b9 I0;clear I0;go_wp2_with fail;refine(pD I.o.bv).mono ?_;rw[D.o];rintro e9 w2 ⟨u2,rfl,K0,s0,N0⟩;have q:=b9 (I.o.turn K0 s0 (fun h=>YV (by rw[D.o];exact h)) N0);clear K0 s0 N0 I J z1 z2 y0 y1 y2;have J:=q.o.z.c0;have z1:=q.o.z.c1;have z2:=q.o.z.c2;have y0:=q.o.z.z 0;have y1:=q.o.z.z 1;have y2:=q.o.z.z 2;by_cases Q:e2=0;rotate_left
 ·have HQ:c6 ((B7 l).2=e2):=by show _=_;rw[r0.o];exact Jf D.o Q
  have f:=b9 Q;have g0:((e2:Int) !=0)=true:=by rw[bne_iff_ne];omega
  clear Q;go_wp2_with fail
  (try simp only[Exit.inBlock,Exit.then])
  refine bodyPost_ret (v:= .tuple #[.agg #[.int .i64 0,.int .i64 0,.slice none 0 0],.int .i64 (e2:Nat)]) (by rw[results_cell_tmp rfl];go_simp) rfl ?_;exact q.o.bad HQ.o f.o rfl
 subst Q;have X:c6 (B7 l=oR xb xa Y):=by show _=_;rw[r0.o];exact Je D.o
 clear D r0;go_wp2_with fail;refine(z8 q.o.bv).mono ?_;rcases Wm.take_form Y q.o.bv.2 with ⟨e,g,j0⟩|⟨x,n,g,hx,B0,O,A0⟩
 ·have Z:e≠0:=by omega
  have HQ:c6 ((B7 l).2=e):=by show _=_;rw[X.o];exact Iz g Z
  rw[K7 g];rintro e9 w3 ⟨rfl,a⟩;have g0:((e:Int) !=0)=true:=by rw[bne_iff_ne];omega
  have f:=b9 Z;replace a:=a.symm;subst a;clear Z j0 g;go_wp2_with fail
  (try simp only[Exit.inBlock,Exit.then])
  refine bodyPost_ret (v:= .tuple #[.agg #[.int .i64 0,.int .i64 0,.slice none 0 0],.int .i64 (e:Nat)]) (by rw[results_cell_tmp rfl];go_simp) rfl ?_;exact q.o.bad HQ.o f.o rfl
 rw[K7 g];rintro e9 w3 ⟨rfl,a⟩;replace a:=a.symm;subst a;by_cases T:64<x
 ·have HQ:c6 ((B7 l).2=6):=by show _=_;rw[X.o];exact Iy g T
  have W0:(64:Int)<(x:Int):=by omega
  clear B0 O A0 g hx T;go_wp2_with fail
  (try simp only[Exit.inBlock,Exit.then])
  refine bodyPost_ret (v:= .tuple #[.agg #[.int .i64 0,.int .i64 0,.slice none 0 0],.int .i64 6]) (by rw[results_cell_tmp rfl];go_simp) rfl ?_;exact q.o.bad HQ.o (by decide) rfl
 have W0: ¬(64:Int)<(x:Int):=by omega
 have q0:c6 (B7 l=iE xb xa (Q2 x (Y.drop n))):=by show _=_;rw[X.o];exact Ix g T
 have i1:c6 (x≤64):=by show _≤_;omega
 have n1:IntKind.i64.wrap (x:Int)=(x:Int):=by rw[IntKind.wrap_i64];omega
 have g1:=b9 O;have F:Y≠[]:=by rintro rfl;simp at O;omega
 have a0:=b9 F;clear B0 A0 g hx T X;rcases N6 q.o.bv with ⟨h0,_⟩|⟨b,b0,d,rfl,hp,i0,B,_⟩
 ·exact absurd h0 F
 have v0:(n:Int)≤(Y.length:Int):=by omega
 have x0:(n:Int)≤(d:Int):=by omega
 have D0:(Y.length:Int)≤(d:Int):=by omega
 have d1:(d:Int)≤9223372036854775807:=by unfold maxLen at B;omega
 clear O F hp i0 B;go_upto_region 12 with fail
 go_cut [0] (fun u wx=>DR N w w2 u (Y.drop n)∧wx=w2)
 case first=>
  obtain⟨M,L⟩:=kX q.o.bv n g1.o;by_cases hc:d=n
  ·have K:=M hc;have K':=q.o.turn K cK (fun _=>a0.o) (Below.refl _ _);clear M L K;subst hc;go_wp2_with fail;go_meet;exact⟨K',rfl⟩
  ·have K:=L hc;have K':=q.o.turn K iP (fun _=>a0.o) (Below.refl _ _);clear M L K;go_wp2_with fail;go_meet;exact⟨by simpa[WideShapes.add_plain]using K',rfl⟩
 case rest=>
  obtain⟨hD,h2⟩:=hcut;replace h2:=h2.symm;subst h2;obtain⟨l0,F0⟩:=c7 (Y.drop n);rw[←F0]at hD q0
  have P0:c6 (Mt x l0 N w u0 (.slice (some ⟨w2.heap.size,0,none⟩) 0 0) (.int .i64 0) (w2.alloc (.cells #[] 37))):=
   ⟨0,[],l0,rfl,by omega,vM x l0,hD.turn (hD.bv.below (a8 _ _)) (Sb.refl _) id (a8 _ _),q9 (World.ownsRow_made w2 #[] 0 (Nat.le_refl _) (by simp[maxLen]) rfl) (by have:=c8 hD.z.c0;simp only at this;omega)⟩
  clear F0 hD q v0 x0 D0 J z1 z2 y0 y1 y2;go_wp2_with fail;go_loopw [0,9,10] (fun bv kv iv wr=>Mt x l0 N w bv kv iv wr) (fun _ _ iv _=>x-(intOf iv).toNat)
  case atStart=>exact P0.o
  case round=>
   clear P0;obtain⟨i,acc,l',rfl,b1,M0,j,p⟩:=hrel;have s:=b9 M0;have c:=b9 j;have HO:=b9 p;have J:=j.z.c0;have z1:=j.z.c1;have z2:=j.z.c2;have y0:=j.z.z 0;have y1:=j.z.z 1;have y2:=j.z.z 2;clear M0 j p;by_cases A:i<x
   ·have V0:(i:Int)<(x:Int):=by omega
    go_wp2_with fail;refine(z8 c.o.bv).mono ?_;rcases Wm.take_form l' c.o.bv.2 with ⟨e,g,j0⟩|⟨y,k,g,hy,a1,f0,Z0⟩
    ·have Z:e≠0:=by omega
     have HQ:c6 ((B7 l).2=e):=by show _=_;rw[q0.o];exact Jd (TF s.o A g Z) Z
     rw[K7 g];rintro e9 w3 ⟨rfl,a⟩;have g0:((e:Int) !=0)=true:=by rw[bne_iff_ne];omega
     have f:=b9 Z;replace a:=a.symm;subst a;clear Z j0 g;go_wp2_with fail
     (try simp only[Exit.inBlock,Exit.then])
     refine bodyPost_ret (v:= .tuple #[.agg #[.int .i64 0,.int .i64 0,.slice none 0 0],.int .i64 (e:Nat)]) (by rw[results_cell_tmp rfl];go_simp) rfl ?_;exact c.o.bad HQ.o f.o rfl
    ·rw[K7 g];rintro e9 w3 ⟨rfl,a⟩;replace a:=a.symm;subst a;have R0:=b9 (XZ s.o A g);have h1:=b9 f0;have t:l'≠[]:=by rintro rfl;simp at f0;omega
     have f:=b9 t;have T0:c6 (acc.length≤64):=by show _≤_;have:=Da s.o;have:=i1.o;omega
     rcases N6 c.o.bv with ⟨h0,_⟩|⟨b,b0,d,rfl,hp,i0,B,_⟩
     ·exact absurd h0 t
     have v0:(k:Int)≤(l'.length:Int):=by omega
     have x0:(k:Int)≤(d:Int):=by omega
     have D0:(l'.length:Int)≤(d:Int):=by omega
     have d1:(d:Int)≤9223372036854775807:=by unfold maxLen at B;omega
     have k0:=b9 (c8 J);clear a1 f0 Z0 hy g t hp i0 B s J z1 z2 y0 y1 y2;go_upto_region 21 with (at_builtin;refine g7 (by rfl) (.tmp 68) (.tmp 70) 38 (by rfl) (N+1) 37 .u64 8 Tryz.underlying38 oG _ _ _ (by rfl) (HO.o.alloc _) _ [_] (by rfl) (U0 .u64 _ _ _) (by have:=T0.o;simp only[maxLen,List.length_singleton];omega) (by have:=T0.o;simp only[List.length_singleton];omega) (by rw[g8];have:=k0.o;omega) ?_;intro v6 w6 p H)
     have G0:Below (N+1) wr w6:=((a8 wr _).mono k0.o).trans (g9 (HO.o.alloc _) H (by rw[g8];have:=k0.o;omega));have p0:=b9 (c.o.grow G0);have Q0:c6 (w6.ownsRow (N+1) 37 1 v6 (acc++[y]).length ((ib (acc++[y])).map (Value.int .u64))):=by show World.ownsRow _ _ _ _ _ _ _;rw[List.length_append,o7,List.map_append];exact p
     clear p H G0 c HO;obtain⟨M,L⟩:=kX p0.o.bv k h1.o;by_cases hc:d=k
     ·have K:=M hc;have K':=p0.o.turn K cK (fun _=>f.o) (Below.refl _ _);have G:c6 (Mt x l0 N w (.slice (some ⟨b,b0,none⟩) (l'.length-k) 0) v6 (.int .i64 ((i:Int)+1)) w6):=⟨i+1,acc++[y],l'.drop k,rfl,A,R0.o,K',Q0.o⟩;clear M L K K';subst hc;go_wp2_with fail;go_roundw
      case rel=>exact G.o
      case measure=>simp[intOf];omega
     ·have K:=L hc;have K':=p0.o.turn K iP (fun _=>f.o) (Below.refl _ _);have G:c6 (Mt x l0 N w (.slice (some ⟨b,b0+k,none⟩) (l'.length-k) (d-k)) v6 (.int .i64 ((i:Int)+1)) w6):=⟨i+1,acc++[y],l'.drop k,rfl,A,R0.o,by simpa[WideShapes.add_plain]using K',Q0.o⟩;clear M L K K';go_wp2_with fail;go_roundw
      case rel=>exact G.o
      case measure=>simp[intOf];omega
   ·have V0: ¬(i:Int)<(x:Int):=by omega
    obtain rfl:i=x:=by omega
    have HK:c6 (B7 l=iE xb xa (0,acc,l')):=by show _=_;rw[q0.o,Cz s.o]
    obtain⟨va,vn,vc,X0⟩:=r8 c.o.bv;subst X0;obtain⟨C0,_,_⟩:=cU c.o.bv;have o0:=b9 C0;clear C0 A b1 s;by_cases d0:vn=0;rotate_left
    ·have HQ:c6 ((B7 l).2=5):=by show _=_;rw[HK.o];exact Jc (by rw[←o0.o];exact d0)
     have j1:(0:Int)<(vn:Int):=by omega
     clear d0;go_wp2_with fail
     (try simp only[Exit.inBlock,Exit.then])
     refine bodyPost_ret (v:= .tuple #[.agg #[.int .i64 0,.int .i64 0,.slice none 0 0],.int .i64 5]) (by rw[results_cell_tmp rfl];go_simp) rfl ?_;exact c.o.bad HQ.o (by decide) rfl
    subst d0;obtain⟨ka,kn,kc,Y0⟩:=F2 (z9 HO.o);subst Y0;go_upto_region 25 with fail
    have HM:c6 _:=A9 wr xb xa (.slice ka kn kc);have W:c6 (DR N w (wr.alloc (Obj.cells #[.int .i64 xb,.int .i64 xa,.slice ka kn kc] 62)) (.slice va 0 vc) l'):=c.o.turn (c.o.bv.below (a8 _ _)) (Sb.refl _) id (a8 _ _);have U:c6 _:=j8 HO.o (a8 wr (Obj.cells #[.int .i64 xb,.int .i64 xa,.slice ka kn kc] 62));obtain⟨P,hP⟩:=c7 wr.heap.size;rw[←hP]at HM⊢;clear hP c HO J z1 z2 y0 y1 y2;generalize wr.alloc (Obj.cells #[.int .i64 xb,.int .i64 xa,.slice ka kn kc] 62)=w4 at HM W U⊢;have m0:=HM.o.c0;have m1:=HM.o.c1;have m2:=HM.o.c2;go_wp2_with fail;refine(gN (z9 U.o) xb xa).mono ?_;obtain⟨S,hS⟩:=c7 (o4 ⟨xb,xa,acc⟩);rw[←hS];rintro e9 w5 ⟨rfl,C⟩;have m:c6 (DR N w w5 (.slice va 0 vc) l'):=W.o.turn (W.o.bv.below C) (Sb.refl _) id C;have f1:c6 _:=j8 U.o C;have n0:c6 _:=HM.o.keep C;clear C W U HM m0 m1 m2;have J:=m.o.z.c0;have z1:=m.o.z.c1;have z2:=m.o.z.c2;have y0:=m.o.z.z 0;have y1:=m.o.z.z 1;have y2:=m.o.z.z 2
    cases S
    ·have HQ:c6 ((B7 l).2=1):=by show _=_;rw[HK.o];exact Jb o0.o.symm hS.symm
     clear hS;go_wp2_with fail
     (try simp only[Exit.inBlock,Exit.then])
     refine bodyPost_ret (v:= .tuple #[.agg #[.int .i64 0,.int .i64 0,.slice none 0 0],.int .i64 1]) (by rw[results_cell_tmp rfl];go_simp) rfl ?_;exact m.o.bad HQ.o (by decide) rfl
    ·have HQ:c6 (B7 l=(⟨xb,xa,acc⟩,0)):=by show _=_;rw[HK.o];exact Ja o0.o.symm hS.symm
     clear hS;have m0:=n0.o.c0;have m1:=n0.o.c1;have m2:=n0.o.c2;go_wp2_with fail
     (try simp only[Exit.inBlock,Exit.then])
     refine bodyPost_ret (v:= .tuple #[.agg #[.int .i64 xb,.int .i64 xa,.slice ka kn kc],.int .i64 0]) (by rw[results_cell_tmp rfl];go_simp) rfl ?_;have M:=k8 w5 N 0 (.int .i64 xb);have L:=k8 (w5.setCell ⟨N,0,none⟩ (.int .i64 xb)) N 1 (.int .i64 xa);have k3:=k8 ((w5.setCell ⟨N,0,none⟩ (.int .i64 xb)).setCell ⟨N,1,none⟩ (.int .i64 xa)) N 2 (.slice ka kn kc);have k:=(M.self L).self k3
     exact OZ HQ.o (q9 (U2 f1.o k (fun x hx=>by omega)) (by rw[←S0.o];omega)) (by
      rw[←S0.o];exact m.o.below.trans (pP _ _ _ (c8 J)))
section
def RT(A:n9)(w:d9)(tv xv:Value)(k:Int)(P:Bo)(S:Dk):Prop:=
 ∃tp bv,tv= .pointer (some ⟨tp,0,none⟩)∧w.heap[tp]?=some (.cells #[bv,.int .i64 k] 99 (0,0))∧ ¬A tp∧BQ A w bv xv P S∧P.tab.length=7
section

variable{A E:n9}{w w':d9}{tv xv:Value}{k:Int}{P:Bo}{S:Dk}

theorem RT.ch(h:RT A w tv xv k P S)(hc:Ch E w w')(hE: ∀x,x<w.heap.size→ ¬E x):RT A w' tv xv k P S:=by
 obtain⟨tp,i,e,c,g,b,f⟩:=h;have a:=(Array.getElem?_eq_some_iff.1 c).1;exact⟨tp,i,e,by rw[hc.block tp a (hE tp a)];exact c,g,b.ch hc (fun x d=>hE x (b.lt d)),f⟩
theorem RT.below(h:RT A w tv xv k P S)(hb:f8 w w'):RT A w' tv xv k P S:=h.ch (E:=fun _=>False) (Ch.of_below hb) (fun _ _ h=>h)
theorem RT.lt(h:RT A w tv xv k P S){x:Nat}(hx:A x):x<w.heap.size:=by
 obtain⟨tp,f,e,d,c,a,b⟩:=h;exact a.lt hx
theorem bR:Calls Tryz.prog 110 #[.pointer none] w fun e w'=>e= .returned (.int .i64 2)∧w'=w:=by
 go_in;go_wp2_with fail;go_ret;exact⟨rfl,rfl⟩
theorem X9(h:RT A w tv xv k P S)(hs:i6 P S=false):Calls Tryz.prog 110 #[tv] w fun e w'=>e= .returned (.int .i64 0)∧w'=w:=by
 obtain⟨tp,p,rfl,d,i,⟨D,f,uv,rfl,a⟩,g⟩:=h;have HD:c6 (I9 91 D w xv S):=a.dsk;unfold i6 at hs;rw[Bool.or_eq_false_iff]at hs;have c:c6 (S.down=false):=hs.2;have n:=Jx a;have j:=Fl a;rw[hs.1]at j;have m:w.cell? ⟨tp,0,none⟩=some (.pointer (some ⟨f,0,none⟩)):=by rw[cell_of_row w tp 0 _ _ (0,0) d];rfl
 clear d i a g hs;go_in;go_wp2_with fail;refine(Q5 HD.o).mono ?_;rw[c.o];rintro e l ⟨rfl,b⟩;have b:=b.symm;subst b;go_wp2_with fail;go_ret;exact⟨rfl,rfl⟩
theorem aD(h:RT A w tv xv k P S)(hs:i6 P S=true):Calls Tryz.prog 110 #[tv] w fun e w'=>e= .returned (.int .i64 80)∧RT A w' tv xv k (J6 P) S∧Ch A w w':=by
 obtain⟨tp,E,rfl,m,l,⟨D,g,uv,rfl,f⟩,r⟩:=h;have HD:c6 (I9 91 D w xv S):=f.dsk;have n:tp≠g:=fun e=>l (e▸f.ab);have s:=(Array.getElem?_eq_some_iff.1 m).1;have HC:c6 (Ch A w (w.setCell ⟨g,4,none⟩ (.bool true))):=f.chput _ _;have HE:c6 (RT A (w.setCell ⟨g,4,none⟩ (.bool true)) (.pointer (some ⟨tp,0,none⟩)) xv k (J6 P) S):=⟨tp,_,rfl,by rw[HC.o.block tp s l];exact m,l,⟨D,g,uv,rfl,rX f⟩,r⟩;have HM:c6 (RT A w (.pointer (some ⟨tp,0,none⟩)) xv k P S):=⟨tp,_,rfl,m,l,⟨D,g,uv,rfl,f⟩,r⟩;have C:=Jx f;have z:=Fl f;have f4:=f.soft 4;have y:w.cell? ⟨tp,0,none⟩=some (.pointer (some ⟨g,0,none⟩)):=by rw[cell_of_row w tp 0 _ _ (0,0) m];rfl
 have x:(w.setCell ⟨g,4,none⟩ (.bool true)).cell? ⟨tp,0,none⟩=some (.pointer (some ⟨g,0,none⟩)):=by rw[World.cell?_setCell_other _ _ _ _ (by intro q;cases q)];exact y
 have t:=Fl (rX f)
 cases hd:S.down
 ·have j:c6 (S.down=false):=hd;have p:P.over=true:=by unfold i6 at hs;rw[hd,Bool.or_false]at hs;exact hs
  have u:c6 (J6 P=P):=by show _=_;obtain⟨a,b,c,d⟩:=P;simp only at p;subst p;rfl
  rw[p]at z;clear m l f r hs p hd t x n s;go_in;go_wp2_with fail;refine(Q5 HD.o).mono ?_;rw[j.o];rintro e v ⟨rfl,i⟩;have i:=i.symm;subst i;go_wp2_with fail;go_ret;exact⟨rfl,by rw[u.o];exact HM.o,Ch.refl _ _⟩
 ·have j:c6 (S.down=true):=hd;have B:(w.setCell ⟨g,4,none⟩ (.bool true)).cell? ⟨g,4,none⟩=some (.bool true):=t;clear m l f r hs hd t n s;go_in;go_wp2_with fail;refine(Q5 HD.o).mono ?_;rw[j.o];rintro e v ⟨rfl,i⟩;have i:=i.symm;subst i;go_wp2_with fail;go_ret;exact⟨rfl,HE.o,HC.o⟩
end
end
section
theorem jM{fn:Func}{p:Tmp}{ty:TypeId}(h:fn.results= #[.cell p ty])(tmps:Array Value)(P:Program)(w:d9):
  (results fn tmps).run P w=((asAddr (tmps.getD p undef)).run P w).andThen fun a w₁=>(loadVar ty a).run P w₁:=by
 simp only[results,h];simp[Sem.run_bind,Result.andThen]
section

variable{A:n9}{w w':d9}{sv dv:Value}{k:Int}{P:Bo}{S:Dk}{sp:Nat}

theorem RT.ok(h:RT A w sv dv k P S):P.ok S.bl.length∧P.tab.length=7:=by
 obtain⟨sp,f,e,d,c,b,a⟩:=h;exact⟨b.good,a⟩
theorem RT.ptr(h:RT A w sv dv k P S): ∃sp,sv= .pointer (some ⟨sp,0,none⟩)∧sp<w.heap.size∧ ¬A sp:=by
 obtain⟨sp,c,e,b,a,_⟩:=h;exact⟨sp,e,(Array.getElem?_eq_some_iff.1 b).1,a⟩
theorem RT.setB(h:RT A w sv dv k P S){g i:Nat}{v:Value}(hg: ∀x,x<w.heap.size→A x→x≠g)(hp: ∀sp,sv= .pointer (some ⟨sp,0,none⟩)→sp≠g):RT A (w.setCell ⟨g,i,none⟩ v) sv dv k P S:=by
 obtain⟨sp,m,e,d,l,c,j⟩:=h;have b:=k8 w g i v;have f:=(Array.getElem?_eq_some_iff.1 d).1;exact⟨sp,m,e,by rw[b.block sp f (hp sp e)];exact d,l,c.ch b (fun x a=>hg x (c.lt a) a),j⟩
theorem RT.three(h:RT A w (.pointer (some ⟨sp,0,none⟩)) dv k P S){g:Nat}(hg: ¬A g)(hp:sp≠g)(a b c:Value):RT A (((w.setCell ⟨g,0,none⟩ a).setCell ⟨g,1,none⟩ b).setCell ⟨g,2,none⟩ c) (.pointer (some ⟨sp,0,none⟩)) dv k P S:=by
 have s: ∀{x:d9} (i:Nat) (u:Value),RT A x (.pointer (some ⟨sp,0,none⟩)) dv k P S→RT A (x.setCell ⟨g,i,none⟩ u) (.pointer (some ⟨sp,0,none⟩)) dv k P S:=fun i u d=>d.setB (fun y _ f e=>by subst e;exact hg f) (fun s e=>by cases e;exact hp);exact s _ _ (s _ _ (s _ _ h))
theorem rF(w:d9):Calls Tryz.prog 53 #[.pointer none] w fun e w'=>e= .returned (.int .i64 0)∧w'=w:=by
 go_in;go_wp2_with fail;go_ret;exact⟨rfl,rfl⟩
theorem oY(h:RT A w sv dv k P S):Calls Tryz.prog 53 #[sv] w fun e w'=>e= .returned (.int .i64 (Z9 P.tab))∧w'=w:=by
 obtain⟨sp,g,rfl,c,f,b,d⟩:=h;have HB:=b9 b;have l:w.cell? ⟨sp,0,none⟩=some g:=by rw[cell_of_row w sp 0 _ _ (0,0) c];rfl
 obtain⟨D,j,i,a,_⟩:=b;subst a;clear c f d;go_in;go_wp2_with fail;refine B4 (JF HB.o) ?_;go_wp2_with fail;go_ret;exact⟨rfl,rfl⟩
theorem oZ(w:d9):Calls Tryz.prog 54 #[.pointer none] w fun e w'=>e= .returned (.bool false)∧w'=w:=by
 go_in;go_wp2_with fail;go_ret;exact⟨rfl,rfl⟩
theorem lR(h:RT A w sv dv k P S):Calls Tryz.prog 54 #[sv] w fun e w'=>e= .returned (.bool P.over)∧w'=w:=by
 obtain⟨sp,g,rfl,c,f,b,d⟩:=h;have HB:=b9 b;have l:w.cell? ⟨sp,0,none⟩=some g:=by rw[cell_of_row w sp 0 _ _ (0,0) c];rfl
 obtain⟨D,j,i,a,_⟩:=b;subst a;clear c f d;go_in;go_wp2_with fail;refine B4 (CH HB.o) ?_;go_wp2_with fail;go_ret;exact⟨rfl,rfl⟩
def wT(A:n9)(w:d9)(sv dv:Value)(k:Int)(P:Bo)(S:Dk)(e:Ending)(w':d9):Prop:=
 ∃(v:Value),e= .returned (.agg #[.int .i64 (B7 (A0 P S 0)).1.b,.int .i64 (B7 (A0 P S 0)).1.a,v])∧w'.ownsRow w.heap.size 37 1 v (B7 (A0 P S 0)).1.k.length ((ib (B7 (A0 P S 0)).1.k).map (Value.int .u64))∧
  RT A w' sv dv k P (aF P S 0)∧Ch A w w'
theorem gU(h:RT A w sv dv k P S)(p:Int):(A0 P S p).length≤1024∧ ∀c∈A0 P S p,c<256:=by
 obtain⟨sp,m,e,j,i,⟨D,f,d,l,b⟩,g⟩:=h;have a:=b.dsk.good;unfold A0
 split
 ·simp
 ·split
  ·simp
  ·split
   ·simp
   ·exact dQ a _
theorem cL(h:RT A w sv dv k P S)(hs:i6 P S=false)(hrd:S.rd<4611686018427387904):Calls Tryz.prog 113 #[sv] w (wT A w sv dv k P S):=by
 have f0:c6 (S.rd<9223372036854775807):=by show _<_;omega
 have HS:=b9 hs;have h0:c6 _:=(gU h 0).2;obtain⟨sp,bv,rfl,t,Z,h3,h4⟩:=h;have H1:=b9 t;have H2:=b9 Z;have H4:=b9 h4;have i0:c6 (∀x,A x→x<w.heap.size):=fun x hx=>h3.lt hx;have l:=(Array.getElem?_eq_some_iff.1 t).1;have I:=b9 l;have HB:c6 (f8 w (w.alloc (Obj.cells #[.int .i64 0,.int .i64 0,.slice none 0 0] 62))):=a8 _ _;have q:c6 _:=A9 w 0 0 (.slice none 0 0);have N:c6 (BQ A (w.alloc (Obj.cells #[.int .i64 0,.int .i64 0,.slice none 0 0] 62)) bv dv P S):=h3.ch (E:=fun _=>False) (Ch.of_below HB.o) (fun _ _ h=>h)
 have m0:(w.alloc (Obj.cells #[.int .i64 0,.int .i64 0,.slice none 0 0] 62)).cell? ⟨sp,0,none⟩=some bv:=by
  have g:(w.alloc (Obj.cells #[.int .i64 0,.int .i64 0,.slice none 0 0] 62)).heap[sp]?=some (.cells #[bv,.int .i64 k] 99 (0,0)):=by rw[(Ch.of_below HB.o (D:=fun _=>False)).block sp l (fun h=>h)];exact t
  rw[cell_of_row _ sp 0 _ _ (0,0) g];rfl
 obtain⟨D,pb,tv,b0,_⟩:=h3;subst b0;clear t Z h4 hrd hs l;go_in;go_upto_region 1 with fail
 obtain⟨R,hR⟩:=c7 w.heap.size;rw[←hR]at q⊢;have HR:=b9 hR;clear hR;generalize w.alloc (Obj.cells #[.int .i64 0,.int .i64 0,.slice none 0 0] 62)=w0 at q N HB m0⊢;have T:c6 (¬A R):=fun e=>by have t:=i0.o _ e;have Z:=HR.o;omega
 go_wp2_with fail;refine(iR N.o 0 f0.o).mono ?_;rintro e w2 ⟨r,rfl,ho,u,n⟩;have C:=b9 (p7 ho h0.o);obtain⟨⟨⟨B,M,K⟩,E⟩,hD⟩: ∃D,B7 (A0 P S 0)=D:=⟨_,rfl⟩;have HD:=b9 hD;have s:=b9 ((Ch.of_below HB.o).self n)
 have H:c6 (RT A w2 (.pointer (some ⟨sp,0,none⟩)) dv k P (aF P S 0)):=
  ⟨sp,_,rfl,by rw[s.o.block sp I.o H2.o];exact H1.o,H2.o,by have:=u;rw[F5 HS.o]at this;exact this,H4.o⟩
 have p:c6 _:=q.o.ch n T.o;clear ho u n hD m0;go_wp2_with fail;refine(rL C.o).mono ?_;unfold IN;rw[HD.o];rintro e j ⟨v3,rfl,m,i⟩;have G:=b9 (H.o.below i);have W:=b9 (s.o.self (Ch.of_below i));have L:c6 _:=p.o.keep i;have J:=b9 (c8 p.o.c0);have O:=b9 (q9 m J.o);obtain⟨f,c,d,a0⟩: ∃x y z,v3= .slice x y z:=by obtain⟨x,z,e⟩:=y9 m;exact⟨x,_,z,e⟩
 subst a0;clear m i H s p C;go_upto_region 3 with fail
 have F:=b9 (G.o.below (a8 j (Obj.cells #[.int .i64 B,.int .i64 M,.slice f c d] 62)));have U:c6 _:=W.o.self (Ch.of_below (a8 j (Obj.cells #[.int .i64 B,.int .i64 M,.slice f c d] 62)));have a:c6 _:=L.o.keep (a8 j (Obj.cells #[.int .i64 B,.int .i64 M,.slice f c d] 62));have Q:c6 _:=j8 O.o (a8 j (Obj.cells #[.int .i64 B,.int .i64 M,.slice f c d] 62));have b:c6 _:=A9 j B M (.slice f c d);generalize j.heap.size=X at b⊢;generalize j.alloc (Obj.cells #[.int .i64 B,.int .i64 M,.slice f c d] 62)=w4 at F U a Q b⊢;have r0:=a.o.c0;have r1:=a.o.c1;have r2:=a.o.c2;have z0:=a.o.z 0;have z1:=a.o.z 1;have z2:=a.o.z 2;have x0:=b.o.c0;have x1:=b.o.c1;have x2:=b.o.c2;have Y:c6 _:=W4 U.o (.inr (by rw[HR.o];exact Nat.le_refl _)) (g:=R) (.int .i64 B) (.int .i64 M) (.slice f c d);have d0:c6 _:=F.o.three T.o (by have t:=I.o;have Z:=HR.o;omega) (.int .i64 B) (.int .i64 M) (.slice f c d);have g0:c6 _:=U2 Q.o (W4 (D:=fun x=>x=R) (Ch.refl _ w4) (.inl rfl) (g:=R) (.int .i64 B) (.int .i64 M) (.slice f c d)) (fun x hx=>by omega);clear G W L O J;go_wp2_with fail
 (try simp only[Exit.inBlock,Exit.then])
 refine bodyPost_ret (v:= .agg #[.int .i64 B,.int .i64 M,.slice f c d]) (by rw[jM rfl];go_simp) rfl ?_;unfold wT;rw[HD.o];exact⟨_,rfl,q9 g0.o (by rw[←HR.o];omega),d0.o,Y.o⟩
end
end
section
section

variable{A:n9}{w w':d9}{sv dv:Value}{k:Int}{P:Bo}{S:Dk}{sp:Nat}

theorem RI(w:d9):Calls Tryz.prog 57 #[.pointer none] w fun e w'=>e= .returned (.tuple #[.agg #[.int .i64 0,.int .i64 0,.slice none 0 0],.int .i64 2])∧f8 w w':=by
 have HB:c6 (f8 w (w.alloc (Obj.cells #[.int .i64 0,.int .i64 0,.slice none 0 0] 62))):=a8 _ _;have a:c6 _:=A9 w 0 0 (.slice none 0 0);go_in;go_upto_region 1 with fail
 obtain⟨R,b⟩:=c7 w.heap.size;rw[←b]at a⊢;have HR:c6 (R=w.heap.size):=b;clear b;generalize w.alloc (Obj.cells #[.int .i64 0,.int .i64 0,.slice none 0 0] 62)=w0 at a HB⊢;go_wp2_with fail;refine B4 bR ?_;have j:=a.o.c0;have i:=a.o.c1;have h:=a.o.c2;have g:=a.o.z 0;have f:=a.o.z 1;have d:=a.o.z 2;go_wp2_with fail
 (try simp only[Exit.inBlock,Exit.then])
 refine bodyPost_ret (v:= .tuple #[.agg #[.int .i64 0,.int .i64 0,.slice none 0 0],.int .i64 2]) (by rw[results_cell_tmp rfl];go_simp) rfl ?_;have c:w.heap.size≤R:=by rw[HR.o];exact Nat.le_refl _
 exact⟨rfl,((HB.o.setCell c _).setCell c _).setCell c _⟩
theorem JU(h:RT A w sv dv k P S)(hs:i6 P S=true):Calls Tryz.prog 57 #[sv] w fun e w'=>e= .returned (.tuple #[.agg #[.int .i64 0,.int .i64 0,.slice none 0 0],.int .i64 80])∧RT A w' sv dv k (J6 P) S∧Ch A w w':=by
 have HS:c6 (i6 P S=true):=hs;obtain⟨sp,n,f,_⟩:=h.ptr;have q:c6 (sp<w.heap.size):=f;have s:c6 (∀x,A x→x<w.heap.size):=fun x u=>h.lt u;subst n;have HB:c6 (f8 w (w.alloc (Obj.cells #[.int .i64 0,.int .i64 0,.slice none 0 0] 62))):=a8 _ _;have d:c6 _:=A9 w 0 0 (.slice none 0 0);have i:c6 (RT A (w.alloc (Obj.cells #[.int .i64 0,.int .i64 0,.slice none 0 0] 62)) (.pointer (some ⟨sp,0,none⟩)) dv k P S):=h.below HB.o;clear h hs f;go_in;go_upto_region 1 with fail
 obtain⟨R,m⟩:=c7 w.heap.size;rw[←m]at d⊢;have HR:c6 (R=w.heap.size):=m;clear m;generalize w.alloc (Obj.cells #[.int .i64 0,.int .i64 0,.slice none 0 0] 62)=w0 at d i HB⊢;have j:c6 (¬A R):=fun e=>by have B:=s.o _ e;have y:=HR.o;omega
 go_wp2_with fail;refine(aD i.o HS.o).mono ?_;rintro e t ⟨rfl,b,c⟩;have r:c6 (Ch A w t):=(Ch.of_below HB.o).self c;have a:c6 _:=d.o.ch c j.o;have l:c6 _:=W4 r.o (.inr (by rw[HR.o];exact Nat.le_refl _)) (g:=R) (.int .i64 0) (.int .i64 0) (.slice none 0 0);have p:c6 _:=b.three j.o (by have B:=q.o;have y:=HR.o;omega) (.int .i64 0) (.int .i64 0) (.slice none 0 0);have H:=a.o.c0;have G:=a.o.c1;have F:=a.o.c2;have E:=a.o.z 0;have D:=a.o.z 1;have C:=a.o.z 2;clear b c;go_wp2_with fail
 (try simp only[Exit.inBlock,Exit.then])
 refine bodyPost_ret (v:= .tuple #[.agg #[.int .i64 0,.int .i64 0,.slice none 0 0],.int .i64 80]) (by rw[results_cell_tmp rfl];go_simp) rfl ?_;exact⟨rfl,p.o,l.o⟩
def ZR(A:n9)(w:d9)(sv dv:Value)(k:Int)(P:Bo)(S:Dk)(e:Ending)(w':d9):Prop:=
 ∃(v:Value),e= .returned (.tuple #[.agg #[.int .i64 (B7 (A0 P S 0)).1.b,.int .i64 (B7 (A0 P S 0)).1.a,v],.int .i64 0])∧w'.ownsRow w.heap.size 37 1 v (B7 (A0 P S 0)).1.k.length ((ib (B7 (A0 P S 0)).1.k).map (Value.int .u64))∧
  RT A w' sv dv k P (aF P S 0)∧Ch A w w'
theorem VV(h:RT A w sv dv k P S)(hs:i6 P S=false)(hrd:S.rd<4611686018427387904):Calls Tryz.prog 57 #[sv] w (ZR A w sv dv k P S):=by
 have HS:c6 (i6 P S=false):=hs;have I:=b9 hrd;obtain⟨sp,F,j,_⟩:=h.ptr;have H:c6 (sp<w.heap.size):=j;have N:c6 (∀x,A x→x<w.heap.size):=fun x Q=>h.lt Q;subst F;have HB:c6 (f8 w (w.alloc (Obj.cells #[.int .i64 0,.int .i64 0,.slice none 0 0] 62))):=a8 _ _;have b:c6 _:=A9 w 0 0 (.slice none 0 0);have i:c6 (RT A (w.alloc (Obj.cells #[.int .i64 0,.int .i64 0,.slice none 0 0] 62)) (.pointer (some ⟨sp,0,none⟩)) dv k P S):=h.below HB.o;clear h hs j hrd;go_in;go_upto_region 1 with fail
 obtain⟨R,u⟩:=c7 w.heap.size;rw[←u]at b⊢;have HR:c6 (R=w.heap.size):=u;clear u;generalize w.alloc (Obj.cells #[.int .i64 0,.int .i64 0,.slice none 0 0] 62)=w0 at b i HB⊢;have n:c6 (¬A R):=fun e=>by have W:=N.o _ e;have U:=HR.o;omega
 go_wp2_with fail;refine B4 (X9 i.o HS.o) ?_;go_wp2_with fail;refine(cL i.o HS.o I.o).mono ?_;obtain⟨⟨⟨B,M,K⟩,E⟩,T⟩: ∃D,B7 (A0 P S 0)=D:=⟨_,rfl⟩;have HD:c6 (B7 (A0 P S 0)=(⟨B,M,K⟩,E)):=T;clear T;unfold wT;rw[HD.o];rintro e t ⟨O,rfl,d,c,f⟩;have L:c6 (Ch A w t):=(Ch.of_below HB.o).self f;have a:c6 _:=b.o.ch f n.o;have l:c6 (R<w0.heap.size):=c8 b.o.c0;have m:c6 (t.ownsRow (R+1) 37 1 O K.length ((ib K).map (Value.int .u64))):=q9 d l.o;obtain⟨s,q,r,C⟩: ∃x y z,O= .slice x y z:=by obtain⟨x,z,e⟩:=y9 d;exact⟨x,_,z,e⟩
 subst C;have p:c6 _:=W4 L.o (.inr (by rw[HR.o];exact Nat.le_refl _)) (g:=R) (.int .i64 B) (.int .i64 M) (.slice s q r);have G:c6 _:=c.three n.o (by have W:=H.o;have U:=HR.o;omega) (.int .i64 B) (.int .i64 M) (.slice s q r);have J:c6 _:=U2 m.o (W4 (D:=fun x=>x=R) (Ch.refl _ t) (.inl rfl) (g:=R) (.int .i64 B) (.int .i64 M) (.slice s q r)) (fun x Q=>by omega);have r0:=a.o.c0;have r1:=a.o.c1;have r2:=a.o.c2;have Z:=a.o.z 0;have Y:=a.o.z 1;have X:=a.o.z 2;clear d c f m l;go_wp2_with fail
 (try simp only[Exit.inBlock,Exit.then])
 refine bodyPost_ret (v:= .tuple #[.agg #[.int .i64 B,.int .i64 M,.slice s q r],.int .i64 0]) (by rw[results_cell_tmp rfl];go_simp) rfl ?_;unfold ZR;rw[HD.o];exact⟨_,rfl,q9 J.o (by rw[←HR.o];omega),G.o,p.o⟩
end
end
section
structure S7(w:d9)(Q:Nat)(f:Nat→Value)(g:Nat→List Cl):Prop where
 c: ∀i,i<7→w.cell? ⟨Q,i,none⟩=some (f i)
 z: ∀j,w.frozen? ⟨Q,j,none⟩=false
 cv: ∀i,i<7→Cv w (f i) (g i)
section

variable{w w':d9}{Q:Nat}{f:Nat→Value}{g:Nat→List Cl}

theorem S7.lt(h:S7 w Q f g):Q<w.heap.size:=c8 (h.c 0 (by omega))
theorem S7.below(h:S7 w Q f g)(hb:f8 w w'):S7 w' Q f g:=
 ⟨fun i hi=>by rw[hb.cell (p:=⟨Q,i,none⟩) h.lt];exact h.c i hi,fun j=>by rw[hb.frozen (p:=⟨Q,j,none⟩) h.lt];exact h.z j,fun i hi=>(h.cv i hi).below hb⟩
theorem S7.form(h:S7 w Q f g){i:Nat}(hi:i<7): ∃ao cap,f i= .slice ao (g i).length cap:=(h.cv i hi).form
theorem S7.set(h:S7 w Q f g){i:Nat}(hi:i<7){v:Value}{g':Nat→List Cl}(hv:Cv w v (g' i))(hg: ∀j,j<7→j≠i→g' j=g j):S7 (w.setCell ⟨Q,i,none⟩ v) Q (pR f i v) g':=by
 obtain⟨k,d,e⟩:=h.form hi;have b: ∀c:Cl,f i∉W6 c:=fun c=>by rw[e];exact bK c
 refine⟨fun j a=>?_,fun j=>by simpa[go_sem]using h.z j,fun j a=>?_⟩
 ·unfold pR;by_cases q:i=j
  ·subst q;rw[if_pos rfl];simp[go_sem,h.c i hi]
  ·rw[if_neg q,World.cell?_setCell_other _ _ _ _ (by rintro⟨⟩;exact q rfl)];exact h.c j a
 ·unfold pR;by_cases q:i=j
  ·subst q;rw[if_pos rfl];exact hv.set (h.c i hi) b v
  ·rw[if_neg q,hg j a (fun e=>q e.symm)];exact(h.cv j a).set (h.c i hi) b v
theorem S7.chA{D:n9}(h:S7 w Q f g)(hc:Ch D w w')(hq: ¬D Q)(hf: ∀j,j<7→ ∀x,(f j).ownBlock=some x→ ¬D x):S7 w' Q f g:=
 ⟨fun i hi=>hc.cell (h.c i hi) hq,fun j=>by
  have e:=hc.block Q h.lt hq;have hz:=h.z j;unfold World.frozen? at hz⊢;rw[e];exact hz,fun i hi=>(h.cv i hi).ch hc (hf i hi)⟩
theorem VI(w:d9):S7 (w.alloc (Obj.cells #[.slice none 0 0,.slice none 0 0,.slice none 0 0,.slice none 0 0,.slice none 0 0,.slice none 0 0,.slice none 0 0] 147)) w.heap.size kD (fun _=>[]):=by
 refine⟨fun i a=>?_,fun j=>by simp[go_sem],fun i a=>Cv.nil _⟩;have:i=0∨i=1∨i=2∨i=3∨i=4∨i=5∨i=6:=by omega
 rcases this with rfl|rfl|rfl|rfl|rfl|rfl|rfl<;>simp[go_sem,kD]
theorem Cv.seven{v:Value}{l:List Cl}(h:Cv w v l)(hR:S7 w Q f g)(u0 u1 u2 u3 u4 u5 u6:Value):Cv (((((((w.setCell ⟨Q,0,none⟩ u0).setCell ⟨Q,1,none⟩ u1).setCell ⟨Q,2,none⟩ u2).setCell ⟨Q,3,none⟩ u3).setCell ⟨Q,4,none⟩ u4).setCell ⟨Q,5,none⟩ u5).setCell ⟨Q,6,none⟩ u6) v l:=by
 have n: ∀i,i<7→ ∀c:Cl,f i∉W6 c:=fun i b c=>by obtain⟨t,s,e⟩:=hR.form b;rw[e];exact bK c
 have o: ∀{x:d9}{i j:Nat} (u:Value),i≠j→x.cell? ⟨Q,j,none⟩=some (f j)→(x.setCell ⟨Q,i,none⟩ u).cell? ⟨Q,j,none⟩=some (f j):=fun u a h=>by rw[World.cell?_setCell_other _ _ _ _ (by rintro⟨⟩;exact a rfl)];exact h
 have r:=h.set (hR.c 0 (by omega)) (n 0 (by omega)) u0;have q:=r.set (o u0 (by omega) (hR.c 1 (by omega))) (n 1 (by omega)) u1;have p:=q.set (o u1 (by omega) (o u0 (by omega) (hR.c 2 (by omega)))) (n 2 (by omega)) u2;have m:=p.set (o u2 (by omega) (o u1 (by omega) (o u0 (by omega) (hR.c 3 (by omega))))) (n 3 (by omega)) u3;have k:=m.set (o u3 (by omega) (o u2 (by omega) (o u1 (by omega) (o u0 (by omega) (hR.c 4 (by omega)))))) (n 4 (by omega)) u4;have d:=k.set (o u4 (by omega) (o u3 (by omega) (o u2 (by omega) (o u1 (by omega) (o u0 (by omega) (hR.c 5 (by omega))))))) (n 5 (by omega)) u5;exact d.set (o u5 (by omega) (o u4 (by omega) (o u3 (by omega) (o u2 (by omega) (o u1 (by omega) (o u0 (by omega) (hR.c 6 (by omega)))))))) (n 6 (by omega)) u6
end

def gP(P:Bo)(S:Dk)(n j:Nat):List Cl:=if 1≤j∧j<n then(t7 (A0 P S (j:Int))).1 else []
theorem Ik{P:Bo}{S:Dk}:gP P S 1=fun _=>[]:=by funext j;unfold gP;rw[if_neg (by omega)]
theorem Di{P:Bo}{S:Dk}{n j:Nat}(h:j≠n):gP P S (n+1) j=gP P S n j:=by
 unfold gP;by_cases q:1≤j∧j<n
 ·rw[if_pos q,if_pos (by omega)]
 ·rw[if_neg q,if_neg (by omega)]
theorem Kx{P:Bo}{S:Dk}{n:Nat}(h:1≤n):gP P S (n+1) n=(t7 (A0 P S (n:Int))).1:=by unfold gP;rw[if_pos (by omega)]
section

variable{A:n9}{w w':d9}{sv dv:Value}{k:Int}{P:Bo}{S:Dk}{sp:Nat}

theorem ZA{D:n9}{w0 w1:d9}{g:Nat}(h:Ch D w0 w1)(hg:D g∨w0.heap.size≤g)(a b c d e f i:Value):Ch D w0 (((((((w1.setCell ⟨g,0,none⟩ a).setCell ⟨g,1,none⟩ b).setCell ⟨g,2,none⟩ c).setCell ⟨g,3,none⟩ d).setCell ⟨g,4,none⟩ e).setCell ⟨g,5,none⟩ f).setCell ⟨g,6,none⟩ i):=by
 have s: ∀{x:d9} (i:Nat) (u:Value),Ch D w0 x→Ch D w0 (x.setCell ⟨g,i,none⟩ u):=fun i u k=>k.trans (k8 _ g i u) (fun y j=>by subst j;exact hg);exact s _ _ (s _ _ (s _ _ (s _ _ (s _ _ (s _ _ (s _ _ h))))))
theorem RT.seven(h:RT A w (.pointer (some ⟨sp,0,none⟩)) dv k P S){g:Nat}(hg: ¬A g)(hp:sp≠g)(a b c d e f i:Value):RT A (((((((w.setCell ⟨g,0,none⟩ a).setCell ⟨g,1,none⟩ b).setCell ⟨g,2,none⟩ c).setCell ⟨g,3,none⟩ d).setCell ⟨g,4,none⟩ e).setCell ⟨g,5,none⟩ f).setCell ⟨g,6,none⟩ i) (.pointer (some ⟨sp,0,none⟩)) dv k P S:=by
 have s: ∀{x:d9} (i:Nat) (u:Value),RT A x (.pointer (some ⟨sp,0,none⟩)) dv k P S→RT A (x.setCell ⟨g,i,none⟩ u) (.pointer (some ⟨sp,0,none⟩)) dv k P S:=fun i u j=>j.setB (fun y _ l e=>by subst e;exact hg l) (fun s e=>by cases e;exact hp);exact s _ _ (s _ _ (s _ _ (s _ _ (s _ _ (s _ _ (s _ _ h))))))
def Mb(A:n9)(w:d9)(sv dv:Value)(k:Int)(P:Bo)(S:Dk)(e:Ending)(w':d9):Prop:=
 ∃(f:Nat→Value) (S':Dk),e= .returned (.agg #[f 0,f 1,f 2,f 3,f 4,f 5,f 6])∧(∀j,j<7→ ∃a n q,f j= .slice a n q)∧(∀j,j<7→ ∀x,(f j).ownBlock=some x→w.heap.size≤x)∧
  (∀j,j<7→Cv w' (f j) (gP P S 7 j))∧RT A w' sv dv k P S'∧F0 6 S S'∧Ch A w w'
def ZU(A:n9)(w:d9)(sv dv:Value)(k:Int)(P:Bo)(S:Dk)(R Q:Nat)(iv:Value)(wr:d9):Prop:=
 ∃(i:Nat) (f:Nat→Value) (S':Dk),iv= .int .i64 i∧1≤i∧i≤7∧S7 wr Q f (gP P S i)∧(∀j,j<7→ ∀x,(f j).ownBlock=some x→w.heap.size≤x)∧S7 wr R kD (fun _=>[])∧RT A wr sv dv k P S'∧F0 (i-1) S S'∧Ch A w wr
theorem aV(h:RT A w sv dv k P S)(hs:i6 P S=false)(hrd:S.rd<4611686018427387904):Calls Tryz.prog 116 #[sv] w (Mb A w sv dv k P S):=by
 have HS:=b9 hs;have J0:=b9 hrd;obtain⟨sp,v0,d0,_⟩:=h.ptr;have k0:=b9 d0;have X:c6 (∀x,A x→x<w.heap.size):=fun x m=>h.lt m;subst v0;have R1:=VI w;have Q1:=VI (w.alloc (Obj.cells #[.slice none 0 0,.slice none 0 0,.slice none 0 0,.slice none 0 0,.slice none 0 0,.slice none 0 0,.slice none 0 0] 147));rw[g8]at Q1;have HB:c6 (f8 w ((w.alloc (Obj.cells #[.slice none 0 0,.slice none 0 0,.slice none 0 0,.slice none 0 0,.slice none 0 0,.slice none 0 0,.slice none 0 0] 147)).alloc (Obj.cells #[.slice none 0 0,.slice none 0 0,.slice none 0 0,.slice none 0 0,.slice none 0 0,.slice none 0 0,.slice none 0 0] 147))):=a9 (a8 _ _) (a8 _ _)
 have H0:c6 (ZU A w (.pointer (some ⟨sp,0,none⟩)) dv k P S w.heap.size (w.heap.size+1) (.int .i64 1) ((w.alloc (Obj.cells #[.slice none 0 0,.slice none 0 0,.slice none 0 0,.slice none 0 0,.slice none 0 0,.slice none 0 0,.slice none 0 0] 147)).alloc (Obj.cells #[.slice none 0 0,.slice none 0 0,.slice none 0 0,.slice none 0 0,.slice none 0 0,.slice none 0 0,.slice none 0 0] 147))):=
  ⟨1,kD,S,rfl,by omega,by omega,by rw[Ik];exact Q1,fun j _ x m=>(by cases m),R1.below (a8 _ _),h.below HB.o,F0.refl _,Ch.of_below HB.o⟩
 clear h hs hrd R1 Q1 d0;go_in;go_upto_region 2 with fail
 obtain⟨R,hR⟩:=c7 w.heap.size;rw[←hR]at H0⊢;have HR:=b9 hR;clear hR;generalize ((w.alloc (Obj.cells #[.slice none 0 0,.slice none 0 0,.slice none 0 0,.slice none 0 0,.slice none 0 0,.slice none 0 0,.slice none 0 0] 147)).alloc (Obj.cells #[.slice none 0 0,.slice none 0 0,.slice none 0 0,.slice none 0 0,.slice none 0 0,.slice none 0 0,.slice none 0 0] 147))=w0 at H0 HB⊢;obtain⟨Q,hQ⟩:=c7 (R+1);rw[←hQ]at H0⊢;have HQ:=b9 hQ;clear hQ;go_wp2_with fail;go_loopw [4] (fun iv wr=>ZU A w (.pointer (some ⟨sp,0,none⟩)) dv k P S R Q iv wr) (fun iv _=>7-(intOf iv).toNat)
 case atStart=>exact H0.o
 case round=>
  clear H0;obtain⟨i,f,S',rfl,y0,hi,hq,f0,hr,M,I,g0⟩:=hrel;have g:=b9 hq;have U:=b9 f0;have b:=b9 hr;have HT:=b9 M;have l:=b9 I;have HC:=b9 g0;have t:c6 (w.heap.size≤R∧w.heap.size≤Q):=by have F:=HR.o;have H:=HQ.o;exact⟨by omega,by omega⟩
  have G:c6 (¬A R∧ ¬A Q):=⟨fun e=>by have:=X.o _ e;have:=t.o.1;omega,fun e=>by have:=X.o _ e;have:=t.o.2;omega⟩;clear hq f0 hr I g0;by_cases O:i<7
  ·have x0:(i:Int)≤6:=by omega
   have N0:(i:Int)<7:=by omega
   have O0:(0:Int)≤(i:Int):=by omega
   obtain⟨sp',bv,B0,F,H,h3,h4⟩:=M
   cases B0
   have l0:=b9 h3;have H1:=b9 F;have H2:=b9 H;have H4:=b9 h4;have m0:wr.cell? ⟨sp,0,none⟩=some bv:=by rw[cell_of_row wr sp 0 _ _ (0,0) F];rfl
   obtain⟨D0,pb,tv,C0,_⟩:=h3;subst C0;clear F H h4;go_wp2_with fail;refine(iR l0.o (i:Int) (by have F:=l.o.rd;have H:=J0.o;omega)).mono ?_;unfold Gt;rw[F5 (by rw[C3 l.o];exact HS.o),J3 l.o];rintro e w2 ⟨r,rfl,ho,h0,y⟩;have C:RT A w2 (.pointer (some ⟨sp,0,none⟩)) dv k P (aF P S' (i:Int)):=⟨sp,_,rfl,by rw[y.block sp (Array.getElem?_eq_some_iff.1 H1.o).1 H2.o];exact H1.o,H2.o,h0,H4.o⟩;have hL:=(gU C (i:Int)).2;rw[J3 (l.o.trans J5)]at hL;have j0:=b9 (p7 ho hL);have T:=b9 C;have L:c6 (F0 (i+1-1) S (aF P S' (i:Int))):=by have h:=l.o.trans (J5 (P:=P) (p:=(i:Int)));rw[show i-1+1=i+1-1 by omega]at h;exact h
   have K:=b9 (g.o.chA y G.o.2 (fun j u x m e=>by have F:=U.o j u x m;have H:=X.o x e;omega));have J:=b9 (b.o.chA y G.o.1 (fun j u x m e=>(by cases m)));have W:=b9 (HC.o.self y);generalize aF P S' (i:Int)=S2 at T L;clear ho C h0 y hL m0 HT l g b HC l0 H1 H2 H4;go_wp2_with fail;refine(mA j0.o).mono ?_;obtain⟨D,hD⟩:=c7 (t7 (A0 P S (i:Int)));have HD:=b9 hD;clear hD;unfold cH;rw[←HD.o];rintro e w3 ⟨v3,rfl,N,B⟩;have I0:=b9 (T.o.below B);have E:=b9 (K.o.below B);have o0:=b9 (J.o.below B);have M0:=b9 (W.o.self (Ch.of_below B));have i0:=b9 ((cX N).1);have K0:c6 (∀x,v3.ownBlock=some x→w.heap.size≤x):=fun x m=>by have F:=(N.lt x m).1;have H:=W.o.size;omega
   clear N B T K J W j0;obtain⟨va,vc,b0⟩:=i0.o.form;obtain⟨vn,c0⟩:=c7 D.1.length;rw[←c0]at b0;subst b0;have q0:=E.o.c i O;have q1:=E.o.z i
   have s0:c6 (ZU A w (.pointer (some ⟨sp,0,none⟩)) dv k P S R Q (.int .i64 ((i:Int)+1)) (w3.setCell ⟨Q,i,none⟩ (.slice va vn vc))):=by
    refine⟨i+1,pR f i (.slice va vn vc),S2,rfl,by omega,O,?_,?_,?_,?_,L.o,M0.o.trans (k8 w3 Q i _) (fun x m=>by subst m;exact .inr t.o.2)⟩
    ·exact E.o.set O (by rw[Kx y0,←HD.o];exact i0.o) (fun j _ u=>Di u)
    ·intro j u x m;unfold pR at m;by_cases q:i=j
     ·rw[if_pos q]at m;exact K0.o x m
     ·rw[if_neg q]at m;exact U.o j u x m
    ·exact o0.o.chA (k8 w3 Q i _) (by have:=HQ.o;omega) (fun j u x m e=>(by cases m))
    ·exact I0.o.setB (fun x m hA e=>by subst e;exact G.o.2 hA) (fun s e=>by cases e;have F:=k0.o;have H:=t.o.2;omega)
   clear c0;go_wp2_with fail;go_roundw
   case rel=>exact s0.o
   case measure=>simp[intOf];omega
  ·have x0: ¬(i:Int)≤6:=by omega
   obtain rfl:i=7:=by omega
   clear M;have r0:=b.o.c 0 (by omega);have r1:=b.o.c 1 (by omega);have r2:=b.o.c 2 (by omega);have r3:=b.o.c 3 (by omega);have r4:=b.o.c 4 (by omega);have r5:=b.o.c 5 (by omega);have r6:=b.o.c 6 (by omega);have z0:=b.o.z 0;have z1:=b.o.z 1;have z2:=b.o.z 2;have z3:=b.o.z 3;have z4:=b.o.z 4;have z5:=b.o.z 5;have z6:=b.o.z 6;unfold kD at r0 r1 r2 r3 r4 r5 r6;have d:c6 (∀j,j<7→ ∃a n q,f j= .slice a n q):=fun j u=>by obtain⟨a,q,e⟩:=g.o.form u;exact⟨a,_,q,e⟩
   obtain⟨a0,n0,p0,e0⟩:=d.o 0 (by omega);obtain⟨a1,n1,p1,e1⟩:=d.o 1 (by omega);obtain⟨a2,n2,p2,e2⟩:=d.o 2 (by omega);obtain⟨a3,n3,p3,e3⟩:=d.o 3 (by omega);obtain⟨a4,n4,p4,e4⟩:=d.o 4 (by omega);obtain⟨a5,n5,Z,e5⟩:=d.o 5 (by omega);obtain⟨a6,n6,Y,e6⟩:=d.o 6 (by omega);have q0:=g.o.c 0 (by omega);have q1:=g.o.c 1 (by omega);have q2:=g.o.c 2 (by omega);have q3:=g.o.c 3 (by omega);have q4:=g.o.c 4 (by omega);have q5:=g.o.c 5 (by omega);have q6:=g.o.c 6 (by omega);rw[e0]at q0;rw[e1]at q1;rw[e2]at q2;rw[e3]at q3;rw[e4]at q4;rw[e5]at q5;rw[e6]at q6;have HE:c6 (f 0= .slice a0 n0 p0∧f 1= .slice a1 n1 p1∧f 2= .slice a2 n2 p2∧f 3= .slice a3 n3 p3∧f 4= .slice a4 n4 p4∧f 5= .slice a5 n5 Z∧f 6= .slice a6 n6 Y):=⟨e0,e1,e2,e3,e4,e5,e6⟩;have t0:c6 (Ch A w (((((((wr.setCell ⟨R,0,none⟩ (.slice a0 n0 p0)).setCell ⟨R,1,none⟩ (.slice a1 n1 p1)).setCell ⟨R,2,none⟩ (.slice a2 n2 p2)).setCell ⟨R,3,none⟩ (.slice a3 n3 p3)).setCell ⟨R,4,none⟩ (.slice a4 n4 p4)).setCell ⟨R,5,none⟩ (.slice a5 n5 Z)).setCell ⟨R,6,none⟩ (.slice a6 n6 Y))):=ZA HC.o (.inr t.o.1) _ _ _ _ _ _ _;have G0:c6 (RT A (((((((wr.setCell ⟨R,0,none⟩ (.slice a0 n0 p0)).setCell ⟨R,1,none⟩ (.slice a1 n1 p1)).setCell ⟨R,2,none⟩ (.slice a2 n2 p2)).setCell ⟨R,3,none⟩ (.slice a3 n3 p3)).setCell ⟨R,4,none⟩ (.slice a4 n4 p4)).setCell ⟨R,5,none⟩ (.slice a5 n5 Z)).setCell ⟨R,6,none⟩ (.slice a6 n6 Y)) (.pointer (some ⟨sp,0,none⟩)) dv k P S'):=HT.o.seven G.o.1 (by have F:=k0.o;have H:=t.o.1;omega) _ _ _ _ _ _ _;have L0:c6 (∀j,j<7→Cv (((((((wr.setCell ⟨R,0,none⟩ (.slice a0 n0 p0)).setCell ⟨R,1,none⟩ (.slice a1 n1 p1)).setCell ⟨R,2,none⟩ (.slice a2 n2 p2)).setCell ⟨R,3,none⟩ (.slice a3 n3 p3)).setCell ⟨R,4,none⟩ (.slice a4 n4 p4)).setCell ⟨R,5,none⟩ (.slice a5 n5 Z)).setCell ⟨R,6,none⟩ (.slice a6 n6 Y)) (f j) (gP P S 7 j)):=fun j u=>(g.o.cv j u).seven b.o _ _ _ _ _ _ _;clear e0 e1 e2 e3 e4 e5 e6;go_wp2_with fail
   (try simp only[Exit.inBlock,Exit.then])
   refine bodyPost_ret (v:= .agg #[.slice a0 n0 p0,.slice a1 n1 p1,.slice a2 n2 p2,.slice a3 n3 p3,.slice a4 n4 p4,.slice a5 n5 Z,.slice a6 n6 Y]) (by rw[jM rfl];go_simp) rfl ?_;obtain⟨e0,e1,e2,e3,e4,e5,e6⟩:=HE.o;exact⟨f,S',by rw[e0,e1,e2,e3,e4,e5,e6],d.o,U.o,L0.o,G0.o,l.o,t0.o⟩
end
end
end Go.Proofs.YtfhoilcbhmeofaaGreat
