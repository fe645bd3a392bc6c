/- A root as bytes and back: bytes, areBlocks, takeRoot; write. -/
import Derived.Test.YtfhoilcbhmeofaaGreatB09
import Derived.Laws.ResultCell
set_option maxRecDepth 100000
set_option maxHeartbeats 16000000
namespace Go.Proofs.YtfhoilcbhmeofaaGreat
open Go.RowKit
section
/-! The mathematics. -/
def B3(Ls:List (List Cl))(i:Nat):List Cl:=Ls.getD i []
def dH(p:Nat→Bool):Nat→Nat→Option Nat
 |_,0=>none
 |i,n+1=>if p i=true then some i else dH p (i+1) n
theorem NH{p:Nat→Bool}{i:Nat}{o:Option Nat}(hi:i<6)(h:o=dH p i (6-i))(hp:p i=true):o=some i:=by
 rw[h,show 6-i=(6-(i+1))+1 by omega,dH,if_pos hp]
theorem VG{p:Nat→Bool}{i:Nat}{o:Option Nat}(hi:i<6)(h:o=dH p i (6-i))(hp:p i=false):o=dH p (i+1) (6-(i+1)):=by
 rw[h,show 6-i=(6-(i+1))+1 by omega,dH,if_neg (by simp[hp])]
theorem eS{p:Nat→Bool}{a:Nat}: ∀(n i:Nat),dH p i n=some a→i≤a∧a<i+n∧p a=true:=by
 intro n
 induction n with
 |zero=>intro i h;simp[dH]at h
 |succ n b=>
  intro i h;unfold dH at h
  split at h
  ·rename_i c;cases h;exact⟨Nat.le_refl _,by omega,c⟩
  ·obtain⟨f,e,d⟩:=b (i+1) h;exact⟨by omega,by omega,d⟩
theorem BG{p:Nat→Bool}: ∀(n i:Nat),dH p i n=none→ ∀a,i≤a→a<i+n→p a=false:=by
 intro n
 induction n with
 |zero=>intro i h a f d;omega
 |succ n b=>
  intro i h a f d;unfold dH at h
  split at h
  ·cases h
  ·rename_i c
   by_cases e:a=i
   ·subst e;simpa using c
   ·exact b (i+1) h a (by omega) (by omega)
def lO(Ls:List (List Cl))(k:Nat):Option Nat:=dH (fun i=>I1 (B3 Ls i) k) 0 6
def eR(Ls:List (List Cl)):Option Nat:=dH (fun i=>decide ((B3 Ls i).length<16)) 0 6
def dC(Ls:List (List Cl))(i k:Nat):Cl:=(B3 Ls i).getD (I0 (B3 Ls i) k) j9
def G7(Ls:List (List Cl))(k:Nat)(m:Int):Vl:=match lO Ls k with
 |none=>K0
 |some i=>aL (dC Ls i k) m
theorem OE{l:List Cl}{i k:Nat}(h:fT l i k=true): ∃hi:i<l.length,l[i].k=k:=by
 unfold fT at h
 split at h
 ·cases h
 ·rename_i c a
  obtain⟨hi,e⟩:=List.getElem?_eq_some_iff.1 a;exact⟨hi,by rw[e];simpa using h⟩
theorem mZ{l:List Cl}{k:Nat}(h:I1 l k=true): ∃hi:I0 l k<l.length,l[I0 l k].k=k:=by
 simp only[I1,Bool.and_eq_true]at h;obtain⟨hi,e⟩:=OE h.2;have a:I0 l k=x8 l k:=if_pos h.1;exact⟨by rw[a];exact hi,by simp only[a];exact e⟩
/-! A shelf in memory. -/
theorem Cv.set{w:d9}{v:Value}{l:List Cl}(h:Cv w v l){p:Addr}{u:Value}(hp:w.cell? p=some u)(hu: ∀c:Cl,u∉W6 c)(u':Value):Cv (w.setCell p u') v l:=by
 obtain⟨x,f,e,r,q,o,n⟩:=h;refine⟨x,f,e,r,q,o,fun i k=>?_⟩;obtain⟨b,d,t,s⟩:=n i k;refine⟨b,d,t,fun j g=>?_⟩;have a:=s j g;have m:(W6 l[i])[j]?=some ((W6 l[i])[j]'(by rw[bE];exact g)):=List.getElem?_eq_getElem _;rw[m]at a⊢;rw[World.cell?_setCell_other _ _ _ _ (by rintro rfl;rw[hp]at a;cases a;exact hu l[i] (List.getElem_mem _))];exact a
theorem Cv.ch{D:n9}{w w':d9}{v:Value}{l:List Cl}(h:Cv w v l)(hc:Ch D w w')(hd: ∀x,v.ownBlock=some x→ ¬D x):Cv w' v l:=by
 obtain⟨s,c,e,q,p,o,n⟩:=h;refine⟨s,c,e,q,p,o,fun i k=>?_⟩;obtain⟨b,a,g,r⟩:=n i k;refine⟨b,a,g,fun j d=>?_⟩;have f:=r j d;have m:(W6 l[i])[j]?=some ((W6 l[i])[j]'(by rw[bE];exact d)):=List.getElem?_eq_getElem _;rw[m]at f⊢;exact hc.cell f (hd b (by rw[e,g];rfl))
theorem bK{ao:Option Addr}{n cap:Nat}(c:Cl):Value.slice ao n cap∉W6 c:=by
 simp[W6]
theorem R7{B N:Nat}{w w2:d9}(h:Below B w w2)(hN:B≤N)(a b c d e f:Value):Below B w ((((((w2.setCell ⟨N,0,none⟩ a).setCell ⟨N,1,none⟩ b).setCell ⟨N,2,none⟩ c).setCell ⟨N,3,none⟩ d).setCell ⟨N,4,none⟩ e).setCell ⟨N,5,none⟩ f):=
 (((((h.setCell hN a).setCell hN b).setCell hN c).setCell hN d).setCell hN e).setCell hN f
structure SH(w:d9)(Q:Nat)(f:Nat→Value)(Ls:List (List Cl)):Prop where
 len:Ls.length=6
 c: ∀i,i<6→w.cell? ⟨Q,i,none⟩=some (f i)
 z: ∀j,w.frozen? ⟨Q,j,none⟩=false
 cv: ∀i,i<6→Cv w (f i) (B3 Ls i)
theorem SH.lt{w:d9}{Q:Nat}{f:Nat→Value}{Ls:List (List Cl)}(h:SH w Q f Ls):Q<w.heap.size:=c8 (h.c 0 (by omega))
theorem SH.below{w w':d9}{Q:Nat}{f:Nat→Value}{Ls:List (List Cl)}(h:SH w Q f Ls)(hb:Below w.heap.size w w'):SH w' Q f Ls:=
 ⟨h.len,fun i hi=>by rw[hb.cell (p:=⟨Q,i,none⟩) h.lt];exact h.c i hi,fun j=>by rw[hb.frozen (p:=⟨Q,j,none⟩) h.lt];exact h.z j,fun i hi=>(h.cv i hi).below hb⟩
theorem SH.form{w:d9}{Q:Nat}{f:Nat→Value}{Ls:List (List Cl)}(h:SH w Q f Ls){i:Nat}(hi:i<6): ∃ao cap,f i= .slice ao (B3 Ls i).length cap:=(h.cv i hi).form
theorem mC{Ls:List (List Cl)}{i j:Nat}{l:List Cl}(hj:j<Ls.length):B3 (Ls.set i l) j=if i=j then l else B3 Ls j:=by
 unfold B3;rw[List.getD_eq_getElem?_getD,List.getElem?_set,List.getD_eq_getElem?_getD]
 split
 ·rename_i e;subst e;rw[if_pos hj];rfl
 ·rfl
def pR(f:Nat→Value)(i:Nat)(v:Value):Nat→Value:=fun j=>if i=j then v else f j
theorem SH.set{w:d9}{Q:Nat}{f:Nat→Value}{Ls:List (List Cl)}(h:SH w Q f Ls){i:Nat}(hi:i<6){v:Value}{l:List Cl}(hv:Cv w v l):SH (w.setCell ⟨Q,i,none⟩ v) Q (pR f i v) (Ls.set i l):=by
 obtain⟨g,d,e⟩:=h.form hi;have b: ∀c:Cl,f i∉W6 c:=fun c=>by rw[e];exact bK c
 refine⟨by rw[List.length_set];exact h.len,fun j a=>?_,fun j=>by simpa[go_sem]using h.z j,fun j a=>?_⟩
 ·unfold pR;by_cases q:i=j
  ·subst q;rw[if_pos rfl];simp[go_sem,h.c i hi]
  ·rw[if_neg q,World.cell?_setCell_other _ _ _ _ (by rintro⟨⟩;exact q rfl)];exact h.c j a
 ·rw[mC (by rw[h.len];exact a)];unfold pR;by_cases q:i=j
  ·rw[if_pos q,if_pos q];exact hv.set (h.c i hi) b v
  ·rw[if_neg q,if_neg q];exact(h.cv j a).set (h.c i hi) b v
section

variable{w:d9}{Q:Nat}{f:Nat→Value}{Ls:List (List Cl)}

theorem RE(h:SH w Q f Ls):Calls Tryz.prog 136 #[.pointer (some ⟨Q,0,none⟩)] w fun e w'=>e= .returned (.tuple #[.int .i64 ((eR Ls).getD 0:Nat),.bool (eR Ls).isSome])∧w'=w:=by
 have H:=b9 h;obtain⟨o,j⟩:=c7 (eR Ls);rw[←j];have HS:=b9 j;clear h j;go_in;go_wp2_with fail;go_loop [5] (fun iv=> ∃i:Nat,iv= .int .i64 i∧i≤6∧o=dH (fun i=>decide ((B3 Ls i).length<16)) i (6-i)) (fun iv=>6-(intOf iv).toNat)
 case atStart=>exact⟨0,rfl,by omega,HS.o⟩
 case round=>
  obtain⟨i,rfl,q,m⟩:=hrel;have HI:=b9 m;clear m;by_cases a:i<6
  ·have d:(i:Int)<6:=by omega
   obtain⟨r,p,e⟩:=H.o.form a;have l:=H.o.c i a;rw[e]at l;obtain⟨n,b⟩:=c7 ((B3 Ls i).length);rw[←b]at l;by_cases g:n<16
   ·have HO:=b9 (NH a HI.o (by rw[←b];exact decide_eq_true g));have k:(n:Int)<16:=by omega
    clear g b e;go_wp2_with fail;go_ret2;exact⟨by rw[HO.o];rfl,rfl⟩
   ·have HO:=b9 (VG a HI.o (by rw[←b];exact decide_eq_false g));have k: ¬(n:Int)<16:=by omega
    clear g b e;go_wp2_with fail;go_round
    case rel=>exact⟨i+1,by go_num,a,HO.o⟩
    case measure=>simp[intOf];omega
  ·have d: ¬(i:Int)<6:=by omega
   obtain rfl:i=6:=by omega
   have HO:=b9 HI.o;go_wp2_with fail;go_ret2;exact⟨by rw[HO.o];rfl,rfl⟩
theorem pC{fn:Func}{p u x:Tmp}{ty:TypeId}(h:fn.results= #[.tmp u,.cell p ty,.tmp x])(tmps:Array Value)(P:Program)(w:d9):
  (results fn tmps).run P w=
   ((asAddr (tmps.getD p undef)).run P w).andThen fun a w₁=>((loadVar ty a).run P w₁).andThen fun v w₂=> .ok (.tuple #[tmps.getD u undef,v,tmps.getD x undef]) w₂:=by
 simp only[results,h];simp[Sem.run_bind,Result.andThen]
def Ex(Ls:List (List Cl))(k:Nat)(w:d9)(e:Ending)(w':d9):Prop:=
 ∃(i:Nat) (c:Cl) (t:Bool),e= .returned (.tuple #[.int .i64 i,.agg #[.int .u64 c.k,.bool c.p.h,.int .u64 c.p.b,.bool c.c.h,.int .u64 c.c.b,.int .i64 c.n],.bool t])∧((lO Ls k=some i∧i<6∧t=true∧c=dC Ls i k∧c∈B3 Ls i∧c.k=k)∨(lO Ls k=none∧i=0∧t=false∧c=j9))∧Below w.heap.size w w'
theorem sO(h:SH w Q f Ls)(k:Nat):Calls Tryz.prog 135 #[.pointer (some ⟨Q,0,none⟩),.int .u64 k] w (Ex Ls k w):=by
 have H0:c6 (SH (w.alloc (Obj.cells #[.int .u64 j9.k,.bool j9.p.h,.int .u64 j9.p.b,.bool j9.c.h,.int .u64 j9.c.b,.int .i64 j9.n] 132)) Q f Ls):=h.below (a8 _ _);have u:c6 _:=B0 w j9;have C:c6 _:=a8 w (Obj.cells #[.int .u64 j9.k,.bool j9.p.h,.int .u64 j9.p.b,.bool j9.c.h,.int .u64 j9.c.b,.int .i64 j9.n] 132);have HQ:=b9 h.lt;have HW:=b9 h;obtain⟨o,O⟩:=c7 (lO Ls k);have HS:=b9 O;have H:=b9 O.symm;clear h O;go_in;go_upto_region 1 with fail
 obtain⟨N,T⟩:=c7 w.heap.size;rw[←T]at u HQ⊢;have HN:=b9 T;clear T;change Code.wp _ _ _ _ (w.alloc (Obj.cells #[.int .u64 j9.k,.bool j9.p.h,.int .u64 j9.p.b,.bool j9.c.h,.int .u64 j9.c.b,.int .i64 j9.n] 132));generalize w.alloc (Obj.cells #[.int .u64 j9.k,.bool j9.p.h,.int .u64 j9.p.b,.bool j9.c.h,.int .u64 j9.c.b,.int .i64 j9.n] 132)=w0 at H0 u C⊢;go_wp2_with fail;go_loopw [10] (fun iv wr=> ∃i:Nat,iv= .int .i64 i∧i≤6∧o=dH (fun i=>I1 (B3 Ls i) k) i (6-i)∧Below w0.heap.size w0 wr) (fun iv _=>6-(intOf iv).toNat)
 case atStart=>exact⟨0,rfl,by omega,HS.o,Below.refl _ _⟩
 case round=>
  obtain⟨i,rfl,hi,hs,S⟩:=hrel;have HI:=b9 hs;have HB:=b9 S;have A:=b9 (H0.o.below S);clear hs S;by_cases g:i<6
  ·have J:(i:Int)<6:=by omega
   obtain⟨U,s,e⟩:=A.o.form g;have D:=A.o.c i g;rw[e]at D;have Z:=b9 e;have x:c6 (Cv wr (.slice U (B3 Ls i).length s) (B3 Ls i)):=by have:=A.o.cv i g;rw[e]at this;exact this
   obtain⟨l,R⟩:=c7 (B3 Ls i);rw[←R]at D x;have HL:=b9 R;obtain⟨n,P⟩:=c7 l.length;rw[←P]at D x;have I:=b9 P;clear e R P;obtain⟨t,ht⟩:=c7 (I1 l k);obtain⟨a,ha⟩:=c7 (I0 l k);have HT:=b9 ht;have HA:=b9 ha;clear ht ha;go_wp2_with fail;refine(fL x.o k).mono ?_;rw[←HT.o,←HA.o];rintro e m ⟨rfl,r⟩;have B:=b9 (a9 HB.o r);have y:=b9 (x.o.below r);have m1:m.cell? ⟨Q,i,none⟩=some (.slice U n s):=by rw[r.cell (p:=⟨Q,i,none⟩) (c8 D)];exact D
   clear r D
   cases t
   ·have HO:=b9 (VG g HI.o (by rw[←HL.o];exact HT.o.symm));clear m1;go_wp2_with fail;go_roundw
    case rel=>exact⟨i+1,by go_num,g,HO.o,B.o⟩
    case measure=>simp[intOf];omega
   ·have HO:=b9 (NH g HI.o (by rw[←HL.o];exact HT.o.symm));obtain⟨j,G⟩:=mZ HT.o.symm;obtain⟨c,E⟩:=c7 (l[I0 l k]);have HC:c6 (c=dC Ls i k∧c∈B3 Ls i∧c.k=k):=⟨by unfold dC;rw[←HL.o,E];simp[j],by rw[←HL.o,E];exact List.getElem_mem _,by rw[E];exact G⟩;have X:a<n:=by have:=HA.o;have:=I.o;omega
    have c0:(a:Int)<(n:Int):=by omega
    have d0:=decide_eq_true X
    obtain⟨b,d,cp,e,_,_,_,F⟩: ∃b d cp,Value.slice U n s= .slice (some ⟨b,d,none⟩) l.length cp∧0<l.length∧l.length≤cp∧cp≤maxLen∧ ∀i,(hi:i<l.length)→CA m b (d+i*6) l[i]:=by
     rcases B2 y.o with ⟨M,_⟩|h
     ·rw[M]at j;simp at j
     ·exact h
    simp only[Value.slice.injEq]at e;have e1:=e.1;subst e1;have a0:c6 (CA m b (d+a*6) c):=by have:=F (I0 l k) j;rw[←E,←HA.o]at this;exact this
    have p0:(n:Int)≤9223372036854775807:=by have L:=y.o.len_le;have h2:=I.o;unfold maxLen at L;omega
    have z:=b9 (u.o.keep B.o)
    have q0:c6 (b≠N):=by
     have L:=HW.o.cv i g;rw[Z.o]at L;rcases B2 L with ⟨M,_⟩|⟨b',off',cp',e',W,_,_,K⟩
     ·rw[←HL.o]at M;rw[M]at j;simp at j
     ·simp only[Value.slice.injEq,Option.some.injEq,Addr.mk.injEq]at e';have h2:=(K 0 W).lt;have h3:=HN.o;show _≠_;omega
    obtain⟨y0,y1,y2,y3,y4,y5⟩:=a0.o;have n0: ∀q,(m.drewN q).cell? ⟨b,d+a*6,none⟩=some (.int .u64 c.k):=fun _=>y0;have l0: ∀q,(m.drewN q).cell? ⟨b,d+a*6+1,none⟩=some (.bool c.p.h):=fun _=>y1;have k0: ∀q,(m.drewN q).cell? ⟨b,d+a*6+2,none⟩=some (.int .u64 c.p.b):=fun _=>y2;have j0: ∀q,(m.drewN q).cell? ⟨b,d+a*6+3,none⟩=some (.bool c.c.h):=fun _=>y3;have i0: ∀q,(m.drewN q).cell? ⟨b,d+a*6+4,none⟩=some (.int .u64 c.c.b):=fun _=>y4;have g0: ∀q,(m.drewN q).cell? ⟨b,d+a*6+5,none⟩=some (.int .i64 c.n):=fun _=>y5;have o0: ∀q,(m.drewN q).cell? ⟨Q,i,none⟩=some (.slice (some ⟨b,d,none⟩) n s):=fun _=>m1;obtain⟨z0,z1,z2,z3,z4,z5,zz⟩:=z.o;have f0:=zz 0;have f1:=zz 1;have f2:=zz 2;have f3:=zz 3;have f4:=zz 4;have f5:=zz 5;have b0:=b9 (a9 C.o B.o);have Y:=b9 g;clear F j G E e zz g;go_wp2_with fail;go_region_with (fail);all_goals go_wp2_with fail
    all_goals (try simp only[Exit.inBlock,Exit.then])
    all_goals refine bodyPost_ret (v:= .tuple #[.int .i64 i,.agg #[.int .u64 c.k,.bool c.p.h,.int .u64 c.p.b,.bool c.c.h,.int .u64 c.c.b,.int .i64 c.n],.bool true]) (by rw[pC rfl];go_simp) rfl ?_
    all_goals exact⟨i,c,true,rfl,.inl ⟨H.o.trans HO.o,Y.o,rfl,HC.o⟩,(R7 b0.o (by rw[HN.o];exact Nat.le_refl _) _ _ _ _ _ _).drew⟩
  ·have J: ¬(i:Int)<6:=by omega
   obtain rfl:i=6:=by omega
   have HO:=b9 HI.o;have z:=b9 (u.o.keep HB.o);obtain⟨z0,z1,z2,z3,z4,z5,zz⟩:=z.o;have y0:=zz 0;have y1:=zz 1;have y2:=zz 2;have y3:=zz 3;have y4:=zz 4;have y5:=zz 5;clear zz;go_wp2_with fail;refine bodyPost_ret (v:= .tuple #[.int .i64 0,.agg #[.int .u64 0,.bool false,.int .u64 0,.bool false,.int .u64 0,.int .i64 0],.bool false]) (by rw[pC rfl];go_simp) rfl ?_;exact⟨0,j9,false,rfl,.inr ⟨H.o.trans HO.o,rfl,rfl,rfl⟩,R7 (a9 C.o HB.o) (by rw[HN.o];exact Nat.le_refl _) _ _ _ _ _ _⟩
theorem tR(h:SH w Q f Ls)(k:Nat)(m:Int):Calls Tryz.prog 69 #[.pointer (some ⟨Q,0,none⟩),.int .u64 k,.int .i64 m] w fun e w'=>e= .returned (.agg #[.bool (G7 Ls k m).h,.int .u64 (G7 Ls k m).b])∧Below w.heap.size w w':=by
 have L:c6 (SH (w.alloc (Obj.cells #[.bool false,.int .u64 0] 55)) Q f Ls):=h.below (a8 _ _);have D:c6 _:=a8 w (Obj.cells #[.bool false,.int .u64 0] 55);have T:(w.alloc (Obj.cells #[.bool false,.int .u64 0] 55)).cell? ⟨w.heap.size,0,none⟩=some (.bool false):=by simp[go_sem]
 have S:(w.alloc (Obj.cells #[.bool false,.int .u64 0] 55)).cell? ⟨w.heap.size,1,none⟩=some (.int .u64 0):=by simp[go_sem]
 have zz: ∀j,(w.alloc (Obj.cells #[.bool false,.int .u64 0] 55)).frozen? ⟨w.heap.size,j,none⟩=false:=by intro j;simp[go_sem]
 have u:c6 _:=T;have B:c6 _:=S;have A:c6 _:=zz;clear h T S zz;go_in;go_upto_region 1 with fail
 generalize K:w.heap.size=N at u B A⊢;have HN:=b9 K;rw[K]at D;clear K;generalize w.alloc (Obj.cells #[.bool false,.int .u64 0] 55)=w0 at L D u B A⊢;go_wp2_with fail;refine(sO L.o k).mono ?_;rintro e a ⟨i,c,t,rfl,z,s⟩;have HF:=b9 z;have x:=b9 (c8 u.o);have E:a.cell? ⟨N,0,none⟩=some (.bool false):=by rw[s.cell (p:=⟨N,0,none⟩) x.o];exact u.o
 have l:a.cell? ⟨N,1,none⟩=some (.int .u64 0):=by rw[s.cell (p:=⟨N,1,none⟩) x.o];exact B.o
 have U: ∀j,a.frozen? ⟨N,j,none⟩=false:=fun j=>by rw[s.frozen (p:=⟨N,j,none⟩) x.o];exact A.o j
 have I:=b9 (D.o.trans (s.mono (Nat.le_of_lt x.o)));have q:=c8 E;clear z s L D u B A;go_upto_region 2 with fail
 have G:c6 _:=B0 a c;have H:c6 (Below N w (a.alloc (Obj.cells #[.int .u64 c.k,.bool c.p.h,.int .u64 c.p.b,.bool c.c.h,.int .u64 c.c.b,.int .i64 c.n] 132))):=I.o.trans ((a8 _ _).mono (Nat.le_of_lt q));have C:c6 ((a.alloc (Obj.cells #[.int .u64 c.k,.bool c.p.h,.int .u64 c.p.b,.bool c.c.h,.int .u64 c.c.b,.int .i64 c.n] 132)).cell? ⟨N,0,none⟩=some (.bool false)):=by show _=_;rw[(a8 a _).cell (p:=⟨N,0,none⟩) q];exact E
 have F:c6 ((a.alloc (Obj.cells #[.int .u64 c.k,.bool c.p.h,.int .u64 c.p.b,.bool c.c.h,.int .u64 c.c.b,.int .i64 c.n] 132)).cell? ⟨N,1,none⟩=some (.int .u64 0)):=by show _=_;rw[(a8 a _).cell (p:=⟨N,1,none⟩) q];exact l
 have y:c6 (∀j,(a.alloc (Obj.cells #[.int .u64 c.k,.bool c.p.h,.int .u64 c.p.b,.bool c.c.h,.int .u64 c.c.b,.int .i64 c.n] 132)).frozen? ⟨N,j,none⟩=false):=fun j=>by rw[(a8 a _).frozen (p:=⟨N,j,none⟩) q];exact U j
 have g:=b9 (c8 C.o);clear E l U I x q;generalize X:a.heap.size=M at G⊢;clear X;generalize a.alloc (Obj.cells #[.int .u64 c.k,.bool c.p.h,.int .u64 c.p.b,.bool c.c.h,.int .u64 c.c.b,.int .i64 c.n] 132)=w2 at G H C F y g⊢;rcases HF.o with ⟨l,h2,rfl,W,Z,Y⟩|⟨l,rfl,rfl,rfl⟩
 ·have HR:c6 (G7 Ls k m=aL c m):=by show _=_;unfold G7;rw[l,W]
  obtain⟨c0,c1,c2,c3,c4,c5,zz⟩:=G.o;clear l h2 W Z Y zz;go_wp2_with fail;refine(yB c m _).mono ?_;rintro e J ⟨rfl,d⟩;have E:J.cell? ⟨N,0,none⟩=some (.bool false):=by rw[d.cell (p:=⟨N,0,none⟩) g.o];exact C.o
  have l:J.cell? ⟨N,1,none⟩=some (.int .u64 0):=by rw[d.cell (p:=⟨N,1,none⟩) g.o];exact F.o
  have P:J.frozen? ⟨N,0,none⟩=false:=by rw[d.frozen (p:=⟨N,0,none⟩) g.o];exact y.o 0
  have O:J.frozen? ⟨N,1,none⟩=false:=by rw[d.frozen (p:=⟨N,1,none⟩) g.o];exact y.o 1
  have R:=b9 (H.o.trans (d.mono (Nat.le_of_lt g.o)));generalize aL c m=r at HR⊢;clear d c0 c1 c2 c3 c4 c5;go_wp2_with fail;refine bodyPost_ret (v:= .agg #[.bool r.h,.int .u64 r.b]) (by simp[results,Tryz.results69,go_sem,E,l]) rfl ?_;rw[HR.o,HN.o];exact⟨rfl,(R.o.setCell (Nat.le_refl _) _).setCell (Nat.le_refl _) _⟩
 ·have HR:c6 (G7 Ls k m=K0):=by show _=_;unfold G7;rw[l]
  have E:=C.o;have l:=F.o;have P:=y.o 0;have O:=y.o 1;go_wp2_with fail;refine bodyPost_ret (v:= .agg #[.bool false,.int .u64 0]) (by simp[results,Tryz.results69,go_sem,E,l]) rfl ?_;rw[HR.o,HN.o];exact⟨rfl,(H.o.setCell (Nat.le_refl _) _).setCell (Nat.le_refl _) _⟩
end
end
section
section

variable{T:TypeId}{D:n9}{w w':d9}{v bv:Value}{sb gp cap:Nat}{S:Dk}{b:f7}

def Rd(T:TypeId)(D:n9)(w:d9)(v:Value)(S:Dk)(i:Int)(e:Ending)(w':d9):Prop:=
 ∃r,e= .returned (.tuple #[r,.int .i64 (I2 S i)])∧w'.ownsRow w.heap.size 5 1 r (M6 S i).length (cb (M6 S i))∧I9 T D w' v (R8 S i)∧Ch D w w'
theorem WE{i:Int}(h:I9 T D w v S)(hr:I2 S i≠0):Rd T D w v S i (.returned (.tuple #[.slice none 0 0,.int .i64 (I2 S i)])) w:=by
 refine⟨_,rfl,?_,?_,Ch.refl _ _⟩
 ·unfold M6;rw[if_neg hr];exact World.ownsRow_nil _ _ _ _
 ·unfold R8;rw[if_neg hr];exact h
theorem Fc{k:Nat}{S2:Dk}{w1 w2:d9}{r:Value}(hr:I2 S k=0)(hS:S2={S with rd:=S.rd+1})(h:I9 T D w1 v S2)(hC:Ch D w w1)(ho:w2.ownsRow w1.heap.size 5 1 r (bk S.bl k).length (cb (bk S.bl k)))(hB:f8 w1 w2):
  Rd T D w v S k (.returned (.tuple #[r,.int .i64 0])) w2:=by
 have c:M6 S k=bk S.bl k:=by unfold M6;rw[if_pos hr];simp
 have b:R8 S k=S2:=by unfold R8;rw[if_pos hr,hS]
 refine⟨_,by rw[hr],?_,?_,?_⟩
 ·rw[c];exact bU ho hC.size
 ·rw[b];exact h.below hB
 ·exact hC.trans (Ch.of_below (D:=D) hB) (fun _ a=> .inl a)
theorem uX(h:I9 T D w v S)(i:Int)(hrd:S.rd<9223372036854775807):Calls Tryz.prog 87 #[v,.int .i64 i] w fun e w'=>Rd T D w v S i e w':=by
 have HW:=b9 h;obtain⟨f,g,m,rfl,h,j⟩:=h;have HM:=b9 h;have HK:c6 S.ok:=j;clear h j;by_cases d:I2 S i=0
 ·obtain⟨y,k,rfl,x⟩:=kB d;have HR:=b9 d;clear d y;have K:=HM.o.c3;have f3:=HM.o.soft 3;have L:=HM.o.c0;have n:c6 (DM T D (w.setCell ⟨f,3,none⟩ (.int .i64 ((S.rd:Int)+1))) f g m {S with rd:=S.rd+1}):=HM.o.put 3 _ rfl rfl;obtain⟨u,z,l,_⟩:=n.o.row.at (i:=k) x;have c:c6 (Bv (w.setCell ⟨f,3,none⟩ (.int .i64 ((S.rd:Int)+1))) u (bk S.bl k)):=l.bv (HK.o.byt _ (fQ x));have HL:c6 ((bk S.bl k).length≤140737488355328):=Nat.le_trans (HK.o.len _ (fQ x)) (by omega)
  have G:w.cell? ⟨g,k,none⟩=some u:=by
   rw[←z];exact(World.cell?_of_block (w:=w) (a:=⟨g,k,none⟩) (l8 3 _ HM.o.a1)).symm
  obtain⟨p,t⟩:=c7 (bk S.bl k);rw[←t]at c HL;have HP:=b9 t;obtain⟨M,cp,rfl,_,_⟩:=C9 c.o;have J:IntKind.i64.wrap ((S.rd:Int)+1)=(S.rd:Int)+1:=dK (by omega) (by omega);have H:=HK.o.n64;have B:=HM.o.a1;have A: ¬f=g:=fun e=>HM.o.a1 e.symm;clear l t z hrd;go_in;go_wp2_with fail;refine(O3 HM.o HK.o k).mono ?_;rintro e C ⟨rfl,b⟩;have b:=b.symm;subst b;rw[HR.o];go_wp2_with fail;refine(fP c.o HL.o).mono ?_;rintro e I ⟨r,rfl,E,F⟩;go_wp2_with fail;go_ret2;exact Fc HR.o rfl ⟨f,g,m,rfl,n.o,XA HK.o _⟩ (I4 _ _ HM.o.d1) (by rw[←HP.o];exact E) F
 ·have HR:=b9 d;have HA:=b9 (WE HW.o d);obtain⟨q,s⟩:=c7 (I2 S i);rw[←s]at HA d;have HQ:=b9 s;clear s;go_in;go_wp2_with fail;refine(O3 HM.o HK.o i).mono ?_;rintro e C ⟨rfl,b⟩;have b:=b.symm;subst b;rw[←HQ.o];go_wp2_with fail;go_ret2;exact HA.o
def Wt(T:TypeId)(D:n9)(w:d9)(v:Value)(S:Dk)(i:Int)(b:f7)(e:Ending)(w':d9):Prop:=
 e= .returned (.int .i64 (l7 S i b))∧(∃D':n9,I9 T D' w' v (i7 S i b)∧ ∀x,D' x→D x∨w.heap.size≤x)∧Ch D w w'
theorem pX{i c:Int}(h:I9 T D w v S)(hI:l7 S i b=c)(hS:i7 S i b=S):Wt T D w v S i b (.returned (.int .i64 c)) w:=by
 refine⟨by rw[hI],⟨D,by rw[hS];exact h,fun x a=> .inl a⟩,Ch.refl _ _⟩
structure Wq(w2:d9)(sb gp k:Nat)(sv:Value)(wx:d9):Prop where
 ch:Ch (fun x=>x=gp) w2 wx
 c0:wx.cell? ⟨sb,0,none⟩=some sv
 at': ∃u,wx.cell? ⟨gp,k,none⟩=some u
 soft:wx.frozen? ⟨gp,k,none⟩=false
theorem Wq.go{w2:d9}{k:Nat}{sv:Value}{wx wy:d9}(h:Wq w2 sb gp k sv wx)(hb:f8 wx wy):Wq w2 sb gp k sv wy:=by
 obtain⟨u,a⟩:=h.at';exact⟨h.ch.trans (Ch.of_below (D:=fun x=>x=gp) hb) (fun _ b=> .inl b),by rw[hb.cell (p:=⟨sb,0,none⟩) (c8 h.c0)];exact h.c0,⟨u,by rw[hb.cell (p:=⟨gp,k,none⟩) (c8 a)];exact a⟩,by rw[hb.frozen (p:=⟨gp,k,none⟩) (c8 a)];exact h.soft⟩
theorem Wq.set{w2:d9}{k:Nat}{sv:Value}{wx:d9}(h:Wq w2 sb gp k sv wx)(hne:sb≠gp)(u:Value):Wq w2 sb gp k sv (wx.setCell ⟨gp,k,none⟩ u):=by
 obtain⟨u0,c⟩:=h.at';refine⟨h.ch.trans (Ch.of_grown (D:=fun x=>x=gp) (A7 wx gp k u) (fun x b=>by cases b;rfl)) (fun _ b=> .inl b),?_,⟨u,?_⟩,?_⟩
 ·rw[World.cell?_of_block (w:=wx) (a:=⟨sb,0,none⟩) (l8 k u hne)];exact h.c0
 ·simp[go_sem,c]
 ·simp[go_sem,h.soft]
theorem DM.setRow{w2 wC:d9}{base k:Nat}{u:Value}(h:DM T D w2 sb gp cap S)(hB:Ch (fun _=>False) w2 wC)(hk:k<S.bl.length)(ho:wC.ownsRow base 5 1 u b.length (cb b))(hb:w2.heap.size≤base):
  DM T (fun x=>D x∨u.ownBlock=some x) (wC.setCell ⟨gp,k,none⟩ u) sb gp cap {S with bl:=S.bl.set k b}:=by
 have f:f8 w2 wC:=hB.to_below (Nat.le_refl _) (fun x a=>a.elim);have d:=h.below f;have c: ∀x,u.ownBlock=some x→w2.heap.size≤x:=fun x a=>Nat.le_trans hb (ho.lt x a).1;refine⟨?_,?_,h.a1,.inl h.d1,.inl h.d2,?_⟩
 ·rw[l8 k u (fun e=>h.a1 e.symm),d.head];simp[hd]
 ·exact(d.row.mono (fun x a=>⟨.inl a.1,a.2⟩)).set hk (bU ho (Nat.zero_le _)) (fun x a=>⟨.inr a,fun e=>by have i:=c x a;have g:=h.dl sb h.d1;omega⟩)
 ·intro x a
  have:x<wC.heap.size:=by
   rcases a with a|a
   ·exact d.dl x a
   ·exact(ho.lt x a).2
  simpa[go_sem]using this
theorem ZG{x y:Int}{i:Nat}(h:Bv w bv b)(hc:w.cell? ⟨sb,i,none⟩=some (.int .i64 x)):Bv (w.setCell ⟨sb,i,none⟩ (.int .i64 y)) bv b:=by
 obtain⟨⟨q,f,rfl,o,n,m,l⟩,k⟩:=h;refine⟨⟨q,f,rfl,o,n,m,fun j g=>?_⟩,k⟩;obtain⟨b',a,e,c⟩:=l j g;refine⟨b',a,e,?_⟩
 have d: ¬((⟨sb,i,none⟩:Addr)=⟨b',a+j,none⟩):=by
  intro p;rw[←p,hc]at c;simp at c
 simp[go_sem,c,d]
theorem IQ(h:DM T D w sb gp cap S)(hok:S.ok){k:Nat}(hr:I2 S k=0)(hk:k<S.bl.length)(hb:Bv w bv b)(hbl:b.length≤1024)(hl:S.left= -1)(hwr:S.wr<9223372036854775807):
  Calls Tryz.prog 150 #[.pointer (some ⟨sb,0,none⟩),.int .i64 k,bv] w fun e w'=>Wt T D w (.pointer (some ⟨sb,0,none⟩)) S k b e w':=by
 have HM:=b9 h;have HK:c6 S.ok:=hok;have HR:=b9 hr;have s:=b9 hbl;have C:=b9 hk;have HI:c6 (l7 S k b=0):=by show _=_;unfold l7;rw[if_neg (fun e=>e hr),if_neg (by omega),if_neg (by omega)]
 have HS:c6 (i7 S k b=M7 S k b):=by show _=_;unfold i7;rw[if_neg (fun e=>e hr),if_neg (by omega),if_neg (by omega)];simp
 have HD:c6 (bB S.left= -1):=by show _=_;unfold bB;rw[if_pos hl]
 have F:=b9 hb.2;obtain⟨a,c⟩:=c7 w
 have d:c6 (DM T D a sb gp cap {S with left:=bB S.left}):=by
  show DM _ _ _ _ _ _ _;rw[c,HD.o,←hl];exact h
 have r:c6 (Ch D w a):=by show Ch _ _ _;rw[c];exact Ch.refl _ _
 obtain⟨bo,bc,rfl,_,_⟩:=C9 hb
 have G:c6 (Bv a (.slice bo b.length bc) b):=by
  show Bv _ _ _;rw[c];exact hb
 obtain⟨u0,t,_⟩:=d.o.row.at (i:=k) hk;have f0:=d.o.row.soft k;have H:=d.o.c0;have N:Wq a sb gp k (.slice (some ⟨gp,0,none⟩) S.bl.length cap) a.drew:=Wq.go (wx:=a) ⟨Ch.refl _ _,H,⟨u0,t⟩,f0⟩ (d8 _ _);have z:=b9 c;have J:=h.c2;have f2:=h.soft 2;have O:=hok.n64;have L:(b.length:Int)≤1024:=by omega
 have M:decide ((1024:Int)<(b.length:Int))=false:=decide_eq_false (by omega);have K:(k:Int)<(S.bl.length:Int):=by omega
 have Q:IntKind.i64.wrap ((S.wr:Int)+1)=(S.wr:Int)+1:=dK (by omega) (by omega);rw[hl]at J;have B:c6 (sb≠gp):=fun e=>h.a1 e.symm;have R: ∀wx,Wq a sb gp k (.slice (some ⟨gp,0,none⟩) S.bl.length cap) wx→wx.cell? ⟨sb,0,none⟩=some (.slice (some ⟨gp,0,none⟩) S.bl.length cap):=fun wx h=>h.c0;clear h hok hr hk hb hbl hl hwr c t f0 H;go_in;go_wp2_with fail;refine(O3 HM.o HK.o k).mono ?_;rintro e P ⟨rfl,u⟩;have u:=u.symm;subst u;rw[HR.o];go_wp2_with fail;rw[←z.o]
 go_region_held3 (fun wx=>Wq a sb gp k (.slice (some ⟨gp,0,none⟩) S.bl.length cap) wx) (first|assumption|exact Wq.set (by assumption) B.o _)
  (first
   |(go_at_call 128;refine(fP (v:= .slice bo b.length bc) (l:=b) (G.o.below (d8 _ _)) (Nat.le_trans s.o (by omega))).mono ?_;rintro e wC ⟨u',rfl,g,p⟩;obtain⟨qo,qc,y,_⟩:=K9 g;subst y;have m:Wq a sb gp k (.slice (some ⟨gp,0,none⟩) S.bl.length cap) wC:=Wq.go (by assumption) p;obtain⟨u0,t⟩:=m.at';have f0:=m.soft))
 obtain⟨I,f⟩:=c7 (wC.setCell ⟨gp,k,none⟩ (.slice qo b.length qc));have n:=a9 (d8 a 1) p
 have q:c6 (DM T (fun x=>D x∨(Value.slice qo b.length qc).ownBlock=some x) I sb gp cap {S with bl:=S.bl.set k b,left:=bB S.left}):=by
  show DM _ _ _ _ _ _ _;rw[f];exact d.o.setRow (Ch.of_below n) C.o g (Nat.le_refl _)
 have A:c6 (∀x,(Value.slice qo b.length qc).ownBlock=some x→a.heap.size≤x):=fun x j=>(g.lt x j).1
 have E:c6 (Ch D w I):=by
  show Ch _ _ _;rw[f];exact(r.o.self (Ch.of_below n)).self (I4 _ _ d.o.d2)
 rw[←f];have U:=q.o.c4;have f4:=q.o.soft 4;clear f m p g n t f0;go_wp2_with fail;go_ret;refine⟨by rw[HI.o];rfl,⟨_,⟨sb,gp,cap,rfl,by rw[HS.o];exact q.o.put 4 _ (S':=M7 S k b) rfl rfl,by rw[HS.o];exact qC HK.o k s.o F.o⟩,fun x j=>?_⟩,E.o.self (I4 _ _ HM.o.d1)⟩;rcases j with j|j
 ·exact .inl j
 ·exact .inr (Nat.le_trans r.o.size (A.o x j))
theorem AM(h:DM T D w sb gp cap S)(hok:S.ok){k:Nat}(hr:I2 S k=0)(hk:k<S.bl.length)(hb:Bv w bv b)(hbl:b.length≤1024)(hl:0<S.left)(hwr:S.wr<9223372036854775807):
  Calls Tryz.prog 150 #[.pointer (some ⟨sb,0,none⟩),.int .i64 k,bv] w fun e w'=>Wt T D w (.pointer (some ⟨sb,0,none⟩)) S k b e w':=by
 have HM:=b9 h;have HK:c6 S.ok:=hok;have HR:=b9 hr;have s:=b9 hbl;have E:=b9 hk;have HI:c6 (l7 S k b=0):=by show _=_;unfold l7;rw[if_neg (fun e=>e hr),if_neg (by omega),if_neg (by omega)]
 have HS:c6 (i7 S k b=M7 S k b):=by show _=_;unfold i7;rw[if_neg (fun e=>e hr),if_neg (by omega),if_neg (by omega)];simp
 have HD:c6 (bB S.left=S.left-1):=by show _=_;unfold bB;rw[if_neg (by omega)]
 have G:=b9 hb.2;obtain⟨a,c⟩:=c7 (w.setCell ⟨sb,2,none⟩ (.int .i64 (S.left-1)))
 have d:c6 (DM T D a sb gp cap {S with left:=bB S.left}):=by
  show DM _ _ _ _ _ _ _;rw[c,HD.o];exact h.put 2 _ rfl rfl
 have r:c6 (Ch D w a):=by show Ch _ _ _;rw[c];exact I4 _ _ h.d1
 obtain⟨bo,bc,rfl,_,_⟩:=C9 hb
 have H:c6 (Bv a (.slice bo b.length bc) b):=by
  show Bv _ _ _;rw[c];exact ZG hb h.c2
 obtain⟨u0,t,_⟩:=d.o.row.at (i:=k) hk;have f0:=d.o.row.soft k;have I:=d.o.c0;have N:Wq a sb gp k (.slice (some ⟨gp,0,none⟩) S.bl.length cap) a.drew:=Wq.go (wx:=a) ⟨Ch.refl _ _,I,⟨u0,t⟩,f0⟩ (d8 _ _);have z:=b9 c;have Z:=h.c2;have f2:=h.soft 2;have O:=hok.n64;have L:(b.length:Int)≤1024:=by omega
 have M:decide ((1024:Int)<(b.length:Int))=false:=decide_eq_false (by omega);have K:(k:Int)<(S.bl.length:Int):=by omega
 have R:IntKind.i64.wrap ((S.wr:Int)+1)=(S.wr:Int)+1:=dK (by omega) (by omega);have C:=b9 hok.l1;have Q:IntKind.i64.wrap (S.left-1)=S.left-1:=dK (by omega) (by have:=C.o;omega);have W: ¬S.left=0:=by omega
 have U: ¬S.left= -1:=by omega
 have B:c6 (sb≠gp):=fun e=>h.a1 e.symm;have X: ∀wx,Wq a sb gp k (.slice (some ⟨gp,0,none⟩) S.bl.length cap) wx→wx.cell? ⟨sb,0,none⟩=some (.slice (some ⟨gp,0,none⟩) S.bl.length cap):=fun wx h=>h.c0;clear h hok hr hk hb hbl hl hwr c t f0 I;go_in;go_wp2_with fail;refine(O3 HM.o HK.o k).mono ?_;rintro e P ⟨rfl,u⟩;have u:=u.symm;subst u;rw[HR.o];go_wp2_with fail;rw[←z.o]
 go_region_held3 (fun wx=>Wq a sb gp k (.slice (some ⟨gp,0,none⟩) S.bl.length cap) wx) (first|assumption|exact Wq.set (by assumption) B.o _)
  (first
   |(go_at_call 128;refine(fP (v:= .slice bo b.length bc) (l:=b) (H.o.below (d8 _ _)) (Nat.le_trans s.o (by omega))).mono ?_;rintro e wC ⟨u',rfl,g,p⟩;obtain⟨qo,qc,y,_⟩:=K9 g;subst y;have m:Wq a sb gp k (.slice (some ⟨gp,0,none⟩) S.bl.length cap) wC:=Wq.go (by assumption) p;obtain⟨u0,t⟩:=m.at';have f0:=m.soft))
 obtain⟨J,f⟩:=c7 (wC.setCell ⟨gp,k,none⟩ (.slice qo b.length qc));have n:=a9 (d8 a 1) p
 have q:c6 (DM T (fun x=>D x∨(Value.slice qo b.length qc).ownBlock=some x) J sb gp cap {S with bl:=S.bl.set k b,left:=bB S.left}):=by
  show DM _ _ _ _ _ _ _;rw[f];exact d.o.setRow (Ch.of_below n) E.o g (Nat.le_refl _)
 have A:c6 (∀x,(Value.slice qo b.length qc).ownBlock=some x→a.heap.size≤x):=fun x j=>(g.lt x j).1
 have F:c6 (Ch D w J):=by
  show Ch _ _ _;rw[f];exact(r.o.self (Ch.of_below n)).self (I4 _ _ d.o.d2)
 rw[←f];have Y:=q.o.c4;have f4:=q.o.soft 4;clear f m p g n t f0;go_wp2_with fail;go_ret;refine⟨by rw[HI.o];rfl,⟨_,⟨sb,gp,cap,rfl,by rw[HS.o];exact q.o.put 4 _ (S':=M7 S k b) rfl rfl,by rw[HS.o];exact qC HK.o k s.o G.o⟩,fun x j=>?_⟩,F.o.self (I4 _ _ HM.o.d1)⟩;rcases j with j|j
 ·exact .inl j
 ·exact .inr (Nat.le_trans r.o.size (A.o x j))
theorem qN(h:I9 T D w v S)(i:Int)(hb:Bv w bv b)(hwr:S.wr<9223372036854775807):Calls Tryz.prog 150 #[v,.int .i64 i,bv] w fun e w'=>Wt T D w v S i b e w':=by
 have HW:=b9 h;obtain⟨s,F,C,rfl,h,a⟩:=h;have HM:=b9 h;have HK:c6 S.ok:=a;by_cases c:I2 S i=0
 ·obtain⟨j,k,rfl,l⟩:=kB c;by_cases g:b.length≤1024
  ·by_cases f:S.left=0
   ·have HR:=b9 c;have HI:c6 (l7 S k b=80):=by show _=_;unfold l7;rw[if_neg (fun e=>e c),if_neg (by omega),if_pos f]
    have HS:c6 (i7 S k b=mG S):=by show _=_;unfold i7;rw[if_neg (fun e=>e c),if_neg (by omega),if_pos f]
    obtain⟨bo,bc,rfl,_,_⟩:=C9 hb;have A:=h.c2;rw[f]at A;have p:(b.length:Int)≤1024:=by omega
    have B:decide ((1024:Int)<(b.length:Int))=false:=decide_eq_false (by omega);clear h a c l hb g f hwr j;go_in;go_wp2_with fail;refine(O3 HM.o HK.o k).mono ?_;rintro e r ⟨rfl,d⟩;have d:=d.symm;subst d;rw[HR.o];go_wp2_with fail;refine(DG HW.o).mono ?_;rintro e E ⟨rfl,y,z⟩;go_wp2_with fail;go_ret;exact⟨by rw[HI.o];rfl,⟨D,by rw[HS.o];exact y,fun x u=> .inl u⟩,z⟩
   ·have t:=a.l0;by_cases n:S.left= -1
    ·exact IQ h a c l hb g n hwr
    ·exact AM h a c l hb g (by omega) hwr
  ·have HR:=b9 c;have HA:c6 (Wt T D w (.pointer (some ⟨s,0,none⟩)) S k b (.returned (.int .i64 6)) w):=pX HW.o (by unfold l7;rw[if_neg (fun e=>e c),if_pos (by omega)]) (by unfold i7;rw[if_neg (fun e=>e c),if_pos (by omega)]);obtain⟨bo,bc,rfl,_,_⟩:=C9 hb;have p:(1024:Int)<(b.length:Int):=by omega
   clear h a c l hb g hwr j;go_in;go_wp2_with fail;refine(O3 HM.o HK.o k).mono ?_;rintro e r ⟨rfl,d⟩;have d:=d.symm;subst d;rw[HR.o];go_wp2_with fail;go_ret;exact HA.o
 ·have HA:c6 (Wt T D w (.pointer (some ⟨s,0,none⟩)) S i b (.returned (.int .i64 (I2 S i))) w):=pX HW.o (by unfold l7;rw[if_pos c]) (by unfold i7;rw[if_pos c]);obtain⟨q,m⟩:=c7 (I2 S i);rw[←m]at HA c;have HQ:=b9 m;clear m h a hb hwr;go_in;go_wp2_with fail;refine(O3 HM.o HK.o i).mono ?_;rintro e r ⟨rfl,d⟩;have d:=d.symm;subst d;rw[←HQ.o];go_wp2_with fail;go_ret;exact HA.o
end
end
def mR(ls:List f7):Dk:=⟨ls,false,-1,0,0⟩
theorem Cc{ls:List f7}(h1:1≤ls.length)(h64:ls.length≤64)(hl: ∀b∈ls,b.length≤1024)(hb: ∀b∈ls,∀c∈b,c<256):(mR ls).ok:=⟨h1,h64,hl,hb,Int.le_refl _,by show(-1:Int)<_;omega⟩
theorem XC{n:Nat}(h1:1≤n)(h64:n≤64):(mR (List.replicate n [])).ok:=
 Cc (by simpa using h1) (by simpa using h64) (fun b hb=>by rw[(List.mem_replicate.1 hb).2];simp) (fun b hb c hc=>by rw[(List.mem_replicate.1 hb).2]at hc;simp at hc)
theorem Gr.fit{E:n9}{w:d9}{g cap:Nat}{ls:List f7}(h:Gr E w g cap ls):Gr (fun x=>E x∧x<w.heap.size) w g cap ls:=by
 obtain⟨⟨cur,l,k,j⟩,f⟩:=h;refine⟨⟨cur,l,k,fun i e=>?_⟩,f⟩;obtain⟨u,a,b,c⟩:=j i e;exact⟨u,a,b,fun x d=>⟨c x d,(b.lt x d).2⟩⟩
def Nw(T:TypeId)(w:d9)(ls:List f7)(e:Ending)(w':d9):Prop:=
 ∃(v:Value) (D:n9),e= .returned (.tuple #[v,.int .i64 0])∧I9 T D w' v (mR ls)∧f8 w w'∧ ∀x,D x→w.heap.size≤x
theorem XG{T:TypeId}{w wz:d9}{ls:List f7}{g cap:Nat}(hok:(mR ls).ok)(hG:Gr (fun x=>w.heap.size≤x) wz g cap ls)(hg:w.heap.size≤g)(hB:f8 w wz):
  Nw T w ls (.returned (.tuple #[.pointer (some ⟨wz.heap.size,0,none⟩),.int .i64 0])) (wz.alloc (.cells #[.slice (some ⟨g,0,none⟩) ls.length cap,.bool false,.int .i64 (-1),.int .i64 0,.int .i64 0] T)):=by
 refine⟨_,fun x=>w.heap.size≤x∧x<wz.heap.size+1,rfl,⟨_,g,cap,rfl,⟨heap_alloc_new wz _,?_,?_,⟨hB.size,by omega⟩,⟨hg,?_⟩,fun x a=>by simpa[go_sem]using a.2⟩,hok⟩,a9 hB (a8 _ _),fun x a=>a.1⟩
 ·exact(hG.fit.below (a8 _ _)).mono (fun x a=>⟨⟨a.1,by omega⟩,by omega⟩)
 ·have:=hG.lt;omega
 ·have:=hG.lt;omega
theorem Cg{n:Int}{w:d9}(hp:n<1∨64<n):Calls Tryz.prog 7 #[.int .i64 n] w fun e w'=>e= .returned (.tuple #[.pointer none,.int .i64 1])∧w'=w:=by
 by_cases b:n<1
 ·clear hp;go_in;go_wp2_with fail;go_ret2;exact⟨rfl,rfl⟩
 ·have a:64<n:=by omega
  clear hp;go_in;go_wp2_with fail;go_ret2;exact⟨rfl,rfl⟩
theorem DN{n:Nat}{w:d9}(h1:1≤n)(h64:n≤64):Calls Tryz.prog 7 #[.int .i64 n] w fun e w'=>Nw 89 w (List.replicate n []) e w':=by
 have b:=oF h64;obtain⟨Z,a⟩:=c7 (madeCells #[.slice none 0 0] (n*1));rw[←a]at b;have HG:c6 (Gr (fun x=>w.heap.size≤x) (w.alloc (.cells Z 75)) w.heap.size n (List.replicate n [])):=yY _ w h64 a;have HK:c6 ((mR (List.replicate n [])).ok):=XC h1 h64;have d:(1:Int)≤n:=by omega
 have c:(n:Int)≤64:=by omega
 clear a h1 h64;go_in;go_wp2_with fail;go_ret2;have:=XG (T:=89) HK.o HG.o (Nat.le_refl _) (a8 w _);rw[List.length_replicate]at this;simpa[go_sem]using this

section
section

variable{T:TypeId}{D D':n9}{w w':d9}{v:Value}{g i:Nat}{u:Value}{S:Dk}{ls:List f7}{b:f7}

theorem yF{k:Nat}(hd:S.down=false)(hk:k<S.bl.length):I2 S k=0:=by unfold I2;rw[hd,if_neg (by simp),if_neg (by omega)]
theorem lC{k:Nat}(hd:S.down=false)(hk:k<S.bl.length)(hl:S.left≠0)(hb:b.length≤1024):l7 S k b=0∧i7 S k b=M7 S k b:=by
 have a:=yF hd hk;exact⟨by unfold l7;rw[if_neg (fun e=>e a),if_neg (by omega),if_neg hl],by unfold i7;rw[if_neg (fun e=>e a),if_neg (by omega),if_neg hl];simp⟩
theorem Ay{k:Nat}(hd:S.down=false)(hk:k<S.bl.length):I2 S k=0∧M6 S k=bk S.bl k∧R8 S k={S with rd:=S.rd+1}:=by
 have a:=yF hd hk;exact⟨a,by unfold M6;rw[if_pos a];simp,by unfold R8;rw[if_pos a]⟩
end
end
def Tw(w:d9)(v:Value)(t:f7):Prop:=Sv .i64 w v (ib t)
theorem ER{t:f7}{i:Nat}(h:i<t.length):(ib t).getD i 0=(tn t i:Nat):=by
 unfold ib tn;simp[List.getD,h]
theorem Tw.below{w w':d9}{v:Value}{t:f7}(h:Tw w v t)(hb:f8 w w'):Tw w' v t:=Sv.below h hb
theorem Tw.form{w:d9}{v:Value}{t:f7}(h:Tw w v t): ∃ao cap,v= .slice ao t.length cap∧t.length≤cap∧cap≤maxLen:=by
 obtain⟨ao,cap,rfl,a,b,d,c⟩:=h;rw[i8]at a⊢;exact⟨ao,cap,rfl,a,b⟩
theorem Tw.at{w:d9}{ao:Option Addr}{n cap:Nat}{t:f7}(h:Tw w (.slice ao n cap) t){i:Nat}(hi:i<t.length): ∃b off,ao=some ⟨b,off,none⟩∧w.cell? ⟨b,off+i,none⟩=some (.int .i64 (tn t i:Nat)):=by
 obtain⟨ao',cap',e,j,g,f,c⟩:=h;simp only[Value.slice.injEq]at e;obtain⟨b,off,d,a⟩:=c i (by rw[i8];exact hi);rw[ER hi]at a;exact⟨b,off,e.1.trans d,a⟩
theorem Hn{w:d9}{base e n:Nat}{v:Value}{t:f7}(h:w.ownsRow base e 1 v n ((ib t).map (Value.int .i64))):Tw w v t:=z9 h
theorem sI{w:d9}{v:Value}{t:f7}(h:Tw w v t)(x:Nat):
  Calls Tryz.prog 226 #[v,.int .i64 x] w fun e w'=>(∃r:Int,e= .returned (.int .i64 r)∧((0≤r∧x∈t)∨(r= -1∧x∉t)))∧w'=w:=by
 have HT:=b9 h;obtain⟨C,A,rfl,s,n⟩:=h.form;have z:(t.length:Int)≤9223372036854775807:=by simp only[maxLen]at n;omega
 clear h s n;go_in;go_wp2_with fail;go_loop [8] (fun iv=> ∃k:Nat,k≤t.length∧iv= .int .i64 k∧ ∀i,i<k→tn t i≠x) (fun iv=>t.length-(intOf iv).toNat)
 case atStart=>exact⟨0,Nat.zero_le _,rfl,fun i l=>by omega⟩
 case round=>
  obtain⟨k,B,rfl,d⟩:=hrel;have f:=b9 d;clear d;by_cases a:k<t.length
  ·obtain⟨b,u,rfl,q⟩:=HT.o.at a;obtain⟨y,j⟩:=c7 (tn t k);rw[←j]at q;have HY:=b9 j;have g:(k:Int)<(t.length:Int):=by omega
   clear j;by_cases c:x=y
   ·have m:((x:Int)==(y:Int))=true:=by simp[c]
    have HE:=b9 c;clear c;go_wp2_with fail
    (try simp only[Exit.inBlock,Exit.then])
    go_ret;exact⟨⟨_,rfl,.inl ⟨by omega,by rw[HE.o,HY.o];exact jU a⟩⟩,rfl⟩
   ·have m:((x:Int)==(y:Int))=false:=by simp;omega
    have HE:=b9 c;clear c;go_wp2_with fail;go_round
    case rel=>
     refine⟨k+1,a,by simp,fun i l=>?_⟩;by_cases e:i=k
     ·rw[e,←HY.o];exact fun e=>HE.o e.symm
     ·exact f.o i (by omega)
    case measure=>simp[intOf];omega
  ·have g: ¬(k:Int)<(t.length:Int):=by omega
   go_wp2_with fail;go_ret;refine⟨⟨_,rfl,.inr ⟨rfl,fun p=>?_⟩⟩,rfl⟩;obtain⟨i,l,e⟩:=List.getElem_of_mem p;exact f.o i (by omega) (by rw[aA l];exact e)
theorem dA{w:d9}{v:Value}{t:f7}(h:Tw w v t)(x:Nat):
  Calls Tryz.prog 195 #[v,.int .i64 x] w fun e w'=>e= .returned (.bool (decide (x∈t)))∧w'=w:=by
 have HT:=b9 h;clear h;by_cases b:x∈t
 ·rw[decide_eq_true b];have HX:=b9 b;clear b;go_in;go_wp2_with fail;refine(sI HT.o x).mono ?_;rintro e f ⟨⟨r,rfl,c⟩,a⟩;have a:=a.symm;subst a
  have d:0≤r:=by
   rcases c with h|h
   ·exact h.1
   ·exact absurd HX.o h.2
  clear c;go_wp2_with fail;go_ret;exact⟨rfl,rfl⟩
 ·rw[decide_eq_false b];have HX:=b9 b;clear b;go_in;go_wp2_with fail;refine(sI HT.o x).mono ?_;rintro e f ⟨⟨r,rfl,c⟩,a⟩;have a:=a.symm;subst a
  have d:r= -1:=by
   rcases c with h|h
   ·exact absurd h.2 HX.o
   ·exact h.1
  clear c;subst d;go_wp2_with fail;go_ret;exact⟨rfl,rfl⟩
theorem GH{v:Value}{t:f7}{w:d9}(ho:Tw w v t)(hl:t.length≤8):
  Calls Tryz.prog 155 #[v] w fun e w'=> ∃v',e= .returned v'∧w'.ownsRow w.heap.size 3 1 v' t.length ((ib t).map (Value.int .i64))∧f8 w w':=by
 have HO:=b9 ho;obtain⟨k,r,rfl,f,j,h,_⟩:=ho;rw[i8]at f;rw[i8]at HO⊢;have HL:=b9 hl;have l:=b9 h;have m:=b9 f;have q: ∀(w:d9) (a:Option Addr) (n c:Nat),(binOp .eql 118 (.slice a n c) (.slice none 0 0)).run Tryz.prog w= .ok (.bool a.isNone) w:=fun w a n c=>Lib.run_eql_slice_nil w 118 3 a n c 0 0 Tryz.underlying118;clear hl f j h
 cases k with
 |none=>
  have i:=l.o rfl;subst i;have g:t.length=0:=by have:=m.o;omega
  have hl:=List.eq_nil_of_length_eq_zero g;subst hl;rw[List.length_nil];go_in;go_wp2_with fail;go_ret;exact⟨_,rfl,World.ownsRow_nil _ _ _ _,I5 _⟩
 |some p=>
  go_in;go_wp2_with (at_builtin;refine g7 (by rfl) _ _ 118 (by rfl) w.heap.size 3 .i64 8 Tryz.underlying118 dZ _ 0 [] (by rfl) (World.ownsRow_made w #[] 0 (Nat.le_refl _) (by simp[maxLen]) (by simp)) _ (ib t) (by rfl) (HO.o.below (a8 _ _)) (by have:=HL.o;rw[i8];simp[maxLen];omega) (by have:=HL.o;rw[i8];omega) (by simp) ?_;intro v' s b d;go_frame);go_ret;refine⟨_,rfl,by rw[i8]at b;simpa using b,?_⟩;exact(a8 w (Obj.cells #[] 3)).grown d (by simp) (by simp[Value.ownBlock])
theorem eJ{w:d9}(n:Nat)(h:n≤64):Calls Tryz.prog 77 #[.int .i64 n] w fun e w'=>e= .returned (.int .i64 (2+2*(n:Int)))∧w'=w:=by
 have b:IntKind.i64.wrap (2*(n:Int))=2*(n:Int):=dK (by omega) (by omega);have a:IntKind.i64.wrap (2+2*(n:Int))=2+2*(n:Int):=dK (by omega) (by omega);clear h;go_in;go_wp2_with fail;go_ret;exact⟨rfl,rfl⟩
def fV(n:Nat)(p:Int):Bool:=decide (0≤p∧p<(n:Int))
theorem cB{w:d9}{v:Value}{t:f7}(g:Nat)(h:Tw w v t)(p:Int):
  Calls Tryz.prog 154 #[.agg #[.int .u64 g,v],.int .i64 p] w fun e w'=>e= .returned (.bool (fV t.length p))∧f8 w w':=by
 obtain⟨j,i,rfl,d,c⟩:=h.form;clear h d c;by_cases b:0≤p
 ·by_cases a:p<(t.length:Int)
  ·have HR:c6 (fV t.length p=true):=decide_eq_true ⟨b,a⟩;rw[HR.o];go_in;go_wp2_with fail;go_ret;exact⟨rfl,a8 _ _⟩
  ·have HR:c6 (fV t.length p=false):=decide_eq_false (fun e=>a e.2);rw[HR.o];have f:(t.length:Int)≤p:=by omega
   have hd:=decide_eq_false a;clear a;go_in;go_wp2_with fail;go_ret;exact⟨rfl,a8 _ _⟩
 ·have HR:c6 (fV t.length p=false):=decide_eq_false (fun e=>b e.1);rw[HR.o];go_in;go_wp2_with fail;go_ret;exact⟨rfl,a8 _ _⟩
theorem GV{w:d9}{v:Value}{t:f7}(g:Nat)(h:Tw w v t)(ht: ∀x∈t,x<64){b:Nat}(hb:b<64):
  Calls Tryz.prog 156 #[.agg #[.int .u64 g,v],.int .i64 b] w fun e w'=>e= .returned (.int .i64 (q8 t b:Nat))∧f8 w w':=by
 obtain⟨m,a⟩:=c7 (w.alloc (Obj.cells #[.int .u64 g,v] 120));have f:c6 (f8 w m):=by show Below _ _ _;rw[a];exact a8 _ _
 have HT:=b9 (h.below f.o);have l:=b9 a;have z:m.cell? ⟨w.heap.size,1,none⟩=some v:=by rw[a];simp[go_sem]
 have d:=b9 ht;clear h a ht;go_in;go_wp2_with fail;rw[←l.o];go_loop [1] (fun iv=> ∃k:Nat,k≤64∧iv= .int .i64 k∧b<k∧ ∀y,b<y→y<k→y∈t) (fun iv=>65-(intOf iv).toNat)
 case atStart=>exact⟨b+1,by omega,by simp,by omega,fun y p q=>by omega⟩
 case round=>
  obtain⟨k,u,rfl,j,n⟩:=hrel;have HM:=b9 n;clear n;go_wp2_with fail;refine(dA HT.o k).mono ?_;rintro e s ⟨rfl,i⟩;have i:=i.symm;subst i;by_cases c:k∈t
  ·have HX:=b9 c;have r:=d.o k c;rw[decide_eq_true c];clear c;go_wp2_with fail;go_round
   case rel=>
    refine⟨k+1,by omega,by simp,by omega,fun y p q=>?_⟩;by_cases e:y=k
    ·rw[e];exact HX.o
    ·exact HM.o y p (by omega)
   case measure=>simp[intOf];omega
  ·have HX:=b9 (Cf d.o j c HM.o);rw[decide_eq_false c];clear c;go_wp2_with fail;go_ret;exact⟨by rw[HX.o];rfl,f.o⟩
theorem DI(t:f7):pH (ib t)=(Wm.enc t.length++Wm.encAll t,0):=by
 rw[rU (fun i c=>by rw[i8]at c;rw[ER c];omega)];unfold DJ;rw[i8]
 have:(ib t).map Int.toNat=t:=by
  induction t with
  |nil=>rfl
  |cons a l b=>unfold ib at b⊢;simp only[List.map_cons,Int.toNat_natCast];rw[b]
 rw[this]
theorem Fp{t:f7}(h: ∀x∈t,x<64): ∀x∈ib t,x<9223372036854775808:=by
 intro x b;obtain⟨y,a,rfl⟩:=List.mem_map.1 b;have:=h y a;omega
def Rb(w:d9)(g:Nat)(t:f7)(e:Ending)(w':d9):Prop:= ∃v,e= .returned v∧w'.ownsRow w.heap.size 5 1 v (k9 g t).length (cb (k9 g t))∧f8 w w'
theorem kW{w:d9}{v:Value}{t:f7}{g:Nat}(h:Tw w v t)(h8:t.length≤8)(ht: ∀x∈t,x<64)(hg:g<18446744073709551616):
  Calls Tryz.prog 80 #[.agg #[.int .u64 g,v]] w fun e w'=>Rb w g t e w':=by
 obtain⟨B,a⟩:=c7 (w.alloc (Obj.cells #[.int .u64 g,v] 120));have A:c6 (f8 w B):=by show Below _ _ _;rw[a];exact a8 _ _
 have HT:=b9 (h.below A.o);have D:=b9 a;have R:B.cell? ⟨w.heap.size,1,none⟩=some v:=by rw[a];simp[go_sem]
 have y:c6 (B.cell? ⟨w.heap.size,0,none⟩=some (.int .u64 g)):=by show _=_;rw[a];simp[go_sem]
 have HN:c6 (10+10*(ib t).length≤140737488355328):=by show _≤_;rw[i8];omega
 have E:=b9 (Fp ht);have F:=b9 ht;have HG:=b9 hg;have G:c6 ((k9 g t).length≤100):=bN h8;have S:=b9 h8;clear h a ht hg h8;go_in;go_wp2_with fail;rw[←D.o];refine(SJ HT.o HN.o E.o).mono ?_;rintro e K ⟨P,rfl,d,f⟩;rw[DI]at d⊢;have z:=b9 (a9 A.o f);have c0:K.cell? ⟨w.heap.size,0,none⟩=some (.int .u64 g):=by rw[f.cell (p:=⟨w.heap.size,0,none⟩) (c8 y.o)];exact y.o
 have u:c6 (Bv K P (Wm.enc t.length++Wm.encAll t)):=p7 d (fun c j=>by
  rcases List.mem_append.1 j with j|j
  ·exact Wm.enc_lt _ (by have:=S.o;omega) c j
  ·exact kP t (fun x Q=>by have:=F.o x Q;omega) c j)
 clear d f R;go_wp2_with fail;refine(B8 g HG.o _).mono ?_;rintro e T ⟨U,rfl,k,r⟩;have s:=b9 (p7 k (Wm.enc_lt g HG.o));have i:=b9 r;clear k r;obtain⟨a1,Z,C,_⟩:=C9 u.o;obtain⟨a2,Y,N,_⟩:=C9 s.o;obtain⟨L,M⟩:=c7 (Wm.enc t.length++Wm.encAll t);rw[←M]at C;obtain⟨X,m⟩: ∃n,n=L.length:=⟨_,rfl⟩;obtain⟨W,l⟩: ∃n,n=(Wm.enc g).length:=⟨_,rfl⟩;rw[←m]at C;rw[←l]at N;clear m l M;subst C;subst N;go_wp2_with fail;refine(K5 (Hk 75 s.o (u.o.below i.o)) (by rw[FA];exact Nat.le_trans G.o (by omega))).mono ?_;rintro e J ⟨O,rfl,b,q⟩;rw[FA]at b;have I:c6 (f8 w J):=a9 (a9 z.o i.o) (a9 (a8 _ _) q);have H:c6 (J.ownsRow w.heap.size 5 1 O (k9 g t).length (cb (k9 g t))):=bU b (by have h1:=z.o.size;have h2:=i.o.size;simp;omega);clear b q;go_wp2_with fail;go_ret;exact⟨_,rfl,H.o,I.o⟩
theorem Tw.first{w:d9}{ao:Option Addr}{n cap:Nat}{t:f7}(h:Tw w (.slice ao n cap) t){k:Nat}(hk:k≤t.length):Tw w (.slice ao k cap) (t.take k):=by
 obtain⟨ao',cap',e,l,j,g,f⟩:=h;simp only[Value.slice.injEq]at e;obtain⟨o,p,m⟩:=e;subst o m;rw[i8]at l;refine⟨ao,cap,by rw[i8,List.length_take,Nat.min_eq_left hk],by rw[i8,List.length_take];omega,j,g,fun i d=>?_⟩;rw[i8,List.length_take]at d;obtain⟨b,a,e,c⟩:=f i (by rw[i8];omega);refine⟨b,a,e,?_⟩;rw[c,ER (by omega),ER (by rw[List.length_take];omega)];unfold tn;simp[List.getD,show i<k by omega]
theorem IC{w:d9}{v:Value}{t:f7}(h:Tw w v t)(h8:t.length≤64){B:Nat}(hB:B≤64):
  Calls Tryz.prog 160 #[v,.int .i64 B] w fun e w'=>e= .returned (.bool (aQ t B))∧w'=w:=by
 have HT:=b9 h;obtain⟨Z,x,rfl,R,m⟩:=h.form;have M:=b9 h8;have U:(t.length:Int)≤64:=by omega
 have N:(t.length:Int)≤(x:Int):=by omega
 clear h R m h8;by_cases f:t.length<1
 ·have HR:c6 (aQ t B=false):=gG (fun e=>by have:=e.1;omega);rw[HR.o];have p:t.length=0:=by omega
  rw[p];clear f;go_in;go_wp2_with fail;go_ret;exact⟨rfl,rfl⟩
 ·by_cases s:B<2+2*t.length
  ·have HR:c6 (aQ t B=false):=gG (fun e=>by have:=e.2.1;omega);rw[HR.o];have I:1≤(t.length:Int):=by omega
   have H:(B:Int)<2+2*(t.length:Int):=by omega
   have J:=decide_eq_false (by omega);clear f s;go_in;go_wp2_with fail;refine(eJ t.length M.o).mono ?_;rintro e E ⟨rfl,a⟩;have a:=a.symm;subst a;go_wp2_with fail;go_ret;exact⟨rfl,rfl⟩
  ·have I:1≤(t.length:Int):=by omega
   have H:2+2*(t.length:Int)≤(B:Int):=by omega
   have J:=decide_eq_false (by omega);have HL:c6 (1≤t.length∧2+2*t.length≤B):=⟨by omega,by omega⟩;have L:c6 ((∀i,i<t.length→UC t B i)→aQ t B=true):=fun d=>xH ⟨HL.o.1,HL.o.2,d⟩;have j:c6 (∀i,i<t.length→ ¬UC t B i→aQ t B=false):=fun i n O=>gG (fun e=>O (e.2.2 i n));clear f s;go_in;go_wp2_with fail;refine(eJ t.length M.o).mono ?_;rintro e E ⟨rfl,a⟩;have a:=a.symm;subst a;go_wp2_with fail;go_loop [19] (fun iv=> ∃k:Nat,k≤t.length∧iv= .int .i64 k∧ ∀i,i<k→UC t B i) (fun iv=>t.length-(intOf iv).toNat)
   case atStart=>exact⟨0,Nat.zero_le _,rfl,fun i n=>by omega⟩
   case round=>
    obtain⟨k,P,rfl,r⟩:=hrel;have z:=b9 r;clear r;by_cases c:k<t.length
    ·obtain⟨b,S,rfl,Q⟩:=HT.o.at c;obtain⟨y,F⟩:=c7 (tn t k);rw[←F]at Q;have HY:=b9 F
     have A:c6 (UC t B k→ ∀i,i<k+1→UC t B i):=fun d i n=>by
      by_cases e:i=k
      ·rw[e];exact d
      ·exact z.o i (by omega)
     have D:(k:Int)<(t.length:Int):=by omega
     have W:(k:Int)≤(x:Int):=by omega
     have C:=b9 (HT.o.first P);clear F;by_cases p:y=0
     ·subst p;go_wp2_with fail;go_round
      case rel=>exact⟨k+1,c,by simp,A.o (.inl HY.o.symm)⟩
      case measure=>simp[intOf];omega
     ·have T:((y:Int)==0)=false:=by simp;omega
      have g:=b9 p;clear p;by_cases m:y<2
      ·have K:(y:Int)<2:=by omega
       have HN:c6 (¬UC t B k):=fun d=>by
        rcases d with e|⟨e,_⟩
        ·rw[←HY.o]at e;exact g.o e
        ·rw[←HY.o]at e;omega
       clear m;go_wp2_with fail
       (try simp only[Exit.inBlock,Exit.then])
       go_ret;exact⟨by rw[j.o k c HN.o];rfl,rfl⟩
      ·have K:2≤(y:Int):=by omega
       have Y:=decide_eq_false (by omega);by_cases q:B≤y
       ·have G:(B:Int)≤(y:Int):=by omega
        have HN:c6 (¬UC t B k):=fun d=>by
         rcases d with e|⟨_,e,_⟩
         ·rw[←HY.o]at e;exact g.o e
         ·rw[←HY.o]at e;omega
        clear m;go_wp2_with fail
        (try simp only[Exit.inBlock,Exit.then])
        go_ret;exact⟨by rw[j.o k c HN.o];rfl,rfl⟩
       ·have G:(y:Int)<(B:Int):=by omega
        have X:=decide_eq_false (by omega);by_cases l:y∈t.take k
        ·have HN:c6 (¬UC t B k):=fun d=>by
          rcases d with e|⟨_,_,e⟩
          ·rw[←HY.o]at e;exact g.o e
          ·rw[←HY.o]at e;exact e l
         have HM:=b9 (decide_eq_true l);clear m q l;go_wp2_with fail;refine(dA C.o y).mono ?_;rintro e E ⟨rfl,a⟩;have a:=a.symm;subst a;rw[HM.o];go_wp2_with fail
         (try simp only[Exit.inBlock,Exit.then])
         go_ret;exact⟨by rw[j.o k c HN.o];rfl,rfl⟩
        ·have HN:c6 (UC t B k):= .inr (by rw[←HY.o];exact⟨by omega,by omega,l⟩);have HM:=b9 (decide_eq_false l);clear m q l;go_wp2_with fail;refine(dA C.o y).mono ?_;rintro e E ⟨rfl,a⟩;have a:=a.symm;subst a;rw[HM.o];go_wp2_with fail;go_round
         case rel=>exact⟨k+1,c,by simp,A.o HN.o⟩
         case measure=>simp[intOf];omega
    ·have D: ¬(k:Int)<(t.length:Int):=by omega
     have u:k=t.length:=by omega
     have HK:=b9 u;clear u;go_wp2_with fail;go_ret;exact⟨by rw[L.o (fun i n=>z.o i (by rw[HK.o];exact n))];rfl,rfl⟩
end Go.Proofs.YtfhoilcbhmeofaaGreat
