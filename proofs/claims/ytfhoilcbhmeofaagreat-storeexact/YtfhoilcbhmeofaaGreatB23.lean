/- Contracts of the reference's Put, Drop over cells. -/
import Derived.Test.YtfhoilcbhmeofaaGreatB22
set_option maxRecDepth 100000
set_option maxHeartbeats 16000000
namespace Go.Proofs.YtfhoilcbhmeofaaGreat
open Go.RowKit
def Q7(b a:Int):Bool:=decide (1≤b)&&decide (b≤1099511627776)&&decide (1≤a)&&decide (a≤1099511627776)
theorem Z5(b a:Int)(w:d9):Calls Tryz.prog 111 #[.int .i64 b,.int .i64 a] w fun e w'=>e= .returned (.bool (Q7 b a))∧w'=w:=by
 go_in;by_cases g:1≤b
 ·by_cases f:b≤1099511627776
  ·by_cases d:1≤a
   ·by_cases c:a≤1099511627776
    ·have e:Q7 b a=true:=by unfold Q7;rw[decide_eq_true g,decide_eq_true f,decide_eq_true d,decide_eq_true c];rfl
     rw[e];go_wp2_with fail;go_ret;exact⟨rfl,rfl⟩
    ·have e:Q7 b a=false:=by unfold Q7;rw[decide_eq_false c];simp
     rw[e];go_wp2_with fail;go_ret;exact⟨rfl,rfl⟩
   ·have e:Q7 b a=false:=by unfold Q7;rw[decide_eq_false d];simp
    rw[e];go_wp2_with fail;go_ret;exact⟨rfl,rfl⟩
  ·have e:Q7 b a=false:=by unfold Q7;rw[decide_eq_false f];simp
   rw[e];go_wp2_with fail;go_ret;exact⟨rfl,rfl⟩
 ·have e:Q7 b a=false:=by unfold Q7;rw[decide_eq_false g];rfl
  rw[e];go_wp2_with fail;go_ret;exact⟨rfl,rfl⟩
theorem xU{w:d9}{u v:Value}{l m:f7}(hu:Kv w u l)(hv:Kv w v m):
  Calls Tryz.prog 115 #[u,v] w (IM l m w):=by
 have HU:c6 (Kv w u l):=hu;have HV:c6 (Kv w v m):=hv;obtain⟨ua,uc,rfl,k,g⟩:=O7 hu;obtain⟨Y,X,rfl,_,_⟩:=O7 hv;have r:l.length≤maxLen:=Nat.le_trans k g;clear k g;unfold maxLen at r;clear hu hv;by_cases a:l.length=m.length;rotate_left
 ·have H:((l.length:Int) !=(m.length:Int))=true:=by rw[bne_iff_ne];omega
  have s:c6 (l≠m):=fun e=>a (by rw[e]);clear a r;generalize l.length=n at H;generalize m.length=q at H;go_in;go_wp2_with fail;go_ret;exact eH s.o (Below.refl _ _)
 ·rw[←a]at HV⊢;obtain⟨n,D⟩:=c7 l.length;rw[←D]at HU HV⊢;have HN:c6 (n=l.length):=D;have HM:c6 (n=m.length):=D.trans a;have W:(n:Int)≤9223372036854775807:=by omega
  have H:((n:Int) !=(n:Int))=false:=by simp
  clear D a r;go_in;go_wp2_with fail;go_loopw [5] (fun iv wr=> ∃i:Nat,iv= .int .i64 i∧i≤n∧(∀j,(A:j<l.length)→(z:j<m.length)→j<i→l[j]=m[j])∧f8 w wr) (fun iv _=>n-(intOf iv).toNat)
  case atStart=>exact⟨0,rfl,by omega,fun j _ _ h=>by omega,Below.refl _ _⟩
  case round=>
   obtain⟨i,rfl,hi,p,O⟩:=hrel;have HA:c6 (∀j,(A:j<l.length)→(z:j<m.length)→j<i→l[j]=m[j]):=p;have HB:=b9 O;clear p O;by_cases B:i<n
   ·have C:(i:Int)<(n:Int):=by omega
    have P:decide (i<n)=true:=decide_eq_true B;have A:i<l.length:=by have:=HN.o;omega
    have z:i<m.length:=by have:=HM.o;omega
    rcases T2 (HU.o.below HB.o)with ⟨I,_⟩|⟨U,R,c1,K,_,_,_,y⟩
    ·rw[I]at A;simp at A
    rcases T2 (HV.o.below HB.o)with ⟨I,_⟩|⟨T,Q,c2,J,_,_,_,x⟩
    ·rw[I]at z;simp at z
    simp only[Value.slice.injEq]at K J;have M:=K.1;have L:=J.1;clear K J;subst M L;have F:=y i A;have E:=x i z;obtain⟨c,G⟩:=c7 (l[i]);obtain⟨d,hd⟩:=c7 (m[i]);rw[←G]at F;rw[←hd]at E;have X0: ∀q,(wr.drewN q).cell? ⟨U,R+i,none⟩=some (.int .u64 (c:Nat)):=fun _=>F;have Y0: ∀q,(wr.drewN q).cell? ⟨T,Q+i,none⟩=some (.int .u64 (d:Nat)):=fun _=>E;have f:c6 (c=l[i]∧d=m[i]):=⟨G,hd⟩;clear y x F E G hd;by_cases b:c=d
    ·have N:c6 (∀j,(A:j<l.length)→(z:j<m.length)→j<i+1→l[j]=m[j]):=fun j y x Z=>by
      rcases Nat.lt_or_ge j i with q|q
      ·exact HA.o j y x q
      ·obtain rfl:j=i:=by omega
       rw[←f.o.1,←f.o.2];exact b
     subst b;have S:((c:Int) !=(c:Int))=false:=by simp
     go_wp2_with fail;go_quiet (fail);have t:c6 (f8 w (wr.drewN nq)):=a9 HB.o (d8 _ _);go_wp2_with fail;go_roundw
     case rel=>exact⟨i+1,by go_num,B,N.o,t.o⟩
     case measure=>simp[intOf];omega
    ·have S:((c:Int) !=(d:Int))=true:=by rw[bne_iff_ne];omega
     have s:c6 (l≠m):=fun e=>by
      subst e;exact b (f.o.1.trans f.o.2.symm)
     clear b;go_wp2_with fail;go_quiet (fail);have t:c6 (f8 w (wr.drewN nq)):=a9 HB.o (d8 _ _);go_wp2_with fail;go_ret;exact eH s.o t.o
   ·have C: ¬(i:Int)<(n:Int):=by omega
    have HE:c6 (l=m):=List.ext_getElem (by rw[←HN.o,←HM.o]) (fun j y x=>HA.o j y x (by have:=HN.o;omega));go_wp2_with fail;go_ret;exact oN HE.o HB.o
theorem SC{l:List Cl}(hp:0<l.length):eY (x7 (l.take 1)) (l.drop 1)=O9 l:=by
 cases l with
 |nil=>simp at hp
 |cons c r=>simp[O9,eY,N0,x7]
theorem xV(l:List Cl)(b off cap:Nat)(w:d9)(hl:l.length≤cap)(hcap:cap≤maxLen)(hp:0<l.length)(hc: ∀i,(hi:i<l.length)→CA w b (off+i*6) l[i]):
  Calls Tryz.prog 175 #[.slice (some ⟨b,off,none⟩) l.length cap] w fun e w'=>e= .returned (.bool (O9 l))∧f8 w w':=by
 unfold maxLen at hcap;have y:(l.length:Int)≤9223372036854775807:=by omega
 have HC:=b9 hc;have HP:=b9 hp;clear hc hcap hl hp;go_in;go_wp2_with fail;go_loopw [3] (fun iv wr=> ∃i:Nat,iv= .int .i64 i∧1≤i∧i≤l.length∧eY (x7 (l.take i)) (l.drop i)=O9 l∧f8 w wr) (fun iv _=>l.length-(intOf iv).toNat)
 case atStart=>exact⟨1,rfl,by omega,HP.o,SC HP.o,Below.refl _ _⟩
 case round=>
  obtain⟨i,rfl,B,A,a,f⟩:=hrel;have HO:=b9 a;have HB:=b9 f;clear a f;by_cases g:i<l.length
  ·obtain⟨j,rfl⟩: ∃j,i=j+1:=⟨i-1,by omega⟩;have v:=((HC.o (j+1) g).keep HB.o).c0;have u:=((HC.o j (by omega)).keep HB.o).c0;have m:c6 (x7 (l.take (j+1))=some l[j].k):=fD (by omega);obtain⟨c,h⟩: ∃c,l[j+1].k=c:=⟨_,rfl⟩;obtain⟨d,p⟩: ∃d,l[j].k=d:=⟨_,rfl⟩;rw[h]at v;rw[p]at u m;have q:=b9 h;clear h p;have r:((j+1:Nat):Int)<(l.length:Int):=by omega
   have x:(j:Int)<(l.length:Int):=by omega
   have z:((j+1:Nat):Int)-1=(j:Int):=by omega
   have C: ∀n,(wr.drewN n).cell? ⟨b,off+j*6,none⟩=some (.int .u64 d):=fun _=>u;have D: ∀n,(wr.drewN n).cell? ⟨b,off+(j+1)*6,none⟩=some (.int .u64 c):=fun _=>v;by_cases E:c≤d
   ·have s:(c:Int)≤(d:Int):=by omega
    have HR:=b9 (DB g HO.o (by rw[m.o,q.o];simp[N0];omega));go_wp2_with fail;go_quiet (fail);go_wp2_with fail;go_ret;exact⟨by rw[HR.o];rfl,a9 HB.o (d8 _ _)⟩
   ·have s: ¬(c:Int)≤(d:Int):=by omega
    have HR:=b9 (DC g HO.o (by rw[m.o,q.o];simp[N0];omega));go_wp2_with fail;go_quiet (fail);have t:c6 (f8 w (wr.drewN nq)):=a9 HB.o (d8 _ _);go_wp2_with fail;go_roundw
    case rel=>exact⟨j+1+1,by go_num,by omega,by omega,HR.o,t.o⟩
    case measure=>simp[intOf];omega
  ·have r: ¬(i:Int)<(l.length:Int):=by omega
   have HR:=b9 (NP (by omega) HO.o);go_wp2_with fail;go_ret;exact⟨by rw[HR.o];rfl,HB.o⟩
theorem lS(ao:Option Addr)(cap:Nat)(w:d9):
  Calls Tryz.prog 175 #[.slice ao 0 cap] w fun e w'=>e= .returned (.bool true)∧f8 w w':=by
 go_in;go_wp2;refine wp_loop_rounds 1 ?_;rw[rounds_succ];go_wp2;go_ret;exact⟨rfl,Below.refl _ _⟩
theorem F3{w:d9}{v:Value}{l:List Cl}(h:Cv w v l):
  Calls Tryz.prog 175 #[v] w fun e w'=>e= .returned (.bool (O9 l))∧f8 w w':=by
 rcases B2 h with ⟨rfl,j,a,rfl⟩|⟨b,c,a,rfl,d,i,g,f⟩
 ·exact lS j a w
 ·exact xV l b c a w i g d f
theorem JZ(l:List Cl)(b off cap k:Nat)(w:d9)(hl:l.length≤cap)(hcap:cap≤maxLen)(hc: ∀i,(hi:i<l.length)→CA w b (off+i*6) l[i]):
  Calls Tryz.prog 122 #[.slice (some ⟨b,off,none⟩) l.length cap,.int .u64 k] w fun e w'=>e= .returned (.tuple #[.int .i64 (I0 l k),.bool (I1 l k)])∧f8 w w':=by
 have HV:=b9 (FV hl hcap hc);unfold maxLen at hcap;have z:(l.length:Int)≤9223372036854775807:=by omega
 have HC:=b9 hc;clear hc hcap hl
 cases f:O9 l
 ·have q:I0 l k=0:=by simp[I0,f]
  have p:I1 l k=false:=by simp[I1,f]
  rw[q,p];go_in;go_wp2_with fail;refine(F3 HV.o).mono ?_;rw[f];rintro e v ⟨rfl,d⟩;go_wp2_with fail;go_ret2;exact⟨rfl,d⟩
 ·have q:I0 l k=x8 l k:=by simp[I0,f]
  have p:I1 l k=fT l (x8 l k) k:=by simp[I1,f]
  rw[q,p];clear q p;go_in;go_wp2_with fail;refine(F3 HV.o).mono ?_;rw[f];rintro e v ⟨rfl,d⟩;have HB:=b9 d;clear d f HV;go_wp2_with fail;go_loop [6] (fun iv=> ∃i:Nat,iv= .int .i64 i∧i≤l.length∧i+x8 (l.drop i) k=x8 l k) (fun iv=>l.length-(intOf iv).toNat)
  case atStart=>exact⟨0,rfl,by omega,by simp⟩
  case round=>
   obtain⟨i,rfl,A,j⟩:=hrel;have HF:=b9 j;clear j;by_cases a:i<l.length
   ·have s:=(HC.o i a).keep HB.o;obtain⟨c,g⟩: ∃c,l[i]=c:=⟨_,rfl⟩;rw[g]at s;have h:=b9 g;clear g;have m:(i:Int)<(l.length:Int):=by omega
    have y:=s.c0;have B: ∀n,(v.drewN n).cell? ⟨b,off+i*6,none⟩=some (.int .u64 c.k):=fun _=>y;clear s;by_cases x:c.k<k
    ·have t:(c.k:Int)<(k:Int):=by omega
     have HR:=b9 (EZ a HF.o (by rw[h.o];exact x));go_wp2_with fail;go_round
     case rel=>exact⟨i+1,by go_num,by omega,HR.o⟩
     case measure=>simp[intOf];omega
    ·have t: ¬(c.k:Int)<(k:Int):=by omega
     have HR:=b9 (EY a HF.o (by rw[h.o];exact x));have HK:c6 (fT l (x8 l k) k=decide (c.k=k)):=by show _=_;rw[←HR.o];simp[fT,a,h.o]
     have C:=HB.o;by_cases r:c.k=k
     ·have u:((c.k:Int)==(k:Int))=true:=by simp[r]
      go_wp2_with fail;go_quiet (fail);go_wp2_with fail;go_ret2;exact⟨by rw[HK.o,←HR.o];simp[r],a9 HB.o (d8 _ _)⟩
     ·have u:((c.k:Int)==(k:Int))=false:=by simp;omega
      go_wp2_with fail;go_quiet (fail);go_wp2_with fail;go_ret2;exact⟨by rw[HK.o,←HR.o];simp[r],a9 HB.o (d8 _ _)⟩
   ·have m: ¬(i:Int)<(l.length:Int):=by omega
    have HR:=b9 (OR (by omega) HF.o);have HK:c6 (fT l (x8 l k) k=false):=by show _=_;rw[←HR.o];simp[fT,List.getElem?_eq_none (Nat.le_of_not_lt a)]
    go_wp2_with fail;go_quiet (fail);go_wp2_with fail;go_ret2;exact⟨by rw[HK.o,←HR.o];rfl,a9 HB.o (d8 _ _)⟩
theorem KA(ao:Option Addr)(cap k:Nat)(w:d9):
  Calls Tryz.prog 122 #[.slice ao 0 cap,.int .u64 k] w fun e w'=>e= .returned (.tuple #[.int .i64 0,.bool false])∧f8 w w':=by
 go_in;go_wp2_with fail;refine(lS ao cap _).mono ?_;rintro e b ⟨rfl,a⟩;go_wp2_with fail;refine wp_loop_rounds 1 ?_;rw[rounds_succ];go_wp2_with fail;go_quiet (fail);go_wp2_with fail;go_ret2;exact⟨rfl,a9 a (d8 _ _)⟩
theorem G8{w:d9}{v:Value}{l:List Cl}(h:Cv w v l)(k:Nat):
  Calls Tryz.prog 122 #[v,.int .u64 k] w fun e w'=>e= .returned (.tuple #[.int .i64 (I0 l k),.bool (I1 l k)])∧f8 w w':=by
 rcases B2 h with ⟨rfl,i,a,rfl⟩|⟨b,c,a,rfl,j,g,f,d⟩
 ·exact KA i a k w
 ·exact JZ l b c a k w g f d
section
theorem rC{p:Nat→Bool}{i:Nat}{o:Option Nat}(hi:i<7)(h:o=dH p i (7-i))(hp:p i=true):o=some i:=by
 rw[h,show 7-i=(7-(i+1))+1 by omega,dH,if_pos hp]
theorem xM{p:Nat→Bool}{i:Nat}{o:Option Nat}(hi:i<7)(h:o=dH p i (7-i))(hp:p i=false):o=dH p (i+1) (7-(i+1)):=by
 rw[h,show 7-i=(7-(i+1))+1 by omega,dH,if_neg (by simp[hp])]
def Gb(g:Nat→List Cl)(k:Nat):Option Nat:=dH (fun i=>I1 (g i) k) 1 6
def VS(g:Nat→List Cl):Option Nat:=dH (fun i=>decide ((g i).length<16)) 1 6
def Bh(o r:Option Nat):Nat:=o.getD (r.getD 0)
def KN(g:Nat→List Cl)(k:Nat):Nat:=Bh (Gb g k) (VS g)
section

variable{w:d9}{f:Nat→Value}{g:Nat→List Cl}

theorem eT(h: ∀j,j<7→Cv w (f j) (g j)):S7 (w.alloc (Obj.cells #[f 0,f 1,f 2,f 3,f 4,f 5,f 6] 147)) w.heap.size f g:=by
 refine⟨fun i a=>?_,fun j=>by simp[go_sem],fun i a=>(h i a).below (a8 _ _)⟩;have:i=0∨i=1∨i=2∨i=3∨i=4∨i=5∨i=6:=by omega
 rcases this with rfl|rfl|rfl|rfl|rfl|rfl|rfl<;>simp[go_sem]
theorem BV(h: ∀j,j<7→Cv w (f j) (g j))(k:Nat):Calls Tryz.prog 121 #[.agg #[f 0,f 1,f 2,f 3,f 4,f 5,f 6],.int .u64 k] w fun e w'=>e= .returned (.int .i64 (KN g k))∧f8 w w':=by
 have d:c6 (S7 (w.alloc (Obj.cells #[f 0,f 1,f 2,f 3,f 4,f 5,f 6] 147)) w.heap.size f g):=eT h;have b:c6 (f8 w (w.alloc (Obj.cells #[f 0,f 1,f 2,f 3,f 4,f 5,f 6] 147))):=a8 _ _;obtain⟨o,I⟩:=c7 (Gb g k);obtain⟨r,H⟩:=c7 (VS g);obtain⟨x,G⟩:=c7 (KN g k);rw[←G];have HX:c6 (x=Bh o r):=by show _=_;rw[I,H,G];rfl
 have HO:c6 (o=dH (fun i=>I1 (g i) k) 1 (7-1)):=I;have HR:c6 (r=dH (fun i=>decide ((g i).length<16)) 1 (7-1)):=H;obtain⟨a0,p0,Y⟩:=(h 0 (by omega)).form;obtain⟨a1,p1,X⟩:=(h 1 (by omega)).form;obtain⟨a2,p2,W⟩:=(h 2 (by omega)).form;obtain⟨a3,p3,U⟩:=(h 3 (by omega)).form;obtain⟨a4,p4,T⟩:=(h 4 (by omega)).form;obtain⟨a5,p5,S⟩:=(h 5 (by omega)).form;obtain⟨a6,p6,R⟩:=(h 6 (by omega)).form;rw[Y,X,W,U,T,S,R]at d b⊢;clear h I H G Y X W U T S R;generalize (g 0).length=n0 at d b⊢;generalize (g 1).length=n1 at d b⊢;generalize (g 2).length=n2 at d b⊢;generalize (g 3).length=n3 at d b⊢;generalize (g 4).length=n4 at d b⊢;generalize (g 5).length=n5 at d b⊢;generalize (g 6).length=n6 at d b⊢;go_in;go_upto_region 1 with fail
 obtain⟨N,K⟩:=c7 w.heap.size;rw[←K]at d⊢;have HN:c6 (N=w.heap.size):=K;clear K;generalize w.alloc (Obj.cells #[.slice a0 n0 p0,.slice a1 n1 p1,.slice a2 n2 p2,.slice a3 n3 p3,.slice a4 n4 p4,.slice a5 n5 p5,.slice a6 n6 p6] 147)=Z at d b⊢;go_wp2_with fail;go_loopw [5] (fun iv wr=> ∃i:Nat,iv= .int .i64 i∧1≤i∧i≤7∧o=dH (fun i=>I1 (g i) k) i (7-i)∧f8 Z wr) (fun iv _=>7-(intOf iv).toNat)
 case atStart=>exact⟨1,rfl,by omega,by omega,HO.o,Below.refl _ _⟩
 case round=>
  obtain⟨i,rfl,y,Q,v,J⟩:=hrel;have HI:c6 (o=dH (fun i=>I1 (g i) k) i (7-i)):=v;have HB:=b9 J;have l:c6 (S7 wr N f g):=d.o.below J;clear v J;by_cases a:i<7
  ·have q:(i:Int)≤6:=by omega
   have D:(i:Int)<7:=by omega
   have M:(0:Int)≤(i:Int):=by omega
   have E:=l.o.c i a;have B:c6 (Cv wr (f i) (g i)):=l.o.cv i a;obtain⟨ao,O,e⟩:=l.o.form a;obtain⟨n,p⟩:=c7 ((g i).length);rw[←p]at e;rw[e]at E B;clear e p;go_wp2_with fail;refine(G8 B.o k).mono ?_;rintro e w2 ⟨rfl,z⟩;have C:=b9 (a9 HB.o z);clear E z
   cases m:I1 (g i) k
   ·have t:c6 (o=dH (fun i=>I1 (g i) k) (i+1) (7-(i+1))):=xM a HI.o m;clear m;go_wp2_with fail;go_roundw
    case rel=>exact⟨i+1,by go_num,by omega,a,t.o,C.o⟩
    case measure=>simp[intOf];omega
   ·have s:c6 (o=some i):=rC a HI.o m;clear m;go_wp2_with fail;go_ret;exact⟨by rw[HX.o,s.o];rfl,a9 b.o C.o⟩
  ·have q: ¬(i:Int)≤6:=by omega
   obtain rfl:i=7:=by omega
   have A:c6 (o=none):=HI.o;clear a Q y;go_wp2_with fail;go_loop [8] (fun iv=> ∃i:Nat,iv= .int .i64 i∧1≤i∧i≤7∧r=dH (fun i=>decide ((g i).length<16)) i (7-i)) (fun iv=>7-(intOf iv).toNat)
   case atStart=>exact⟨1,rfl,by omega,by omega,HR.o⟩
   case round=>
    obtain⟨i,rfl,y,Q,v⟩:=hrel;have u:c6 (r=dH (fun i=>decide ((g i).length<16)) i (7-i)):=v;clear v;by_cases a:i<7
    ·have q:(i:Int)≤6:=by omega
     have D:(i:Int)<7:=by omega
     have M:(0:Int)≤(i:Int):=by omega
     have E:=l.o.c i a;obtain⟨ao,O,e⟩:=l.o.form a;obtain⟨n,p⟩:=c7 ((g i).length);rw[←p]at e;rw[e]at E;by_cases F:n<16
     ·have s:c6 (r=some i):=rC a u.o (by rw[←p];exact decide_eq_true F);have L:(n:Int)<16:=by omega
      clear F p e;go_wp2_with fail;go_ret;exact⟨by rw[HX.o,A.o,s.o];rfl,a9 b.o HB.o⟩
     ·have t:c6 (r=dH (fun i=>decide ((g i).length<16)) (i+1) (7-(i+1))):=xM a u.o (by rw[←p];exact decide_eq_false F);have L: ¬(n:Int)<16:=by omega
      clear F p e;go_wp2_with fail;go_round
      case rel=>exact⟨i+1,by go_num,by omega,a,t.o⟩
      case measure=>simp[intOf];omega
    ·have q: ¬(i:Int)≤6:=by omega
     obtain rfl:i=7:=by omega
     have P:c6 (r=none):=u.o;go_wp2_with fail;go_ret;exact⟨by rw[HX.o,A.o,P.o];rfl,a9 b.o HB.o⟩
end
end
section
def yC(g:Nat→List Cl)(k:Nat)(m:Int):Vl:=match Gb g k with
 |none=>K0
 |some i=>aL ((g i).getD (I0 (g i) k) j9) m
section

variable{A:n9}{w w1:d9}{sv dv:Value}{k:Int}{P:Bo}{S:Dk}{sp:Nat}

def VZ(w:d9)(R:Nat):Prop:=w.cell? ⟨R,0,none⟩=some (.bool false)∧w.cell? ⟨R,1,none⟩=some (.int .u64 0)∧ ∀j,w.frozen? ⟨R,j,none⟩=false
theorem xA(w:d9):VZ (w.alloc (Obj.cells #[.bool false,.int .u64 0] 55)) w.heap.size:=⟨by simp[go_sem],by simp[go_sem],fun j=>by simp[go_sem]⟩
theorem VZ.ch{D:n9}{R:Nat}(h:VZ w R)(hc:Ch D w w1)(hR: ¬D R):VZ w1 R:=⟨hc.cell h.1 hR,hc.cell h.2.1 hR,fun j=>by
  have e:=hc.block R (c8 h.1) hR;have hz:=h.2.2 j;unfold World.frozen? at hz⊢;rw[e];exact hz⟩
theorem VZ.below{R:Nat}(h:VZ w R)(hb:f8 w w1):VZ w1 R:=h.ch (D:=fun _=>False) (Ch.of_below hb) (fun h=>h)
theorem RT.two(h:RT A w (.pointer (some ⟨sp,0,none⟩)) dv k P S){g:Nat}(hg: ¬A g)(hp:sp≠g)(a b:Value):RT A ((w.setCell ⟨g,0,none⟩ a).setCell ⟨g,1,none⟩ b) (.pointer (some ⟨sp,0,none⟩)) dv k P S:=by
 have s: ∀{x:d9} (i:Nat) (u:Value),RT A x (.pointer (some ⟨sp,0,none⟩)) dv k P S→RT A (x.setCell ⟨g,i,none⟩ u) (.pointer (some ⟨sp,0,none⟩)) dv k P S:=fun i u c=>c.setB (fun y _ d e=>by subst e;exact hg d) (fun s e=>by cases e;exact hp);exact s _ _ (s _ _ h)
theorem JK(w:d9)(key:Nat)(n:Int):Calls Tryz.prog 52 #[.pointer none,.int .u64 key,.int .i64 n] w fun e w'=>e= .returned (.tuple #[.agg #[.bool false,.int .u64 0],.int .i64 2])∧f8 w w':=by
 have HB:c6 (f8 w (w.alloc (Obj.cells #[.bool false,.int .u64 0] 55))):=a8 _ _;have a:=b9 (xA w);go_in;go_upto_region 1 with fail
 obtain⟨R,b⟩:=c7 w.heap.size;rw[←b]at a⊢;have HR:=b9 b;clear b;generalize (w.alloc (Obj.cells #[.bool false,.int .u64 0] 55))=w0 at a HB⊢;go_wp2_with fail;refine B4 bR ?_;obtain⟨h,g,rz⟩:=a.o;have f:=rz 0;have d:=rz 1;clear rz;go_wp2_with fail
 (try simp only[Exit.inBlock,Exit.then])
 refine bodyPost_ret (v:= .tuple #[.agg #[.bool false,.int .u64 0],.int .i64 2]) (by rw[results_cell_tmp rfl];go_simp) rfl ?_;have c:w.heap.size≤R:=by rw[HR.o];exact Nat.le_refl _
 exact⟨rfl,(HB.o.setCell c _).setCell c _⟩
theorem BO(h:RT A w sv dv k P S)(hs:i6 P S=true)(key:Nat)(n:Int):Calls Tryz.prog 52 #[sv,.int .u64 key,.int .i64 n] w fun e w'=>e= .returned (.tuple #[.agg #[.bool false,.int .u64 0],.int .i64 80])∧RT A w' sv dv k (J6 P) S∧Ch A w w':=by
 have HS:=b9 hs;obtain⟨sp,m,d,_⟩:=h.ptr;have q:=b9 d;have s:c6 (∀x,A x→x<w.heap.size):=fun x t=>h.lt t;subst m;have HB:c6 (f8 w (w.alloc (Obj.cells #[.bool false,.int .u64 0] 55))):=a8 _ _;have c:=b9 (xA w);have f:=b9 (h.below HB.o);clear h hs d;go_in;go_upto_region 1 with fail
 obtain⟨R,l⟩:=c7 w.heap.size;rw[←l]at c⊢;have HR:=b9 l;clear l;generalize (w.alloc (Obj.cells #[.bool false,.int .u64 0] 55))=w0 at c f HB⊢;have i:c6 (¬A R):=fun e=>by have y:=s.o _ e;have u:=HR.o;omega
 go_wp2_with fail;refine(aD f.o HS.o).mono ?_;rintro e C ⟨rfl,a,b⟩;have r:=b9 ((Ch.of_below HB.o).self b);obtain⟨E,D,rz⟩:=c.o.ch b i.o;have B:=rz 0;have z:=rz 1;have j:c6 _:=sX r.o (.inr (by rw[HR.o];exact Nat.le_refl _)) (g:=R) (.bool false) (.int .u64 0);have p:c6 _:=a.two i.o (by have y:=q.o;have u:=HR.o;omega) (.bool false) (.int .u64 0);clear a b rz;go_wp2_with fail
 (try simp only[Exit.inBlock,Exit.then])
 refine bodyPost_ret (v:= .tuple #[.agg #[.bool false,.int .u64 0],.int .i64 80]) (by rw[results_cell_tmp rfl];go_simp) rfl ?_;exact⟨rfl,p.o,j.o⟩
def PO(A:n9)(w:d9)(sv dv:Value)(k:Int)(P:Bo)(S:Dk)(key:Nat)(n:Int)(e:Ending)(w':d9):Prop:=
 ∃S',e= .returned (.tuple #[.agg #[.bool (yC (gP P S 7) key n).h,.int .u64 (yC (gP P S 7) key n).b],.int .i64 0])∧RT A w' sv dv k P S'∧F0 6 S S'∧Ch A w w'
theorem QX(h:RT A w sv dv k P S)(hs:i6 P S=false)(hrd:S.rd<4611686018427387904)(key:Nat)(m:Int):Calls Tryz.prog 52 #[sv,.int .u64 key,.int .i64 m] w (PO A w sv dv k P S key m):=by
 have HS:=b9 hs;have C0:=b9 hrd;obtain⟨sp,o0,U,_⟩:=h.ptr;have B0:=b9 U;have L0:c6 (∀x,A x→x<w.heap.size):=fun x hx=>h.lt hx;subst o0;have HB:c6 (f8 w (w.alloc (Obj.cells #[.bool false,.int .u64 0] 55))):=a8 _ _;have M:=b9 (xA w);have K:=b9 (h.below HB.o);clear h hs U hrd;go_in;go_upto_region 1 with fail
 obtain⟨R,hR⟩:=c7 w.heap.size;rw[←hR]at M⊢;have HR:=b9 hR;clear hR;generalize (w.alloc (Obj.cells #[.bool false,.int .u64 0] 55))=w0 at M K HB⊢;have N:c6 (¬A R):=fun e=>by have h1:=L0.o _ e;have h2:=HR.o;omega
 have f0:c6 (sp≠R):=by have h1:=B0.o;have h2:=HR.o;show _≠_;omega
 have c0:c6 (w.heap.size≤R):=by show _≤_;rw[HR.o];exact Nat.le_refl _
 go_wp2_with fail;refine B4 (X9 K.o HS.o) ?_;go_wp2_with fail;refine(aV K.o HS.o C0.o).mono ?_;rintro e w1 ⟨f,S1,rfl,d,s0,W,F,z,u⟩;have A0:=b9 F;have g0:=b9 z;have J0:=b9 ((Ch.of_below HB.o).self u);have v0:=b9 (M.o.ch u N.o);have q:c6 _:=eT W;obtain⟨a0,n0,p0,e0⟩:=d 0 (by omega);obtain⟨a1,n1,p1,e1⟩:=d 1 (by omega);obtain⟨a2,n2,p2,e2⟩:=d 2 (by omega);obtain⟨a3,n3,p3,e3⟩:=d 3 (by omega);obtain⟨a4,n4,p4,e4⟩:=d 4 (by omega);obtain⟨a5,n5,p5,e5⟩:=d 5 (by omega);obtain⟨a6,n6,p6,e6⟩:=d 6 (by omega);rw[e0,e1,e2,e3,e4,e5,e6]at q⊢;clear d s0 W F z u e0 e1 e2 e3 e4 e5 e6;go_upto_region 5 with fail
 have s:c6 (f8 w1 (w1.alloc (Obj.cells #[.slice a0 n0 p0,.slice a1 n1 p1,.slice a2 n2 p2,.slice a3 n3 p3,.slice a4 n4 p4,.slice a5 n5 p5,.slice a6 n6 p6] 147))):=a8 _ _;obtain⟨Q,hQ⟩:=c7 w1.heap.size;rw[←hQ]at q⊢;clear hQ;generalize w1.alloc (Obj.cells #[.slice a0 n0 p0,.slice a1 n1 p1,.slice a2 n2 p2,.slice a3 n3 p3,.slice a4 n4 p4,.slice a5 n5 p5,.slice a6 n6 p6] 147)=w2 at s q⊢;have b0:=b9 (v0.o.below s.o);have d0:=b9 (A0.o.below s.o);have k0:=b9 (J0.o.self (Ch.of_below s.o));obtain⟨g,hg⟩:=c7 (gP P S 7);rw[←hg]at q;have HG:=b9 hg.symm;obtain⟨o,ho⟩:=c7 (Gb g key);have HO:=b9 ho;have i0:c6 (Gb g key=o):=ho.symm;clear hg ho s;have H0:=b9 q.o;clear q;go_wp2_with fail;go_loopw [10] (fun iv wr=> ∃i:Nat,iv= .int .i64 i∧1≤i∧i≤7∧o=dH (fun i=>I1 (g i) key) i (7-i)∧f8 w2 wr) (fun iv _=>7-(intOf iv).toNat)
 case atStart=>exact⟨1,rfl,by omega,by omega,HO.o,Below.refl _ _⟩
 case round=>
  obtain⟨i,rfl,Q0,hi,hs,hb⟩:=hrel;have HI:=b9 hs;have E:=b9 hb;have L:=b9 (H0.o.below hb);clear hs hb;by_cases j:i<7
  ·have q0:(i:Int)≤6:=by omega
   have M0:(i:Int)<7:=by omega
   have R0:(0:Int)≤(i:Int):=by omega
   obtain⟨ao,H,e⟩:=L.o.form j;have T:=L.o.c i j;rw[e]at T;have D:c6 (Cv wr (.slice ao (g i).length H) (g i)):=by have:=L.o.cv i j;rw[e]at this;exact this
   obtain⟨l,hl⟩:=c7 (g i);rw[←hl]at T D;have HL:=b9 hl;obtain⟨n,hn⟩:=c7 l.length;rw[←hn]at T D;have j0:=b9 hn;clear e hl hn;obtain⟨t,ht⟩:=c7 (I1 l key);obtain⟨a,ha⟩:=c7 (I0 l key);have HT:=b9 ht;have HA:=b9 ha;clear ht ha;go_wp2_with fail;refine(G8 D.o key).mono ?_;rw[←HT.o,←HA.o];rintro e w3 ⟨rfl,C⟩;have l0:=b9 (a9 E.o C);have G:=b9 (D.o.below C);have m1:w3.cell? ⟨Q,i,none⟩=some (.slice ao n H):=by rw[C.cell (p:=⟨Q,i,none⟩) (c8 T)];exact T
   clear C T
   cases t
   ·have D0:=b9 (xM j HI.o (by rw[←HL.o];exact HT.o.symm));clear m1;go_wp2_with fail;go_roundw
    case rel=>exact⟨i+1,by go_num,by omega,j,D0.o,l0.o⟩
    case measure=>simp[intOf];omega
   ·have x0:=b9 (rC j HI.o (by rw[←HL.o];exact HT.o.symm));obtain⟨r,t0⟩:=mZ HT.o.symm;obtain⟨c,hc⟩:=c7 (l[I0 l key])
    have HC:c6 (yC g key m=aL c m):=by
     show _=_;unfold yC;rw[i0.o,x0.o];show aL ((g i).getD (I0 (g i) key) j9) m=_;rw[←HL.o,hc];simp[r]
    have Y:a<n:=by have:=HA.o;have:=j0.o;omega
    have N0:(a:Int)<(n:Int):=by omega
    have O0:=decide_eq_true Y
    obtain⟨b,B,cp,e,_,_,_,X⟩: ∃b B cp,Value.slice ao n H= .slice (some ⟨b,B,none⟩) l.length cp∧0<l.length∧l.length≤cp∧cp≤maxLen∧ ∀i,(hi:i<l.length)→CA w3 b (B+i*6) l[i]:=by
     rcases B2 G.o with ⟨h0,_⟩|h
     ·rw[h0]at r;simp at r
     ·exact h
    simp only[Value.slice.injEq]at e;have e1:=e.1;subst e1;have G0:c6 (CA w3 b (B+a*6) c):=by have:=X (I0 l key) r;rw[←hc,←HA.o]at this;exact this
    have P0:(n:Int)≤9223372036854775807:=by have h1:=G.o.len_le;have h2:=j0.o;unfold maxLen at h1;omega
    obtain⟨y0,y1,y2,y3,y4,y5⟩:=G0.o;clear X hc r t0 e Y;go_wp2_with fail;refine(tV c m _).mono ?_;obtain⟨v,hv⟩:=c7 (aL c m);rw[←hv];have I:c6 (yC g key m=v):=HC.o.trans hv.symm;rintro e w4 ⟨rfl,Z⟩;have O:=b9 (a9 l0.o Z);obtain⟨r0,r1,rz⟩:=b0.o.below O.o;have z0:=rz 0;have z1:=rz 1;have y:c6 _:=sX (k0.o.self (Ch.of_below O.o)) (.inr c0.o) (g:=R) (.bool v.h) (.int .u64 v.b);have J:c6 _:=(d0.o.below O.o).two N.o f0.o (.bool v.h) (.int .u64 v.b);clear Z hv m1 y0 y1 y2 y3 y4 y5 rz;go_wp2_with fail
    (try simp only[Exit.inBlock,Exit.then])
    refine bodyPost_ret (v:= .tuple #[.agg #[.bool v.h,.int .u64 v.b],.int .i64 0]) (by rw[results_cell_tmp rfl];go_simp) rfl ?_;unfold PO;rw[HG.o,I.o];exact⟨S1,rfl,J.o,g0.o,y.o⟩
  ·have q0: ¬(i:Int)≤6:=by omega
   obtain rfl:i=7:=by omega
   have F0:c6 (o=none):=HI.o;have I:c6 (yC g key m=K0):=by show _=_;unfold yC;rw[i0.o,F0.o]
   obtain⟨r0,r1,rz⟩:=b0.o.below E.o;have z0:=rz 0;have z1:=rz 1;have y:c6 _:=sX (k0.o.self (Ch.of_below E.o)) (.inr c0.o) (g:=R) (.bool false) (.int .u64 0);have J:c6 _:=(d0.o.below E.o).two N.o f0.o (.bool false) (.int .u64 0);clear rz;go_wp2_with fail
   (try simp only[Exit.inBlock,Exit.then])
   refine bodyPost_ret (v:= .tuple #[.agg #[.bool false,.int .u64 0],.int .i64 0]) (by rw[results_cell_tmp rfl];go_simp) rfl ?_;unfold PO;rw[HG.o,I.o];exact⟨S1,rfl,J.o,g0.o,y.o⟩
end
end
theorem Y8{w:d9}{B:Nat}{v:Value}{a b c:List Cl}(h:w.ownsRow B 132 6 v (0+a.length+b.length+c.length) ([]++l9 a++l9 b++l9 c)):w.ownsRow B 132 6 v (a++(b++c)).length (l9 (a++(b++c))):=by
 rw[G4,G4,List.length_append,List.length_append];simpa[Nat.add_assoc]using h
theorem dG{n m:Nat}(h:n≤m)(hs:m*48≤140737488355328):n*48≤140737488355328:=Nat.le_trans (Nat.mul_le_mul_right 48 h) hs
theorem dE{n m:Nat}(h:n≤m)(hs:m*48≤140737488355328):n≤maxLen:=by unfold maxLen;omega
theorem V4{l:List Cl}(A:Nat):0+(l.take A).length≤l.length+1:=by simp;omega
theorem Q0{l:List Cl}(A:Nat)(c:Cl):0+(l.take A).length+[c].length≤l.length+1:=by simp;omega
theorem P9{l:List Cl}{A A2:Nat}(c:Cl)(h:A≤A2):0+(l.take A).length+[c].length+(l.drop A2).length≤l.length+1:=by simp;omega
theorem VP(l:List Cl)(c:Cl)(v:Value)(w:d9)(hv:Cv w v l)(ho:O9 l=false):
  Calls Tryz.prog 124 #[v,.agg #[.int .u64 c.k,.bool c.p.h,.int .u64 c.p.b,.bool c.c.h,.int .u64 c.c.b,.int .i64 c.n]] w (F1 (I7 l c) w):=by
 have HV:=b9 hv;have a:c6 (f8 w (w.alloc (Obj.cells #[.int .u64 c.k,.bool c.p.h,.int .u64 c.p.b,.bool c.c.h,.int .u64 c.c.b,.int .i64 c.n] 132))):=a8 _ _;have HR:c6 (I7 l c=([],7)):=by show _=_;unfold I7;rw[if_pos ho]
 clear hv;go_in;go_wp2_with fail;refine(F3 (HV.o.below a.o)).mono ?_;rw[ho];rintro e f ⟨rfl,d⟩;go_wp2_with fail;go_ret2;exact qE HR.o rfl (a9 a.o d)
theorem RC(l:List Cl)(c:Cl)(ao:Option Addr)(cap:Nat)(w:d9)(hv:Cv w (.slice ao l.length cap) l)(ho:O9 l=true)(hk:fT l (x8 l c.k) c.k=false)(h16:16≤l.length):
  Calls Tryz.prog 124 #[.slice ao l.length cap,.agg #[.int .u64 c.k,.bool c.p.h,.int .u64 c.p.b,.bool c.c.h,.int .u64 c.c.b,.int .i64 c.n]] w (F1 (I7 l c) w):=by
 have HV:=b9 hv;have q:=b9 (B0 w c);have i:c6 (f8 w (w.alloc (Obj.cells #[.int .u64 c.k,.bool c.p.h,.int .u64 c.p.b,.bool c.c.h,.int .u64 c.c.b,.int .i64 c.n] 132))):=a8 _ _;have d:=b9 ho;obtain⟨A,j⟩:=c7 (x8 l c.k);have HA:=b9 j;have m:c6 (fT l A c.k=false):=by show _=_;rw[j];exact hk
 have HR:c6 (I7 l c=([],92)):=by show _=_;unfold I7;rw[if_neg (by simp[ho]),if_neg (by simp[hk]),if_pos h16]
 have s:(16:Int)≤(l.length:Int):=by omega
 clear hv hk j ho h16;go_in;go_wp2_with fail;refine(F3 (HV.o.below i.o)).mono ?_;rw[d.o];rintro e v ⟨rfl,a⟩;have g:=b9 (a9 i.o a);have t:=(q.o.keep a).c0;clear a;go_wp2_with fail;refine(G8 (HV.o.below g.o) c.k).mono ?_;rw[V0 d.o,R5 d.o,←HA.o,m.o];rintro e u ⟨rfl,f⟩;have r:=b9 (a9 g.o f);clear t f;go_wp2_with fail;go_ret2;exact qE HR.o rfl r.o
theorem BU(l:List Cl)(c:Cl)(b off cap:Nat)(w:d9)(hv:Cv w (.slice (some ⟨b,off,none⟩) l.length cap) l)(ho:O9 l=true)(hlc:l.length≤cap)(hcm:cap≤maxLen)(hk:fT l (x8 l c.k) c.k=true)(hsz:(l.length+1)*48≤140737488355328)(hce:cap=x8 l c.k+1):
  Calls Tryz.prog 124 #[.slice (some ⟨b,off,none⟩) l.length cap,.agg #[.int .u64 c.k,.bool c.p.h,.int .u64 c.p.b,.bool c.c.h,.int .u64 c.c.b,.int .i64 c.n]] w (F1 (I7 l c) w):=by
 have HV:=b9 hv;have J:=b9 (B0 w c);have F:c6 (f8 w (w.alloc (Obj.cells #[.int .u64 c.k,.bool c.p.h,.int .u64 c.p.b,.bool c.c.h,.int .u64 c.c.b,.int .i64 c.n] 132))):=a8 _ _;have q:=b9 ho;obtain⟨A,x⟩:=c7 (x8 l c.k);have HA:=b9 x;have G:c6 (A≤l.length):=by show _≤_;rw[x];exact kK l c.k
 have C:c6 (fT l A c.k=true):=by show _=_;rw[x];exact hk
 have t:=b9 (zD C.o);have HR:c6 (I7 l c=(l.take A++([c]++l.drop (A+1)),0)):=by show _=_;unfold I7;rw[if_neg (by simp[ho]),if_pos hk,x]
 have f:=b9 hsz;have a0:IntKind.i64.wrap ((A:Int)+1)=(A:Int)+1:=by rw[IntKind.wrap_i64];have:=t.o;unfold maxLen at hcm;omega
 have g0:(0:Int)≤(A:Int)+1:=by omega
 have b0:((A:Int)+1).toNat=A+1:=by omega
 have O:(A:Int)+1≤(l.length:Int):=by have:=t.o;omega
 have N:(A:Int)+1≤(cap:Int):=by have:=t.o;omega
 have Q:(cap:Int)≤9223372036854775807:=by unfold maxLen at hcm;omega
 have P:(l.length:Int)≤(cap:Int):=by omega
 have d0:(A:Int)≤(l.length:Int):=by have:=G.o;omega
 have f0:(A:Int)≤(cap:Int):=by omega
 rw[←x]at hce;have B:c6 (l.length≤A+1):=by show _≤_;omega
 subst hce;clear hv hk x ho hsz hlc hcm;go_in;go_wp2_with fail;refine(F3 (HV.o.below F.o)).mono ?_;rw[q.o];rintro e w1 ⟨rfl,m⟩;have E:=b9 (a9 F.o m);have D:=b9 (J.o.keep m);have S:=D.o.c0;clear m;go_wp2_with fail;refine(G8 (HV.o.below E.o) c.k).mono ?_;rw[V0 q.o,R5 q.o,←HA.o,C.o];rintro e i ⟨rfl,j⟩;have v:=b9 (a9 E.o j);have K:=b9 (D.o.keep j);clear S j;have s:c6 ((i.alloc (Obj.cells #[] 132)).ownsRow i.heap.size 132 6 (.slice (some ⟨i.heap.size,0,none⟩) 0 0) 0 []):=World.ownsRow_made i #[] 0 (Nat.le_refl _) (by simp[maxLen]) rfl;have y:c6 (Cv (i.alloc (Obj.cells #[] 132)) (.slice (some ⟨b,off,none⟩) A (A+1)) (l.take A)):=(HV.o.below (a9 v.o (a8 _ _))).upto A G.o;go_upto_region 8 with (at_builtin;refine i9 (by rfl) (.tmp 27) (.tmp 30) (by rfl) i.heap.size _ _ _ (by rfl) s.o _ (l.take A) (by rfl) y.o (dE (V4 A) f.o) (dG (V4 A) f.o) (by rw[g8];omega) ?_;intro v3 M d a)
 have r:=b9 d;have g:=b9 ((a8 i _).trans (g9 s.o a (by rw[g8];omega)));clear d a s y;obtain⟨Z,Y,X,W,U,T,zz⟩:=K.o.keep g.o;go_upto_region 9 with (at_builtin;refine i9 (by rfl) (.tmp 32) (.tmp 34) (by rfl) i.heap.size _ _ _ (by rfl) (r.o.alloc _) _ [c] (by rfl) (P5 M c) (dE (Q0 A c) f.o) (dG (Q0 A c) f.o) (by rw[g8];have:=g.o.size;omega) ?_;intro v4 R d a)
 have z:=b9 d;have u:=b9 (g.o.trans (((a8 M _).mono g.o.size).trans (g9 (r.o.alloc _) a (by rw[g8];have:=g.o.size;omega))));have H:c6 (Cv R (.slice (some ⟨b,off,none⟩) (l.length-(A+1)) 0) (l.drop (A+1))):=(by show Cv _ _ _;rw[show l.length-(A+1)=0 from by have:=B.o;omega];exact Cv.void B.o);clear d a Z Y X W U T zz r;go_wp2_with (at_builtin;refine i9 (by rfl) (.tmp 39) (.tmp 42) (by rfl) i.heap.size _ _ _ (by rfl) z.o _ (l.drop (A+1)) (by rfl) H.o (dE (P9 c (by omega)) f.o) (dG (P9 c (by omega)) f.o) u.o.size ?_;intro v5 w5 d a);have I:=b9 d;have L:=b9 (u.o.trans (g9 z.o a u.o.size));clear d a;go_ret2;exact W1 HR.o (Y8 I.o) v.o.size (a9 v.o L.o)
theorem BS(l:List Cl)(c:Cl)(b off cap:Nat)(w:d9)(hv:Cv w (.slice (some ⟨b,off,none⟩) l.length cap) l)(ho:O9 l=true)(hlc:l.length≤cap)(hcm:cap≤maxLen)(hk:fT l (x8 l c.k) c.k=true)(hsz:(l.length+1)*48≤140737488355328)(hce: ¬cap=x8 l c.k+1):
  Calls Tryz.prog 124 #[.slice (some ⟨b,off,none⟩) l.length cap,.agg #[.int .u64 c.k,.bool c.p.h,.int .u64 c.p.b,.bool c.c.h,.int .u64 c.c.b,.int .i64 c.n]] w (F1 (I7 l c) w):=by
 have HV:=b9 hv;have J:=b9 (B0 w c);have E:c6 (f8 w (w.alloc (Obj.cells #[.int .u64 c.k,.bool c.p.h,.int .u64 c.p.b,.bool c.c.h,.int .u64 c.c.b,.int .i64 c.n] 132))):=a8 _ _;have t:=b9 ho;obtain⟨A,x⟩:=c7 (x8 l c.k);have HA:=b9 x;have F:c6 (A≤l.length):=by show _≤_;rw[x];exact kK l c.k
 have B:c6 (fT l A c.k=true):=by show _=_;rw[x];exact hk
 have j:c6 (A+1≤l.length):=zD B.o;have HR:c6 (I7 l c=(l.take A++([c]++l.drop (A+1)),0)):=by show _=_;unfold I7;rw[if_neg (by simp[ho]),if_pos hk,x]
 have f:=b9 hsz;have a0:IntKind.i64.wrap ((A:Int)+1)=(A:Int)+1:=by rw[IntKind.wrap_i64];have:=j.o;unfold maxLen at hcm;omega
 have g0:(0:Int)≤(A:Int)+1:=by omega
 have b0:((A:Int)+1).toNat=A+1:=by omega
 have P:(A:Int)+1≤(l.length:Int):=by have:=j.o;omega
 have O:(A:Int)+1≤(cap:Int):=by have:=j.o;omega
 have R:(cap:Int)≤9223372036854775807:=by unfold maxLen at hcm;omega
 have Q:(l.length:Int)≤(cap:Int):=by omega
 have d0:(A:Int)≤(l.length:Int):=by have:=F.o;omega
 have f0:(A:Int)≤(cap:Int):=by omega
 rw[←x]at hce;have I:c6 (¬cap=A+1):=hce;clear hv hk x ho hsz hlc hcm;go_in;go_wp2_with fail;refine(F3 (HV.o.below E.o)).mono ?_;rw[t.o];rintro e w1 ⟨rfl,s⟩;have D:=b9 (a9 E.o s);have C:=b9 (J.o.keep s);have S:=C.o.c0;clear s;go_wp2_with fail;refine(G8 (HV.o.below D.o) c.k).mono ?_;rw[V0 t.o,R5 t.o,←HA.o,B.o];rintro e i ⟨rfl,r⟩;have q:=b9 (a9 D.o r);have K:=b9 (C.o.keep r);clear S r;have v:c6 ((i.alloc (Obj.cells #[] 132)).ownsRow i.heap.size 132 6 (.slice (some ⟨i.heap.size,0,none⟩) 0 0) 0 []):=World.ownsRow_made i #[] 0 (Nat.le_refl _) (by simp[maxLen]) rfl;have y:c6 (Cv (i.alloc (Obj.cells #[] 132)) (.slice (some ⟨b,off,none⟩) A cap) (l.take A)):=(HV.o.below (a9 q.o (a8 _ _))).upto A F.o;go_upto_region 8 with (at_builtin;refine i9 (by rfl) (.tmp 27) (.tmp 30) (by rfl) i.heap.size _ _ _ (by rfl) v.o _ (l.take A) (by rfl) y.o (dE (V4 A) f.o) (dG (V4 A) f.o) (by rw[g8];omega) ?_;intro v3 N d a)
 have u:=b9 d;have g:=b9 ((a8 i _).trans (g9 v.o a (by rw[g8];omega)));clear d a v y;obtain⟨Z,Y,X,W,U,T,zz⟩:=K.o.keep g.o;go_upto_region 9 with (at_builtin;refine i9 (by rfl) (.tmp 32) (.tmp 34) (by rfl) i.heap.size _ _ _ (by rfl) (u.o.alloc _) _ [c] (by rfl) (P5 N c) (dE (Q0 A c) f.o) (dG (Q0 A c) f.o) (by rw[g8];have:=g.o.size;omega) ?_;intro v4 M d a)
 have z:=b9 d;have m:c6 (f8 i M):=g.o.trans (((a8 N _).mono g.o.size).trans (g9 (u.o.alloc _) a (by rw[g8];have:=g.o.size;omega)));have G:c6 (Cv M (.slice (some ⟨b,off+(A+1)*6,none⟩) (l.length-(A+1)) (cap-(A+1))) (l.drop (A+1))):=(by show Cv _ _ _;have:=(HV.o.below (a9 q.o m.o)).from (A+1) j.o I.o;simpa[WideShapes.add_plain]using this);clear d a Z Y X W U T zz u;go_wp2_with (at_builtin;refine i9 (by rfl) (.tmp 39) (.tmp 42) (by rfl) i.heap.size _ _ _ (by rfl) z.o _ (l.drop (A+1)) (by rfl) G.o (dE (P9 c (by omega)) f.o) (dG (P9 c (by omega)) f.o) m.o.size ?_;intro v5 w5 d a);have H:=b9 d;have L:=b9 (m.o.trans (g9 z.o a m.o.size));clear d a;go_ret2;exact W1 HR.o (Y8 H.o) q.o.size (a9 q.o L.o)
theorem QZ(l:List Cl)(c:Cl)(b off cap:Nat)(w:d9)(hv:Cv w (.slice (some ⟨b,off,none⟩) l.length cap) l)(ho:O9 l=true)(hlc:l.length≤cap)(hcm:cap≤maxLen)(hk:fT l (x8 l c.k) c.k=false)(h16:l.length<16)(hce:cap=x8 l c.k):
  Calls Tryz.prog 124 #[.slice (some ⟨b,off,none⟩) l.length cap,.agg #[.int .u64 c.k,.bool c.p.h,.int .u64 c.p.b,.bool c.c.h,.int .u64 c.c.b,.int .i64 c.n]] w (F1 (I7 l c) w):=by
 have HV:=b9 hv;have I:=b9 (B0 w c);have D:c6 (f8 w (w.alloc (Obj.cells #[.int .u64 c.k,.bool c.p.h,.int .u64 c.p.b,.bool c.c.h,.int .u64 c.c.b,.int .i64 c.n] 132))):=a8 _ _;have q:=b9 ho;obtain⟨A,v⟩:=c7 (x8 l c.k);have HA:=b9 v;have E:c6 (A≤l.length):=by show _≤_;rw[v];exact kK l c.k
 have H:c6 (fT l A c.k=false):=by show _=_;rw[v];exact hk
 have HR:c6 (I7 l c=(l.take A++([c]++l.drop A),0)):=by show _=_;unfold I7;rw[if_neg (by simp[ho]),if_neg (by simp[hk]),if_neg (by omega),v]
 have f:c6 ((l.length+1)*48≤140737488355328):=by show _≤_;omega
 have O: ¬(16:Int)≤(l.length:Int):=by omega
 have N:(cap:Int)≤9223372036854775807:=by unfold maxLen at hcm;omega
 have M:(l.length:Int)≤(cap:Int):=by omega
 have Y:(A:Int)≤(l.length:Int):=by have:=E.o;omega
 have Z:(A:Int)≤(cap:Int):=by omega
 rw[←v]at hce;have z:c6 (l.length≤A):=by show _≤_;omega
 replace hce:=hce.symm;subst hce;clear hv hk v ho h16 hlc hcm;go_in;go_wp2_with fail;refine(F3 (HV.o.below D.o)).mono ?_;rw[q.o];rintro e w1 ⟨rfl,m⟩;have C:=b9 (a9 D.o m);have B:=b9 (I.o.keep m);have Q:=B.o.c0;clear m;go_wp2_with fail;refine(G8 (HV.o.below C.o) c.k).mono ?_;rw[V0 q.o,R5 q.o,←HA.o,H.o];rintro e i ⟨rfl,j⟩;have u:=b9 (a9 C.o j);have J:=b9 (B.o.keep j);clear Q j;have s:c6 ((i.alloc (Obj.cells #[] 132)).ownsRow i.heap.size 132 6 (.slice (some ⟨i.heap.size,0,none⟩) 0 0) 0 []):=World.ownsRow_made i #[] 0 (Nat.le_refl _) (by simp[maxLen]) rfl;have x:c6 (Cv (i.alloc (Obj.cells #[] 132)) (.slice (some ⟨b,off,none⟩) A A) (l.take A)):=(HV.o.below (a9 u.o (a8 _ _))).upto A E.o;go_upto_region 8 with (at_builtin;refine i9 (by rfl) (.tmp 27) (.tmp 30) (by rfl) i.heap.size _ _ _ (by rfl) s.o _ (l.take A) (by rfl) x.o (dE (V4 A) f.o) (dG (V4 A) f.o) (by rw[g8];omega) ?_;intro v3 L d a)
 have r:=b9 d;have g:=b9 ((a8 i _).trans (g9 s.o a (by rw[g8];omega)));clear d a s x;obtain⟨X,W,U,T,S,R,zz⟩:=J.o.keep g.o;go_upto_region 9 with (at_builtin;refine i9 (by rfl) (.tmp 32) (.tmp 34) (by rfl) i.heap.size _ _ _ (by rfl) (r.o.alloc _) _ [c] (by rfl) (P5 L c) (dE (Q0 A c) f.o) (dG (Q0 A c) f.o) (by rw[g8];have:=g.o.size;omega) ?_;intro v4 P d a)
 have y:=b9 d;have t:=b9 (g.o.trans (((a8 L _).mono g.o.size).trans (g9 (r.o.alloc _) a (by rw[g8];have:=g.o.size;omega))));have F:c6 (Cv P (.slice (some ⟨b,off,none⟩) (l.length-A) 0) (l.drop A)):=(by show Cv _ _ _;rw[show l.length-A=0 from by have:=z.o;omega];exact Cv.void z.o);clear d a X W U T S R zz r;go_wp2_with (at_builtin;refine i9 (by rfl) (.tmp 39) (.tmp 42) (by rfl) i.heap.size _ _ _ (by rfl) y.o _ (l.drop A) (by rfl) F.o (dE (P9 c (by omega)) f.o) (dG (P9 c (by omega)) f.o) t.o.size ?_;intro v5 w5 d a);have G:=b9 d;have K:=b9 (t.o.trans (g9 y.o a t.o.size));clear d a;go_ret2;exact W1 HR.o (Y8 G.o) u.o.size (a9 u.o K.o)
theorem QY(l:List Cl)(c:Cl)(b off cap:Nat)(w:d9)(hv:Cv w (.slice (some ⟨b,off,none⟩) l.length cap) l)(ho:O9 l=true)(hlc:l.length≤cap)(hcm:cap≤maxLen)(hk:fT l (x8 l c.k) c.k=false)(h16:l.length<16)(hce: ¬cap=x8 l c.k):
  Calls Tryz.prog 124 #[.slice (some ⟨b,off,none⟩) l.length cap,.agg #[.int .u64 c.k,.bool c.p.h,.int .u64 c.p.b,.bool c.c.h,.int .u64 c.c.b,.int .i64 c.n]] w (F1 (I7 l c) w):=by
 have HV:=b9 hv;have I:=b9 (B0 w c);have D:c6 (f8 w (w.alloc (Obj.cells #[.int .u64 c.k,.bool c.p.h,.int .u64 c.p.b,.bool c.c.h,.int .u64 c.c.b,.int .i64 c.n] 132))):=a8 _ _;have s:=b9 ho;obtain⟨A,x⟩:=c7 (x8 l c.k);have HA:=b9 x;have v:c6 (A≤l.length):=by show _≤_;rw[x];exact kK l c.k
 have H:c6 (fT l A c.k=false):=by show _=_;rw[x];exact hk
 have HR:c6 (I7 l c=(l.take A++([c]++l.drop A),0)):=by show _=_;unfold I7;rw[if_neg (by simp[ho]),if_neg (by simp[hk]),if_neg (by omega),x]
 have f:c6 ((l.length+1)*48≤140737488355328):=by show _≤_;omega
 have Q: ¬(16:Int)≤(l.length:Int):=by omega
 have P:(cap:Int)≤9223372036854775807:=by unfold maxLen at hcm;omega
 have N:(l.length:Int)≤(cap:Int):=by omega
 have Z:(A:Int)≤(l.length:Int):=by have:=v.o;omega
 have a0:(A:Int)≤(cap:Int):=by omega
 rw[←x]at hce;have G:c6 (¬cap=A):=hce;have O: ¬(cap:Int)=(A:Int):=by omega
 clear hv hk x ho h16 hlc hcm;go_in;go_wp2_with fail;refine(F3 (HV.o.below D.o)).mono ?_;rw[s.o];rintro e w1 ⟨rfl,r⟩;have C:=b9 (a9 D.o r);have B:=b9 (I.o.keep r);have R:=B.o.c0;clear r;go_wp2_with fail;refine(G8 (HV.o.below C.o) c.k).mono ?_;rw[V0 s.o,R5 s.o,←HA.o,H.o];rintro e i ⟨rfl,q⟩;have m:=b9 (a9 C.o q);have J:=b9 (B.o.keep q);clear R q;have u:c6 ((i.alloc (Obj.cells #[] 132)).ownsRow i.heap.size 132 6 (.slice (some ⟨i.heap.size,0,none⟩) 0 0) 0 []):=World.ownsRow_made i #[] 0 (Nat.le_refl _) (by simp[maxLen]) rfl;have y:c6 (Cv (i.alloc (Obj.cells #[] 132)) (.slice (some ⟨b,off,none⟩) A cap) (l.take A)):=(HV.o.below (a9 m.o (a8 _ _))).upto A v.o;go_upto_region 8 with (at_builtin;refine i9 (by rfl) (.tmp 27) (.tmp 30) (by rfl) i.heap.size _ _ _ (by rfl) u.o _ (l.take A) (by rfl) y.o (dE (V4 A) f.o) (dG (V4 A) f.o) (by rw[g8];omega) ?_;intro v3 M d a)
 have t:=b9 d;have g:=b9 ((a8 i _).trans (g9 u.o a (by rw[g8];omega)));clear d a u y;obtain⟨Y,X,W,U,T,S,zz⟩:=J.o.keep g.o;go_upto_region 9 with (at_builtin;refine i9 (by rfl) (.tmp 32) (.tmp 34) (by rfl) i.heap.size _ _ _ (by rfl) (t.o.alloc _) _ [c] (by rfl) (P5 M c) (dE (Q0 A c) f.o) (dG (Q0 A c) f.o) (by rw[g8];have:=g.o.size;omega) ?_;intro v4 L d a)
 have z:=b9 d;have j:c6 (f8 i L):=g.o.trans (((a8 M _).mono g.o.size).trans (g9 (t.o.alloc _) a (by rw[g8];have:=g.o.size;omega)));have E:c6 (Cv L (.slice (some ⟨b,off+A*6,none⟩) (l.length-A) (cap-A)) (l.drop A)):=(by show Cv _ _ _;have:=(HV.o.below (a9 m.o j.o)).from A v.o G.o;simpa[WideShapes.add_plain]using this);clear d a Y X W U T S zz t;go_wp2_with (at_builtin;refine i9 (by rfl) (.tmp 39) (.tmp 42) (by rfl) i.heap.size _ _ _ (by rfl) z.o _ (l.drop A) (by rfl) E.o (dE (P9 c (by omega)) f.o) (dG (P9 c (by omega)) f.o) j.o.size ?_;intro v5 w5 d a);have F:=b9 d;have K:=b9 (j.o.trans (g9 z.o a j.o.size));clear d a;go_ret2;exact W1 HR.o (Y8 F.o) m.o.size (a9 m.o K.o)
theorem VO(c:Cl)(w:d9):
  Calls Tryz.prog 124 #[.slice none 0 0,.agg #[.int .u64 c.k,.bool c.p.h,.int .u64 c.p.b,.bool c.c.h,.int .u64 c.c.b,.int .i64 c.n]] w (F1 (I7 [] c) w):=by
 have HV:c6 (Cv w (.slice none 0 0) []):=Cv.nil w;have F:=b9 (B0 w c);have C:c6 (f8 w (w.alloc (Obj.cells #[.int .u64 c.k,.bool c.p.h,.int .u64 c.p.b,.bool c.c.h,.int .u64 c.c.b,.int .i64 c.n] 132))):=a8 _ _;have HR:c6 (I7 [] c=([c],0)):=rfl;have g:c6 ((([]:List Cl).length+1)*48≤140737488355328):=by show _≤_;simp
 go_in;go_wp2_with fail;refine(F3 (HV.o.below C.o)).mono ?_;rw[show O9 []=true from rfl];rintro e T ⟨rfl,r⟩;have B:=b9 (a9 C.o r);have z:=b9 (F.o.keep r);have K:=z.o.c0;clear r;go_wp2_with fail;refine(G8 (HV.o.below B.o) c.k).mono ?_;rw[show I0 [] c.k=0 from rfl,show I1 [] c.k=false from rfl];rintro e m ⟨rfl,q⟩;have v:=b9 (a9 B.o q);have G:=b9 (z.o.keep q);clear K q;have t:c6 ((m.alloc (Obj.cells #[] 132)).ownsRow m.heap.size 132 6 (.slice (some ⟨m.heap.size,0,none⟩) 0 0) 0 []):=World.ownsRow_made m #[] 0 (Nat.le_refl _) (by simp[maxLen]) rfl;have x:c6 (Cv (m.alloc (Obj.cells #[] 132)) (.slice none 0 0) ([]:List Cl)):=(HV.o.below (a9 v.o (a8 _ _)));go_upto_region 8 with (at_builtin;refine i9 (by rfl) (.tmp 27) (.tmp 30) (by rfl) m.heap.size _ _ _ (by rfl) t.o _ ([]:List Cl) (by rfl) x.o (dE (V4 (l:=[]) 0) g.o) (dG (V4 (l:=[]) 0) g.o) (by rw[g8];omega) ?_;intro X I f d)
 have s:=b9 f;have j:=b9 ((a8 m _).trans (g9 t.o d (by rw[g8];omega)));clear f d t x;obtain⟨R,Q,P,O,N,M,zz⟩:=G.o.keep j.o;go_upto_region 9 with (at_builtin;refine i9 (by rfl) (.tmp 32) (.tmp 34) (by rfl) m.heap.size _ _ _ (by rfl) (s.o.alloc _) _ [c] (by rfl) (P5 I c) (dE (Q0 (l:=[]) 0 c) g.o) (dG (Q0 (l:=[]) 0 c) g.o) (by rw[g8];have:=j.o.size;omega) ?_;intro W J f d)
 have y:=b9 f;have u:=b9 (j.o.trans (((a8 I _).mono j.o.size).trans (g9 (s.o.alloc _) d (by rw[g8];have:=j.o.size;omega))));have D:c6 (Cv J (.slice none 0 0) ([]:List Cl)):=(⟨_,_,rfl,by simp,by simp only[maxLen];omega,by simp,fun i L=>by simp at L⟩);clear f d R Q P O N M zz s;go_wp2_with (at_builtin;refine i9 (by rfl) (.tmp 39) (.tmp 42) (by rfl) m.heap.size _ _ _ (by rfl) y.o _ ([]:List Cl) (by rfl) D.o (dE (P9 (l:=[]) (A:=0) (A2:=0) c (by omega)) g.o) (dG (P9 (l:=[]) (A:=0) (A2:=0) c (by omega)) g.o) u.o.size ?_;intro U S f d);have E:=b9 f;have H:=b9 (u.o.trans (g9 y.o d u.o.size));clear f d;go_ret2;exact W1 HR.o (Y8 (a:=[]) (b:=[c]) (c:=[]) E.o) v.o.size (a9 v.o H.o)
theorem JM(c:Cl)(w:d9)(p:Addr):
  Calls Tryz.prog 124 #[.slice (some p) 0 0,.agg #[.int .u64 c.k,.bool c.p.h,.int .u64 c.p.b,.bool c.c.h,.int .u64 c.c.b,.int .i64 c.n]] w (F1 (I7 [] c) w):=by
 have HV:c6 (Cv w (.slice (some p) 0 0) []):=PA w (some p);have F:=b9 (B0 w c);have C:c6 (f8 w (w.alloc (Obj.cells #[.int .u64 c.k,.bool c.p.h,.int .u64 c.p.b,.bool c.c.h,.int .u64 c.c.b,.int .i64 c.n] 132))):=a8 _ _;have HR:c6 (I7 [] c=([c],0)):=rfl;have g:c6 ((([]:List Cl).length+1)*48≤140737488355328):=by show _≤_;simp
 go_in;go_wp2_with fail;refine(F3 (HV.o.below C.o)).mono ?_;rw[show O9 []=true from rfl];rintro e T ⟨rfl,r⟩;have B:=b9 (a9 C.o r);have z:=b9 (F.o.keep r);have K:=z.o.c0;clear r;go_wp2_with fail;refine(G8 (HV.o.below B.o) c.k).mono ?_;rw[show I0 [] c.k=0 from rfl,show I1 [] c.k=false from rfl];rintro e m ⟨rfl,q⟩;have v:=b9 (a9 B.o q);have G:=b9 (z.o.keep q);clear K q;have t:c6 ((m.alloc (Obj.cells #[] 132)).ownsRow m.heap.size 132 6 (.slice (some ⟨m.heap.size,0,none⟩) 0 0) 0 []):=World.ownsRow_made m #[] 0 (Nat.le_refl _) (by simp[maxLen]) rfl;have x:c6 (Cv (m.alloc (Obj.cells #[] 132)) (.slice (some p) 0 0) ([]:List Cl)):=(HV.o.below (a9 v.o (a8 _ _)));go_upto_region 8 with (at_builtin;refine i9 (by rfl) (.tmp 27) (.tmp 30) (by rfl) m.heap.size _ _ _ (by rfl) t.o _ ([]:List Cl) (by rfl) x.o (dE (V4 (l:=[]) 0) g.o) (dG (V4 (l:=[]) 0) g.o) (by rw[g8];omega) ?_;intro X I f d)
 have s:=b9 f;have j:=b9 ((a8 m _).trans (g9 t.o d (by rw[g8];omega)));clear f d t x;obtain⟨R,Q,P,O,N,M,zz⟩:=G.o.keep j.o;go_upto_region 9 with (at_builtin;refine i9 (by rfl) (.tmp 32) (.tmp 34) (by rfl) m.heap.size _ _ _ (by rfl) (s.o.alloc _) _ [c] (by rfl) (P5 I c) (dE (Q0 (l:=[]) 0 c) g.o) (dG (Q0 (l:=[]) 0 c) g.o) (by rw[g8];have:=j.o.size;omega) ?_;intro W J f d)
 have y:=b9 f;have u:=b9 (j.o.trans (((a8 I _).mono j.o.size).trans (g9 (s.o.alloc _) d (by rw[g8];have:=j.o.size;omega))));have D:c6 (Cv J (.slice (some p) 0 0) ([]:List Cl)):=(⟨_,_,rfl,by simp,by simp only[maxLen];omega,by simp,fun i L=>by simp at L⟩);clear f d R Q P O N M zz s;go_wp2_with (at_builtin;refine i9 (by rfl) (.tmp 39) (.tmp 42) (by rfl) m.heap.size _ _ _ (by rfl) y.o _ ([]:List Cl) (by rfl) D.o (dE (P9 (l:=[]) (A:=0) (A2:=0) c (by omega)) g.o) (dG (P9 (l:=[]) (A:=0) (A2:=0) c (by omega)) g.o) u.o.size ?_;intro U S f d);have E:=b9 f;have H:=b9 (u.o.trans (g9 y.o d u.o.size));clear f d;go_ret2;exact W1 HR.o (Y8 (a:=[]) (b:=[c]) (c:=[]) E.o) v.o.size (a9 v.o H.o)
theorem JL(c:Cl)(w:d9)(p:Addr)(cap:Nat)(hcm:cap≤maxLen)(hce: ¬cap=0):
  Calls Tryz.prog 124 #[.slice (some p) 0 cap,.agg #[.int .u64 c.k,.bool c.p.h,.int .u64 c.p.b,.bool c.c.h,.int .u64 c.c.b,.int .i64 c.n]] w (F1 (I7 [] c) w):=by
 have HV:c6 (Cv w (.slice (some p) 0 cap) []):=⟨some p,cap,rfl,by simp,hcm,by simp,fun i D=>by simp at D⟩;have H:=b9 (B0 w c);have C:c6 (f8 w (w.alloc (Obj.cells #[.int .u64 c.k,.bool c.p.h,.int .u64 c.p.b,.bool c.c.h,.int .u64 c.c.b,.int .i64 c.n] 132))):=a8 _ _;have HR:c6 (I7 [] c=([c],0)):=rfl;have g:c6 ((([]:List Cl).length+1)*48≤140737488355328):=by show _≤_;simp
 have L:(cap:Int)≤9223372036854775807:=by unfold maxLen at hcm;omega
 have W:(0:Int)≤(cap:Int):=by omega
 have M: ¬(cap:Int)=0:=by omega
 have G:=b9 hcm;clear hcm;go_in;go_wp2_with fail;refine(F3 (HV.o.below C.o)).mono ?_;rw[show O9 []=true from rfl];rintro e Y ⟨rfl,r⟩;have B:=b9 (a9 C.o r);have z:=b9 (H.o.keep r);have O:=z.o.c0;clear r;go_wp2_with fail;refine(G8 (HV.o.below B.o) c.k).mono ?_;rw[show I0 [] c.k=0 from rfl,show I1 [] c.k=false from rfl];rintro e m ⟨rfl,q⟩;have v:=b9 (a9 B.o q);have I:=b9 (z.o.keep q);clear O q;have t:c6 ((m.alloc (Obj.cells #[] 132)).ownsRow m.heap.size 132 6 (.slice (some ⟨m.heap.size,0,none⟩) 0 0) 0 []):=World.ownsRow_made m #[] 0 (Nat.le_refl _) (by simp[maxLen]) rfl;have x:c6 (Cv (m.alloc (Obj.cells #[] 132)) (.slice (some p) 0 cap) ([]:List Cl)):=(HV.o.below (a9 v.o (a8 _ _)));go_upto_region 8 with (at_builtin;refine i9 (by rfl) (.tmp 27) (.tmp 30) (by rfl) m.heap.size _ _ _ (by rfl) t.o _ ([]:List Cl) (by rfl) x.o (dE (V4 (l:=[]) 0) g.o) (dG (V4 (l:=[]) 0) g.o) (by rw[g8];omega) ?_;intro v3 K f d)
 have s:=b9 f;have j:=b9 ((a8 m _).trans (g9 t.o d (by rw[g8];omega)));clear f d t x;obtain⟨U,T,S,R,Q,P,zz⟩:=I.o.keep j.o;go_upto_region 9 with (at_builtin;refine i9 (by rfl) (.tmp 32) (.tmp 34) (by rfl) m.heap.size _ _ _ (by rfl) (s.o.alloc _) _ [c] (by rfl) (P5 K c) (dE (Q0 (l:=[]) 0 c) g.o) (dG (Q0 (l:=[]) 0 c) g.o) (by rw[g8];have:=j.o.size;omega) ?_;intro v4 N f d)
 have y:=b9 f;have u:=b9 (j.o.trans (((a8 K _).mono j.o.size).trans (g9 (s.o.alloc _) d (by rw[g8];have:=j.o.size;omega))));have E:c6 (Cv N (.slice (some p) 0 cap) ([]:List Cl)):=(⟨_,_,rfl,by simp,G.o,by simp,fun i D=>by simp at D⟩);clear f d U T S R Q P zz s;go_wp2_with (at_builtin;refine i9 (by rfl) (.tmp 39) (.tmp 42) (by rfl) m.heap.size _ _ _ (by rfl) y.o _ ([]:List Cl) (by rfl) E.o (dE (P9 (l:=[]) (A:=0) (A2:=0) c (by omega)) g.o) (dG (P9 (l:=[]) (A:=0) (A2:=0) c (by omega)) g.o) u.o.size ?_;intro Z X f d);have F:=b9 f;have J:=b9 (u.o.trans (g9 y.o d u.o.size));clear f d;go_ret2;exact W1 HR.o (Y8 (a:=[]) (b:=[c]) (c:=[]) F.o) v.o.size (a9 v.o J.o)
theorem BR{w:d9}{v:Value}{l:List Cl}(h:Cv w v l)(c:Cl)(hsz:(l.length+1)*48≤140737488355328):
  Calls Tryz.prog 124 #[v,.agg #[.int .u64 c.k,.bool c.p.h,.int .u64 c.p.b,.bool c.c.h,.int .u64 c.c.b,.int .i64 c.n]] w (F1 (I7 l c) w):=by
 have j:=h;obtain⟨t,a,rfl,i,g,q,_⟩:=h
 cases ho:O9 l
 ·exact VP l c _ w j ho
 ·cases hk:fT l (x8 l c.k) c.k
  ·by_cases r:16≤l.length
   ·exact RC l c t a w j ho hk r
   ·by_cases s:0<l.length
    ·rcases B2 j with ⟨o,_⟩|⟨b,f,cap',e,_⟩
     ·rw[o]at s;simp at s
     ·cases e
      by_cases d:a=x8 l c.k
      ·exact QZ l c b f a w j ho i g hk (by omega) d
      ·exact QY l c b f a w j ho i g hk (by omega) d
    ·obtain rfl:l=[]:=List.eq_nil_of_length_eq_zero (by omega)
     cases t with
     |none=>obtain rfl:=q rfl;exact VO c w
     |some p=>
      by_cases d:a=0
      ·subst d;exact JM c w p
      ·exact JL c w p a g d
  ·have m:=zD hk;rcases B2 j with ⟨o,_⟩|⟨b,f,cap',e,_⟩
   ·rw[o]at m;simp at m
   ·cases e
    by_cases d:a=x8 l c.k+1
    ·exact BU l c b f a w j ho i g hk hsz d
    ·exact BS l c b f a w j ho i g hk hsz d
end Go.Proofs.YtfhoilcbhmeofaaGreat
