/- The reference's Begin, where it writes: what its loops keep. -/
import Derived.Test.YtfhoilcbhmeofaaGreatB26
set_option maxRecDepth 100000
set_option maxHeartbeats 16000000
namespace Go.Proofs.YtfhoilcbhmeofaaGreat
open Go.RowKit
section
structure Img(lo hi:Nat)(w:d9)(g cap:Nat)(bl:List f7):Prop where
 gr:Gr (fun x=>lo≤x∧x<hi) w g cap bl
 l1:lo≤g
 l2:g<hi
section

variable{A:n9}{w:d9}{sv dv:Value}{k:Int}{P:Bo}{S:Dk}{m:Mk}{Ls:List (List Cl)}

end
end
theorem fG{P:Bo}{S:Dk}{Ls:List (List Cl)}(h:C8 P S 6=some Ls){j:Nat}(hj:j<6):gP P S 7 (j+1)=B3 Ls j:=by
 unfold gP;rw[if_pos (by omega),(zY h j hj).2,show((j+1:Nat):Int)=1+(j:Int) by omega]
theorem Ft{P:Bo}{S:Dk}{Ls:List (List Cl)}(h:C8 P S 6=some Ls)(hp:MM Ls)(j:Nat):(gP P S 7 j).length≤16:=by
 by_cases a:1≤j∧j<7
 ·obtain⟨i,rfl⟩: ∃i,j=i+1:=⟨j-1,by omega⟩;rw[fG h (by omega)];exact hp.2.2 i (by omega)
 ·unfold gP;rw[if_neg a];simp
theorem ZO{P:Bo}{S:Dk}{Ls:List (List Cl)}(h:C8 P S 6=some Ls):fZ (gP P S 7) 6=Ls.flatten:=by
 have c:=T4 h
 have e: ∀n,n≤6→fZ (gP P S 7) n=(Ls.take n).flatten:=by
  intro n
  induction n with
  |zero=>intro _;rfl
  |succ n a=>
   intro b;unfold fZ;rw[a (by omega),fG h (by omega),oK (by omega)]
 rw[e 6 (Nat.le_refl _),List.take_of_length_le (by omega)]
theorem QP(p q:Nat→Bool): ∀(n i:Nat),(∀j,i≤j→j<i+n→p j=q (j+1))→dH q (i+1) n=(dH p i n).map (· +1):=by
 intro n
 induction n with
 |zero=>intro i _;rfl
 |succ n a=>
  intro i h;unfold dH;rw[←h i (Nat.le_refl _) (by omega)]
  split
  ·rfl
  ·exact a (i+1) (fun j c b=>h j (by omega) (by omega))
theorem WA{P:Bo}{S:Dk}{Ls:List (List Cl)}(h:C8 P S 6=some Ls)(k:Nat)(m:Int):yC (gP P S 7) k m=G7 Ls k m:=by
 have e:Gb (gP P S 7) k=(lO Ls k).map (· +1):=by
  unfold Gb lO;exact QP _ _ 6 0 (fun j _ c=>by rw[fG h (by omega)])
 unfold yC G7;rw[e]
 cases hs:lO Ls k with
 |none=>rfl
 |some i=>
  have b:i<6:=by
   unfold lO at hs
   have q: ∀(n i0 r:Nat) (p:Nat→Bool),dH p i0 n=some r→r<i0+n:=by
    intro n
    induction n with
    |zero=>intro i0 r p h;cases h
    |succ n a=>
     intro i0 r p h;unfold dH at h
     split at h
     ·cases h;omega
     ·have:=a (i0+1) r p h;omega
   have:=q 6 0 i _ hs;omega
  simp only[Option.map_some];unfold dC;rw[fG h b]
theorem Am{l d d':List Cl}(hk:l.Pairwise (fun a b=>a.k≠b.k))(h:cG l d)(h':cG l d'):d=d':=by
 have m:d.Pairwise (fun a b=>a.k<b.k):=by
  have a:=(h.1.pairwise_iff (fun h=>Ne.symm h)).2 hk
  exact List.pairwise_iff_getElem.2 fun i j f e c=>by
   have o:=List.pairwise_iff_getElem.1 a i j f e c;have n:=List.pairwise_iff_getElem.1 h.2 i j f e c;omega
 have g:d'.Pairwise (fun a b=>a.k<b.k):=by
  have a:=(h'.1.pairwise_iff (fun h=>Ne.symm h)).2 hk
  exact List.pairwise_iff_getElem.2 fun i j f e c=>by
   have o:=List.pairwise_iff_getElem.1 a i j f e c;have n:=List.pairwise_iff_getElem.1 h'.2 i j f e c;omega
 exact(h.1.trans h'.1.symm).eq_of_pairwise (fun a b s r q p=>by omega) m g
def Cw(w:d9)(v:Value)(d:List Cl):Prop:= ∃ao cap,v= .slice ao d.length cap∧d.length≤cap∧cap≤maxLen∧(d≠[]→ ∃g,ao=some ⟨g,0,none⟩∧g<w.heap.size∧Mc w g d)
theorem Jg{w:d9}{B:Nat}{v:Value}{d:List Cl}(h:w.ownsRow B 132 6 v d.length (l9 d)):Cw w v d:=by
 have k:=h;rcases h.2 with ⟨rfl,o⟩|⟨g,e,cur,rfl,z,l,a,c,_⟩
 ·obtain rfl:=List.eq_nil_of_length_eq_zero o;exact⟨none,0,rfl,Nat.le_refl _,by simp[maxLen],fun q=>absurd rfl q⟩
 ·refine⟨_,e,rfl,a,c,fun _=>⟨g,rfl,(Array.getElem?_eq_some_iff.1 l).1,fun i j f y=>?_⟩⟩;obtain⟨n,m⟩:=P2 k f;refine⟨?_,m _⟩;obtain⟨x,u,t,s,r,p⟩:=n;have b:j=0∨j=1∨j=2∨j=3∨j=4∨j=5:=by omega
  rcases b with rfl|rfl|rfl|rfl|rfl|rfl
  ·simpa[W6]using x
  ·simpa[W6]using u
  ·simpa[W6]using t
  ·simpa[W6]using s
  ·simpa[W6]using r
  ·simpa[W6]using p
theorem kV{w:d9}{a b:Value}{d:List Cl}(ha:Cw w a d)(hb:Cw w b d):Calls Tryz.prog 59 #[a,b] w fun e w'=>e= .returned (.bool true)∧f8 w w':=by
 have HB:=b9 hb;obtain⟨Z,ac,rfl,W,F,E⟩:=ha;obtain⟨bo,bc,rfl,U,T,D⟩:=hb;have A:=b9 E;have z:=b9 D;obtain⟨n,v⟩:=c7 d.length;rw[←v];have HN:=b9 v;have X:(n:Int)≤9223372036854775807:=by simp only[maxLen]at F;omega
 clear W F E U T D v HB;go_in;go_wp2_with fail;go_loopw [5] (fun iv wr=> ∃i:Nat,iv= .int .i64 i∧i≤n∧f8 w wr) (fun iv _=>n-(intOf iv).toNat)
 case atStart=>exact⟨0,rfl,by omega,Below.refl _ _⟩
 case round=>
  obtain⟨i,rfl,Y,C⟩:=hrel;have HB:=b9 C;clear C;by_cases x:i<n;rotate_left
  ·have u: ¬(i:Int)<(n:Int):=by omega
   go_wp2_with fail;go_ret;exact⟨rfl,HB.o⟩
  ·have u:(i:Int)<(n:Int):=by omega
   have j:i<d.length:=by have:=HN.o;omega
   have l:d≠[]:=fun e=>by rw[e]at j;simp at j
   obtain⟨g,rfl,t,s⟩:=A.o l;obtain⟨r,rfl,q,m⟩:=z.o l;obtain⟨c,B⟩:=c7 (d[i]);have HG:=mP (mQ s HB.o t) j;have HR:=mP (mQ m HB.o q) j;rw[←B]at HG HR;have R: ∀wx,f8 wr wx→wx.cell? ⟨g,i*6,none⟩=some (.int .u64 c.k):=fun wx h=>by rw[h.cell (p:=⟨g,i*6,none⟩) (c8 HG.1)];exact HG.1
   have Q: ∀wx,f8 wr wx→wx.cell? ⟨g,i*6+1,none⟩=some (.bool c.p.h):=fun wx h=>by rw[h.cell (p:=⟨g,i*6+1,none⟩) (c8 HG.2.1)];exact HG.2.1
   have P: ∀wx,f8 wr wx→wx.cell? ⟨g,i*6+2,none⟩=some (.int .u64 c.p.b):=fun wx h=>by rw[h.cell (p:=⟨g,i*6+2,none⟩) (c8 HG.2.2.1)];exact HG.2.2.1
   have O: ∀wx,f8 wr wx→wx.cell? ⟨g,i*6+3,none⟩=some (.bool c.c.h):=fun wx h=>by rw[h.cell (p:=⟨g,i*6+3,none⟩) (c8 HG.2.2.2.1)];exact HG.2.2.2.1
   have N: ∀wx,f8 wr wx→wx.cell? ⟨g,i*6+4,none⟩=some (.int .u64 c.c.b):=fun wx h=>by rw[h.cell (p:=⟨g,i*6+4,none⟩) (c8 HG.2.2.2.2.1)];exact HG.2.2.2.2.1
   have M: ∀wx,f8 wr wx→wx.cell? ⟨g,i*6+5,none⟩=some (.int .i64 c.n):=fun wx h=>by rw[h.cell (p:=⟨g,i*6+5,none⟩) (c8 HG.2.2.2.2.2)];exact HG.2.2.2.2.2
   have L: ∀wx,f8 wr wx→wx.cell? ⟨r,i*6,none⟩=some (.int .u64 c.k):=fun wx h=>by rw[h.cell (p:=⟨r,i*6,none⟩) (c8 HR.1)];exact HR.1
   have K: ∀wx,f8 wr wx→wx.cell? ⟨r,i*6+1,none⟩=some (.bool c.p.h):=fun wx h=>by rw[h.cell (p:=⟨r,i*6+1,none⟩) (c8 HR.2.1)];exact HR.2.1
   have J: ∀wx,f8 wr wx→wx.cell? ⟨r,i*6+2,none⟩=some (.int .u64 c.p.b):=fun wx h=>by rw[h.cell (p:=⟨r,i*6+2,none⟩) (c8 HR.2.2.1)];exact HR.2.2.1
   have I: ∀wx,f8 wr wx→wx.cell? ⟨r,i*6+3,none⟩=some (.bool c.c.h):=fun wx h=>by rw[h.cell (p:=⟨r,i*6+3,none⟩) (c8 HR.2.2.2.1)];exact HR.2.2.2.1
   have H: ∀wx,f8 wr wx→wx.cell? ⟨r,i*6+4,none⟩=some (.int .u64 c.c.b):=fun wx h=>by rw[h.cell (p:=⟨r,i*6+4,none⟩) (c8 HR.2.2.2.2.1)];exact HR.2.2.2.2.1
   have G: ∀wx,f8 wr wx→wx.cell? ⟨r,i*6+5,none⟩=some (.int .i64 c.n):=fun wx h=>by rw[h.cell (p:=⟨r,i*6+5,none⟩) (c8 HR.2.2.2.2.2)];exact HR.2.2.2.2.2
   have qv:=DP c;have y:=sJ;clear HG HR s m t q B l j;go_upto_region 6 with fail
   refine wp_region_noPanic ?_;refine wp_region_held_drew (S:=fun wx=>f8 wr wx) (by kernel_rfl) ?_ fun f=>?_
   ·exact(Below.refl _ _).drew
   refine g6 0 17 rfl f ?_;refine g6 1 18 rfl f ?_;refine g6 2 19 rfl f ?_;refine g6 3 20 rfl f ?_;refine g6 4 21 rfl f ?_;refine g6 5 22 rfl f ?_;refine g6 6 23 rfl f ?_;refine g6 7 24 rfl f ?_;refine g6 8 25 rfl f ?_;refine wpAnyH_done (by kernel_rfl) ?_ _;refine NoPanic.normal ?_;clear R Q P O N M L K J I H G qv y;go_wp2_with fail;go_roundw
   case rel=>exact⟨i+1,by go_num,x,a9 HB.o f⟩
   case measure=>simp[intOf];omega
theorem JB(w:d9):Calls Tryz.prog 30 #[.pointer none] w fun e w'=>e= .returned (.tuple #[.slice none 0 0,.int .i64 2])∧f8 w w':=by
 go_in;go_wp2_with fail;refine(wN _).mono ?_;rintro e b ⟨rfl,a⟩;have HB:=b9 a;clear a;go_wp2_with fail;go_ret2;exact⟨rfl,a9 HB.o (a8 _ _)⟩
theorem IZ(w:d9)(key:Nat)(n:Int):Calls Tryz.prog 28 #[.pointer none,.int .u64 key,.int .i64 n] w fun e w'=>e= .returned (.tuple #[.agg #[.bool false,.int .u64 0],.int .i64 2])∧f8 w w':=by
 have HV:=b9 (xA w);have c:c6 (f8 w (w.alloc (Obj.cells #[.bool false,.int .u64 0] 55))):=a8 _ _;go_in;go_upto_region 1 with fail
 generalize i:w.heap.size=R at HV⊢;have HR:=b9 i;clear i;generalize w.alloc (Obj.cells #[.bool false,.int .u64 0] 55)=w0 at HV c⊢;go_wp2_with fail;refine(wN _).mono ?_;rintro e d ⟨rfl,f⟩;have g:=b9 (HV.o.below f);have h:=b9 (a9 c.o f);clear f HV;go_upto_region 2 with fail
 have a:c6 _:=g.o.below (a8 d (Obj.cells #[.slice none 0 0,.slice none 0 0,.slice none 0 0,.slice none 0 0,.slice none 0 0,.slice none 0 0] 84));have b:c6 _:=a9 h.o (a8 d (Obj.cells #[.slice none 0 0,.slice none 0 0,.slice none 0 0,.slice none 0 0,.slice none 0 0,.slice none 0 0] 84));generalize d.alloc (Obj.cells #[.slice none 0 0,.slice none 0 0,.slice none 0 0,.slice none 0 0,.slice none 0 0,.slice none 0 0] 84)=w2 at a b⊢;obtain⟨p,m,rz⟩:=a.o;have l:=rz 0;have k:=rz 1;clear rz;go_wp2_with fail
 (try simp only[Exit.inBlock,Exit.then])
 refine bodyPost_ret (v:= .tuple #[.agg #[.bool false,.int .u64 0],.int .i64 2]) (by rw[results_cell_tmp rfl];go_simp) rfl ?_;have j:w.heap.size≤R:=by rw[HR.o];exact Nat.le_refl _
 exact⟨rfl,(b.o.setCell j _).setCell j _⟩
theorem Dx{l r:List Cl}(hl:(m9 l).2=0)(hr:(m9 r).2=0)(ol: ∀c∈l,c.okB)(or: ∀c∈r,c.okB)(h:(m9 l).1=(m9 r).1):l=r:=by
 have a:=kI hl ol;have b:=kI hr or;rw[h,b]at a;exact(congrArg Prod.fst a).symm
theorem UK{a b:Nat→List Cl}{Ls Ns:List (List Cl)}(ha: ∀j,j<6→a (j+1)=B3 Ls j)(hb: ∀j,j<6→b (j+1)=B3 Ns j)(pa:MM Ls)(pb:MM Ns)
  (za: ∀j,j<6→(m9 (B3 Ls j)).2=0) (zb: ∀j,j<6→(m9 (B3 Ns j)).2=0): ∀i,i≤6→tO a b i=aH Ls Ns i:=by
 intro i
 induction i with
 |zero=>intro _;rfl
 |succ i d=>
  intro f;have e:=d (by omega);have c:i<6:=by omega
  by_cases q:B3 Ns i=B3 Ls i
  ·rw[AO (by rw[ha i c,hb i c,q]),iF q,e]
  ·rw[uJ (by rw[ha i c,hb i c];exact fun x=>q (Dx (za i c) (zb i c) (pa.2.1 i c) (pb.2.1 i c) x).symm),jE q,e,hb i c];rw[show((i+1:Nat):Int)=1+(i:Int) by omega]
section
theorem mK(b a:Int):Q7 b a=B6 b a:=by unfold Q7 B6;simp only[Bool.and_assoc]
def Eu(A:n9)(w:d9)(sv dv:Value)(k:Int)(P:Bo)(S:Dk)(c:Int)(e:Ending)(w':d9):Prop:=
 e= .returned (.int .i64 c)∧(∃S',RT A w' sv dv k P S'∧F0 8 S S')∧Ch A w w'
section

variable{A:n9}{w:d9}{sv dv kv:Value}{k:Int}{P:Bo}{S:Dk}{m:Mk}{ks:f7}

theorem KF(b a:Int):Calls Tryz.prog 50 #[.pointer none,.int .i64 b,.int .i64 a,kv] w fun e w'=>e= .returned (.int .i64 2)∧w'=w:=by
 go_in;go_wp2_with fail;refine B4 bR ?_;go_wp2_with fail;go_ret;exact⟨rfl,rfl⟩
theorem CP(h:RT A w sv dv k P S)(hs:i6 P S=true)(b a:Int):Calls Tryz.prog 50 #[sv,.int .i64 b,.int .i64 a,kv] w fun e w'=>e= .returned (.int .i64 80)∧RT A w' sv dv k (J6 P) S∧Ch A w w':=by
 obtain⟨sp,c,_,_⟩:=h.ptr;subst c;have HT:=b9 h;have HS:c6 (i6 P S=true):=hs;clear h hs;go_in;go_wp2_with fail;refine(aD HT.o HS.o).mono ?_;rintro e g ⟨rfl,f,d⟩;have j:=b9 f;have i:c6 (Ch A w g):=d;clear f d;go_wp2_with fail;go_ret;exact⟨rfl,j.o,i.o⟩
theorem KH(h:RT A w sv dv k P S)(hs:i6 P S=false)(hk:Kv w kv ks)(b a:Int)(hc:B6 b a=false∨64<ks.length∨K1 ks=false):
  Calls Tryz.prog 50 #[sv,.int .i64 b,.int .i64 a,kv] w (Eu A w sv dv k P S 1):=by
 obtain⟨sp,m,_,_⟩:=h.ptr;subst m;have HT:=b9 h;have HS:c6 (i6 P S=false):=hs;have HK:c6 (Kv w kv ks):=hk;obtain⟨t,s,c,_,n⟩:=O7 hk;obtain⟨g,d⟩:=c7 ks.length;rw[←d]at c hc;subst c;obtain⟨N,j⟩:=c7 (Q7 b a);rw[←mK,←j]at hc;have HN:c6 (N=Q7 b a):=j;obtain⟨R,i⟩:=c7 (K1 ks);rw[←i]at hc;have HR:c6 (R=K1 ks):=i;clear h hs hk j i d n;go_in;go_wp2_with fail;refine B4 (X9 HT.o HS.o) ?_;go_wp2_with fail;refine(Z5 b a _).mono ?_;rw[←HN.o];rintro e r ⟨rfl,l⟩;replace l:=l.symm;subst l
 cases N
 ·clear hc;go_wp2_with fail;go_ret;exact⟨rfl,⟨S,HT.o,F0.refl _⟩,Ch.refl _ _⟩
 ·by_cases p:64<g
  ·have f:(g:Int)>64:=by omega
   clear hc;go_wp2_with fail;go_ret;exact⟨rfl,⟨S,HT.o,F0.refl _⟩,Ch.refl _ _⟩
  ·have f: ¬(g:Int)>64:=by omega
   obtain rfl:R=false:=by simpa[p]using hc
   clear hc;go_wp2_with fail;refine(U6 HK.o).mono ?_;rw[←HR.o];rintro e r ⟨rfl,q⟩;have HB:=b9 q;clear q;go_wp2_with fail;go_ret;exact⟨rfl,⟨S,HT.o.below HB.o,F0.refl _⟩,Ch.of_below HB.o⟩
end
end
section
open Ieee Go.RowKit

attribute [local go_sem] O8
end
section
open Ieee Go.RowKit

attribute [local go_sem] O8
structure IB(w:d9)(b:Nat)(f:Int):Prop where
 c:w.cell? ⟨b,0,none⟩=some (.int .i64 f)
 z:w.frozen? ⟨b,0,none⟩=false
end
section
open Go.ChangeShapes Go.WideShapes Go.ChangeAt Go.RowKit

section

variable{H:Type}{enc:TypeId × Value→H}{W:d9}{sp:Nat→Bool}{held:Bool}{base:Nat}

theorem sZ{t:TypeId}(ht:Tryz.prog.underlying t=some (.int .i64)){n:Nat}{v:Value}{x:DataW H × List MemPlace}(h:DataW.trod enc Tryz.prog W base sp held n t [v]=some x): ∃a:Int,v= .int .i64 a∧(-9223372036854775808≤a∧a<9223372036854775808):=by
 cases n with
 |zero=>simp[DataW.trod]at h
 |succ n=>
  simp only[DataW.trod,ht]at h
  cases v<;>simp at h
  rename_i k a
  obtain⟨⟨rfl,b⟩,_⟩:=h;exact⟨a,rfl,oH b⟩
end
end
section
open Ieee Go.RowKit

attribute [local go_sem] O8
end
section
open Ieee Go.RowKit

structure SB(w:d9)(b:Nat)(x y:Value):Prop where
 c0:w.cell? ⟨b,0,none⟩=some x
 c1:w.cell? ⟨b,1,none⟩=some y
end

section
open Ieee Go.RowKit

theorem xT{ao:Option Addr}{ca:Nat}{l:List Pr}{w:d9}(hl:l.length≤maxLen)(ha:Ql w ao l):
  Calls Tryz.prog 119 #[.slice ao l.length ca] w fun e w'=>e= .returned (.bool (cW l))∧f8 w w':=by
 have F:(l.length:Int)≤9223372036854775807:=by simp only[maxLen]at hl;omega
 have HA:c6 (Ql w ao l):=ha;clear ha hl;go_in;go_wp2_with fail;go_loopw [3] (fun iv wr=>Sd w l iv wr) (fun iv _=>l.length-(intOf iv).toNat)
 case atStart=>exact⟨0,Nat.zero_le _,rfl,fun j p=>by omega,I5 _⟩
 case round=>
  obtain⟨i,I,rfl,c,t⟩:=hrel;have HG:=b9 c;have HB:=b9 t;clear c t;by_cases a:i<l.length
  ·obtain⟨b,D,rfl,A,m,z⟩:=HA.o.below HB.o i a;obtain⟨o,f⟩:=c7 (l[i]);rw[←f]at A m z;have HE:c6 (o=l[i]):=f;clear f;have s:(i:Int)<(l.length:Int):=by omega
   cases hh:o.v.h
   ·have HT:c6 (cW l=false):=AX a (by rw[←HE.o];exact hh);rw[hh]at m;clear hh;go_wp2_with fail;go_quiet (fail);go_wp2_with fail;go_ret;exact⟨Q4 HT.o.symm,a9 HB.o (d8 _ _)⟩
   ·have HH:c6 (o.v.h=true):=hh;rw[hh]at m;clear hh;by_cases B:i=0
    ·subst B;simp only[Nat.zero_mul,Nat.add_zero]at A m z;have R': ∀n,Sd w l (.int .i64 (((0:Nat):Int)+1)) (wr.drewN n):=fun n=>pZ a HG.o (vP a HE.o HH.o) HB.o (d8 _ _);go_wp2_with fail;go_quiet (fail);go_wp2_with fail;go_roundw
     case rel=>exact R' _
     case measure=>simp[intOf];omega
    ·obtain⟨J,off2,C,y,x,u⟩:=HA.o.below HB.o (i-1) (by omega)
     cases C
     obtain⟨q,d⟩:=c7 (l[i-1]);rw[←d]at y x u;have HQ:c6 (q=l[i-1]):=d;clear d x u;have H:(0:Int)<(i:Int):=by omega
     obtain⟨j,p⟩: ∃j,i=j+1:=⟨i-1,by omega⟩;subst p;simp only[Nat.add_sub_cancel]at y;have E:IntKind.i64.wrap (j:Int)=j:=qO (by omega) (by omega);have G:j<l.length:=by omega
     by_cases g:q.k<o.k
     ·have R': ∀n,Sd w l (.int .i64 (((j+1:Nat):Int)+1)) (wr.drewN n):=fun n=>pZ a HG.o (vQ a HE.o HQ.o HH.o g) HB.o (d8 _ _);have r: ¬((o.k:Int)≤(q.k:Int)):=by omega
      clear g;go_wp2_with fail;go_quiet (fail);go_wp2_with fail;go_roundw
      case rel=>exact R' _
      case measure=>simp[intOf];omega
     ·have HT:c6 (cW l=false):=uN a (by omega) (by rw[←HE.o,←HQ.o];exact g);have r:(o.k:Int)≤(q.k:Int):=by omega
      clear g;go_wp2_with fail;go_quiet (fail);go_wp2_with fail;go_ret;exact⟨Q4 HT.o.symm,a9 HB.o (d8 _ _)⟩
  ·have HT:c6 (cW l=true):=AY fun j p=>HG.o j (by omega);have s: ¬((i:Int)<(l.length:Int)):=by omega
   go_wp2_with fail;go_ret;exact⟨Q4 HT.o.symm,HB.o⟩
end
section
section

variable{A:n9}{w:d9}{sv dv kv:Value}{k:Int}{P:Bo}{S:Dk}{m:Mk}{ks:f7}

theorem VN(b a:Int):Calls Tryz.prog 51 #[.pointer none,.int .i64 b,.int .i64 a,kv] w fun e w'=>e= .returned (.int .i64 2)∧w'=w:=by
 go_in;go_wp2_with fail;refine B4 bR ?_;go_wp2_with fail;go_ret;exact⟨rfl,rfl⟩
theorem QU(h:RT A w sv dv k P S)(hs:i6 P S=true)(b a:Int):Calls Tryz.prog 51 #[sv,.int .i64 b,.int .i64 a,kv] w fun e w'=>e= .returned (.int .i64 80)∧RT A w' sv dv k (J6 P) S∧Ch A w w':=by
 obtain⟨sp,c,_,_⟩:=h.ptr;subst c;have HT:=b9 h;have HS:c6 (i6 P S=true):=hs;clear h hs;go_in;go_wp2_with fail;refine(aD HT.o HS.o).mono ?_;rintro e g ⟨rfl,f,d⟩;have j:=b9 f;have i:c6 (Ch A w g):=d;clear f d;go_wp2_with fail;go_ret;exact⟨rfl,j.o,i.o⟩
end
end
section
theorem rD{p q:Nat→Bool}: ∀(n s:Nat),(∀j,s≤j→j<s+n→q (j+1)=p j)→dH q (s+1) n=(dH p s n).map (· +1)
 |0,s,_=>rfl
 |n+1,s,h=>by
  rw[dH,dH,h s (Nat.le_refl _) (by omega)];by_cases c:p s=true
  ·rw[if_pos c,if_pos c];rfl
  ·rw[if_neg c,if_neg c];exact rD n (s+1) (fun j h1 h2=>h j (by omega) (by omega))
theorem NI{p:Nat→Bool}: ∀{n s:Nat},dH p s n=none→ ∀j,s≤j→j<s+n→p j=false
 |0,s,_,j,h1,h2=>by omega
 |n+1,s,h,j,h1,h2=>by
  rw[dH]at h;by_cases c:p s=true
  ·rw[if_pos c]at h;cases h
  ·rw[if_neg c]at h;by_cases q:j=s
   ·subst q;simpa using c
   ·exact NI h j (by omega) (by omega)
section

variable{g:Nat→List Cl}{Ls:List (List Cl)}{k i:Nat}{c:Cl}

theorem PI(hg: ∀j,j<6→g (j+1)=B3 Ls j):Gb g k=(lO Ls k).map (· +1):=rD 6 0 (fun j _ h=>by simp only[hg j (by omega)])
theorem uT(hg: ∀j,j<6→g (j+1)=B3 Ls j):VS g=(eR Ls).map (· +1):=rD 6 0 (fun j _ h=>by simp only[hg j (by omega)])
theorem RX(hg: ∀j,j<6→g (j+1)=B3 Ls j)(h:M4 Ls k=none):KN g k=0:=by
 unfold KN Bh;rw[PI hg,uT hg];unfold M4 at h
 split at h
 ·cases h
 ·rename_i b
  split at h
  ·cases h
  ·rename_i a
   rw[b,a];rfl
theorem RW(hg: ∀j,j<6→g (j+1)=B3 Ls j)(h:M4 Ls k=some (i,c)):KN g k=i+1:=by
 unfold KN Bh;rw[PI hg,uT hg];unfold M4 at h
 split at h
 ·rename_i a
  cases h
  rw[a];rfl
 ·rename_i a
  split at h
  ·rename_i b
   cases h
   rw[a,b];rfl
  ·cases h
def ZD(l:List Cl)(k:Nat):Cl:=if I1 l k=true then l.getD (I0 l k) j9 else⟨k,K0,K0,0⟩
theorem Hs(h:M4 Ls k=some (i,c)):i<6∧c=ZD (B3 Ls i) k:=by
 unfold M4 at h
 split at h
 ·rename_i b
  cases h
  have a:=eS 6 0 b;exact⟨by omega,by unfold ZD dC;rw[if_pos a.2.2]⟩
 ·rename_i b
  split at h
  ·rename_i a
   cases h
   have e:=eS 6 0 a;have d:=NI b i (by omega) (by omega);exact⟨by omega,by unfold ZD;rw[if_neg (by rw[d];simp)]⟩
  ·cases h
end
end
section
theorem YB{mb ma b a:Int}(h:M9 mb ma b a=0):mb=b∧ma=a∧1≤b∧1≤a:=by
 unfold M9 at h;by_cases q:b<1∨a<1
 ·rw[if_pos q]at h;cases h
 ·rw[if_neg q]at h
  have c:eI b a mb ma=0:=by
   unfold tY at h;by_cases d:eI b a mb ma<0
   ·rw[if_pos d]at h;cases h
   ·rw[if_neg d]at h;by_cases f:0<eI b a mb ma
    ·rw[if_pos f]at h;cases h
    ·omega
  unfold eI aR at c;by_cases e:b=mb
  ·rw[if_pos e]at c;by_cases d:a<ma
   ·rw[if_pos d]at c;cases c
   ·rw[if_neg d]at c;by_cases f:ma<a
    ·rw[if_pos f]at c;cases c
    ·exact⟨e.symm,by omega,by omega,by omega⟩
  ·rw[if_neg e]at c;by_cases d:b<mb
   ·rw[if_pos d]at c;cases c
   ·rw[if_neg d]at c;by_cases f:mb<b
    ·rw[if_pos f]at c;cases c
    ·omega
section

variable{k b a:Int}{m:Mk}{Ls:List (List Cl)}{key:Nat}{v:Vl}

theorem PJ(g:Gk k m Ls)(hm:m.b=b)(h1:1≤b)(hk:key∈m.k)(hkb:key<18446744073709551616)(hv:v.ok)(fv:r9 k v=v)(hh:v.h=true):
  (M4 Ls key=none∧M5 k b Ls key v=(92,Ls))∨ ∃i c r,M4 Ls key=some (i,c)∧i<6∧c.okB∧I7 (B3 Ls i) (N2 k c b v)=(r,0)∧Z1 k c b=0∧M5 k b Ls key v=(0,Ls.set i r)∧Gk k m (Ls.set i r):=by
 have A:=g.lk;have y:b≤1099511627776:=by have:=G6 g.gd.snd;omega
 by_cases p:M4 Ls key=none
 ·exact .inl ⟨p,ID p⟩
 have s: ∃i c,M4 Ls key=some (i,c)∧i<6∧c.k=key∧fK k c=true∧c.n≤b∧((∃d∈B3 Ls i,d.k=key)∨((∀d,gB Ls d→d.k≠key)∧(B3 Ls i).length<16)):=by
  rcases sD Ls key with ⟨c,D,rfl⟩|B
  ·obtain⟨i,z,K,Q,P⟩:=A.at D;refine⟨i,c,by unfold M4;rw[Q];simp only[P],z,rfl,g.fit c D,?_,.inl ⟨c,K,rfl⟩⟩;rcases g.bes c D with q|q<;>omega
  ·cases e:eR Ls with
   |none=>exact absurd (by unfold M4;rw[A.none B];simp only[e]) p
   |some i=>
    obtain⟨_,S,O⟩:=eS 6 0 e;exact⟨i,⟨key,K0,K0,0⟩,by unfold M4;rw[A.none B];simp only[e],by omega,rfl,T3.2 ⟨g.kn,rfl,rfl,by show(0:Int)≤0;decide,by show(0:Int)≤1099511627776;decide⟩,by show(0:Int)≤b;omega,.inr ⟨B,of_decide_eq_true O⟩⟩
 obtain⟨i,c,p,z,J,L,R,s⟩:=s;have H:=(BF g.gd.pok hkb p).2
 have E:Z1 k c b=0:=by
  unfold Z1;rw[if_neg (by rw[g.kn];simp;omega),if_neg (by omega)]
 obtain⟨_,f1,f2,f3,f4⟩:=T3.1 L;have M:r9 k (I6 c b)=I6 c b:=by unfold I6;split;exact f2;exact f1
 have F:N2 k c b v=⟨key,I6 c b,J4 k (I6 c b) v,b⟩:=by unfold N2;rw[if_pos E,J]
 obtain⟨c',a⟩:=c7 (N2 k c b v);rw[F]at a;have u:c'.k=key:=by rw[a]
 obtain⟨r,N,w,I⟩:=VH (c:=c') A g.gd.pok.1 z (by rw[u];exact s)
 have G:M5 k b Ls key v=(0,Ls.set i r):=by
  rw[tE p E,F,←a];unfold uR;rw[N];rfl
 have t:fK k c'=true:=T3.2 ⟨g.kn,by rw[a];exact M,by rw[a];exact vY k _ _,by rw[a];show 0≤b;omega,by rw[a];exact y⟩
 have o:MM (Ls.set i r):=by
  have:=nY (kind:=k) (b:=b) (v:=v) (k:=key) g.gd.pok hkb hv (by omega) (by rw[G]);rwa [G]at this
 have f: ∀x,gB (Ls.set i r) x→fK k x=true∧aG x=false∧(x.n<m.b∨(x.n=m.b∧x.k∈m.k)):=fun x l=>by
  rcases(I x).1 l with rfl|⟨l,_⟩
  ·refine⟨t,?_,.inr ⟨by rw[a];exact hm.symm,by rw[u];exact hk⟩⟩;unfold aG;rw[a];simp only[rZ hh fv];simp
  ·exact⟨g.fit x l,g.ne x l,g.bes x l⟩
 exact .inr ⟨i,c,r,p,z,H,by rw[F,←a];exact N,E,G,⟨⟨g.gd.snd,g.gd.ko,o,fun j C=>fM.2 ⟨o.2.2 j C,w.srt j C,fun x l=>sN (f x ⟨j,C,l⟩).1⟩⟩,g.kn,w.dis,fun x l=>(f x l).1,fun x l=>(f x l).2.1,fun x l=>(f x l).2.2⟩⟩
def Tg(k:Int)(m:Mk)(t:List Pr):Prop:= ∀p∈t,p.k∈m.k∧p.k<18446744073709551616∧p.v.ok∧r9 k p.v=p.v∧p.v.h=true
theorem Eo(hm:m.b=b)(h1:1≤b): ∀(t:List Pr) (Ls:List (List Cl)),Gk k m Ls→Tg k m t→(T6 k b Ls t).1=92∨ ∃Ls',T6 k b Ls t=(0,Ls')∧Gk k m Ls':=by
 intro t
 induction t with
 |nil=>intro Ls g _;exact .inr ⟨Ls,rfl,g⟩
 |cons p r o=>
  intro Ls g a;obtain⟨n,l,j,f,d⟩:=a p (by simp);rcases PJ g hm h1 n l j f d with ⟨_,h⟩|⟨i,c,r',_,_,_,_,_,h,g'⟩
  ·left;rw[T6,h,if_pos (by show(92:Int)≠0;decide)]
  ·rw[T6,h,if_neg (fun e=>e rfl)];exact o _ g' (fun x q=>a x (by simp[q]))
theorem Fa{t:List Pr}(hf:Q9 k t=true)(ht:U5 m.k t=true)(hok: ∀p∈t,p.ok):Tg k m t:=by
 unfold Q9 at hf;rw[Bool.and_eq_true]at hf;obtain⟨a,c⟩:=hf;have d:=(lJ.1 c).2;unfold LP at a;rw[List.all_eq_true]at a;unfold U5 at ht;rw[List.all_eq_true]at ht;exact fun p b=>⟨of_decide_eq_true (ht p b),(hok p b).1,(hok p b).2,sR.1 (a p b),d p b⟩
end
end
section
section

variable{n:Nat}{P:Bo}{S S':Dk}

theorem WB(h:F0 n S S')(i:Int)(b:f7):l7 S' i b=l7 S i b:=by unfold l7;rw[yK h,h.left]
theorem yJ(h:F0 n S S')(i:Int)(b:f7):F0 n (i7 S i b) (i7 S' i b):=by
 have d:=h;obtain⟨r,rfl,c,a⟩:=h;unfold i7;rw[yK d]
 split
 ·exact⟨r,rfl,c,a⟩
 ·split
  ·exact⟨r,rfl,c,a⟩
  ·split
   ·exact⟨r,rfl,c,a⟩
   ·exact⟨r,rfl,c,a⟩
theorem Bb(t:f7): ∀(l:List (Int × f7)) (b:Nat) (u:f7){S S':Dk},F0 n S S'→(D4 t l b u S').1=(D4 t l b u S).1∧F0 n (D4 t l b u S).2 (D4 t l b u S').2:=by
 intro l
 induction l with
 |nil=>intro b u S S' h;exact⟨rfl,h⟩
 |cons x r c=>
  intro b u S S' h;obtain⟨p,d⟩:=x;unfold D4;by_cases q:d=[]
  ·rw[if_pos q,if_pos q];exact c _ _ h
  ·rw[if_neg q,if_neg q,WB h];by_cases a:l7 S (q8 t b:Nat) d=0
   ·rw[if_pos a,if_pos a];exact c _ _ (yJ h _ _)
   ·rw[if_neg a,if_neg a];exact⟨rfl,yJ h _ _⟩
theorem Ba(h:F0 n S S')(ps:List (Int × f7)):(A5 P S' ps).1=(A5 P S ps).1∧(A5 P S' ps).2.1=(A5 P S ps).2.1∧F0 n (A5 P S ps).2.2 (A5 P S' ps).2.2:=by
 unfold A5;rw[C3 h];by_cases f:i6 P S=true
 ·rw[if_pos f,if_pos f];exact⟨rfl,rfl,h⟩
 rw[if_neg f,if_neg f];by_cases e:x9 P.tab.length ps≠0
 ·rw[if_pos e,if_pos e];exact⟨rfl,rfl,h⟩
 rw[if_neg e,if_neg e];by_cases d:ps=[]
 ·rw[if_pos d,if_pos d];exact⟨rfl,rfl,h⟩
 rw[if_neg d,if_neg d];by_cases c:P.gen=1099511627776
 ·rw[if_pos c,if_pos c];exact⟨rfl,rfl,h⟩
 rw[if_neg c,if_neg c];obtain⟨g,a⟩:=Bb P.tab ps 1 P.tab h;rcases j:D4 P.tab ps 1 P.tab S with ⟨o,T⟩;rcases i:D4 P.tab ps 1 P.tab S' with ⟨o',T'⟩;rw[j,i]at g a;simp only at g a;subst g
 cases o' with
 |none=>exact⟨rfl,rfl,a⟩
 |some t=>
  simp only;rw[WB a];by_cases b:l7 T ((1-P.home:Nat):Int) (k9 (P.gen+1) t)=0
  ·rw[if_pos b,if_pos b];exact⟨rfl,rfl,yJ a _ _⟩
  ·rw[if_neg b,if_neg b];exact⟨rfl,rfl,yJ a _ _⟩
end
end
section
section

variable{A:n9}{w:d9}{sv dv kv:Value}{k:Int}{P:Bo}{S:Dk}{m:Mk}{ks:f7}

theorem KG(h:RT A w sv dv k P S)(hs:i6 P S=false)(hrd:S.rd<4611686018427387000)(hM:B7 (A0 P S 0)=(m,0))(hk:Kv w kv ks)(hkA:ks≠[]→ ∀x,kv.ownBlock=some x→ ¬A x)(b a:Int)
  (hn: ¬(B6 b a=false∨64<ks.length∨K1 ks=false)){c:Int} (hc:M0 m b a ks=some c):
  Calls Tryz.prog 50 #[sv,.int .i64 b,.int .i64 a,kv] w (Eu A w sv dv k P S c):=by
 obtain⟨sp,b0,_,_⟩:=h.ptr;subst b0;have HT:=b9 h;have HS:c6 (i6 P S=false):=hs;have h0:c6 (S.rd<4611686018427387904):=by show _<_;omega
 have HM:c6 (B7 (A0 P S 0)=(m,0)):=hM;have HK:c6 (Kv w kv ks):=hk;have l0:c6 (ks≠[]→ ∀x,kv.ownBlock=some x→ ¬A x):=hkA;have o0:c6 (∀x,A x→x<w.heap.size):=fun x hx=>h.lt hx
 have k0:c6 (0≤m.b∧m.b≤1099511627776):=by
  have s:=(kJ (gU h 0).2 (by rw[hM])).1;rw[hM]at s;have h:=G6 s;exact⟨h.1,h.2.1⟩
 have F:c6 (M0 m b a ks=some c):=hc;have D:c6 (¬(B6 b a=false∨64<ks.length∨K1 ks=false)):=hn;obtain⟨ka,kc,H,_,f0⟩:=O7 hk;obtain⟨kn,I⟩:=c7 ks.length;rw[←I]at H;subst H;have HN:c6 (Q7 b a=true):=by show _=_;rw[mK];cases q:B6 b a;exact absurd (.inl q) hn;rfl
 have HR:c6 (K1 ks=true):=by show _=_;cases q:K1 ks;exact absurd (.inr (.inr q)) hn;rfl
 have n0: ¬(kn:Int)>64:=by have: ¬64<ks.length:=fun e=>hn (.inr (.inl e));omega
 clear h hs hrd hM hk hkA hn hc I f0;go_in;go_wp2_with fail;refine B4 (X9 HT.o HS.o) ?_;go_wp2_with fail;refine(Z5 b a _).mono ?_;rw[HN.o];rintro e w1 ⟨rfl,h1⟩;replace h1:=h1.symm;subst h1;go_wp2_with fail;refine(U6 HK.o).mono ?_;rw[HR.o];rintro e w1 ⟨rfl,G⟩;have N:=b9 (HT.o.below G);have U:=b9 (HK.o.below G);have a0:c6 (Ch A w w1):=Ch.of_below G;have r0:c6 (w.heap.size≤w1.heap.size):=G.size;clear G;go_wp2_with fail;refine(cL N.o HS.o h0.o).mono ?_;unfold wT;rw[HM.o];rintro e p ⟨ov,rfl,u,r,v⟩;have M:=b9 r;have Z:c6 (Ch A w p):=a0.o.self v;have Q:c6 (Kv p ov m.k):=z9 u;have T:c6 (Kv p (.slice ka kn kc) ks):=cY U.o v l0.o;obtain⟨oa,on,oc,d0⟩: ∃x y z,ov= .slice x y z:=by obtain⟨x,z,e⟩:=y9 u;exact⟨x,_,z,e⟩
 subst d0;clear u r v N U a0;go_upto_region 7 with fail
 have l:c6 (f8 p (p.alloc (Obj.cells #[.int .i64 m.b,.int .i64 m.a,.slice oa on oc] 62))):=a8 _ _;have g:c6 _:=A9 p m.b m.a (.slice oa on oc);generalize p.heap.size=T9 at g⊢;generalize p.alloc (Obj.cells #[.int .i64 m.b,.int .i64 m.a,.slice oa on oc] 62)=w4 at l g⊢;have L:=b9 (M.o.below l.o);have Y:c6 (Ch A w w4):=Z.o.self (Ch.of_below l.o);have O:=b9 (Q.o.below l.o);have R:=b9 (T.o.below l.o);clear M Z Q T l;obtain⟨J,hJ⟩:=c7 (M9 m.b m.a b a);have HJ:c6 (J=M9 m.b m.a b a):=hJ;clear hJ;have y0:=g.o.c0;have y1:=g.o.c1;have y2:=g.o.c2;go_wp2_with fail;refine(gT m.b m.a b a _).mono ?_;rw[←HJ.o];rintro e w5 ⟨rfl,i⟩;have C:=b9 (L.o.below i);have E:c6 (Ch A w w5):=Y.o.self (Ch.of_below i);have i0:=b9 (O.o.below i);have m0:=b9 (R.o.below i);have j:=b9 (g.o.keep i);have n:c6 (F0 8 S (aF P S 0)):=J5.mono (by omega);clear i L Y O R g y0 y1 y2;by_cases f:J=130
 ·have d:c=130:=by have h:=F.o;unfold M0 at h;rw[if_neg D.o,if_pos (by rw[←HJ.o];exact f)]at h;cases h;rfl
  subst d;have hj:(J:Int)=130:=by omega
  clear f;go_wp2_with fail;go_ret;exact⟨rfl,⟨_,C.o,n.o⟩,E.o⟩
 ·have p0: ¬(J:Int)=130:=by omega
  by_cases j0:J=0
  ·have d:c=if ks=m.k then 0 else 93:=by have h:=F.o;unfold M0 at h;rw[if_neg D.o,if_neg (by rw[←HJ.o];exact f),if_pos (by rw[←HJ.o];exact j0)]at h;cases h;rfl
   have W:c6 (c=if ks=m.k then 0 else 93):=d;have g0:(J:Int)=0:=by omega
   have y0:=j.o.c0;have y1:=j.o.c1;have y2:=j.o.c2;clear f j0 d;go_wp2_with fail;refine(xU m0.o i0.o).mono ?_;rintro e w6 ⟨⟨t,rfl,ht⟩,B⟩;have K:=b9 (C.o.below B);have X:c6 (Ch A w w6):=E.o.self (Ch.of_below B);clear B
   cases t
   ·have d:c=93:=by rw[W.o,if_neg (fun e=>by have:=ht.2 e;cases this)]
    subst d;clear ht;go_wp2_with fail;go_ret;exact⟨rfl,⟨_,K.o,n.o⟩,X.o⟩
   ·have d:c=0:=by rw[W.o,if_pos (ht.1 rfl)]
    subst d;clear ht;go_wp2_with fail;go_ret;exact⟨rfl,⟨_,K.o,n.o⟩,X.o⟩
  ·have g0: ¬(J:Int)=0:=by omega
   have d:m.b+1<b∧c=131:=by
    have h:=F.o;unfold M0 at h;rw[if_neg D.o,if_neg (by rw[←HJ.o];exact f),if_neg (by rw[←HJ.o];exact j0)]at h;by_cases q:m.b+1<b
    ·rw[if_pos q]at h;cases h;exact⟨q,rfl⟩
    ·rw[if_neg q]at h;cases h
   obtain⟨q0,rfl⟩:=d;have hw:IntKind.i64.wrap (m.b+1)=m.b+1:=by have:=k0.o;rw[IntKind.wrap_i64];omega
   have y0:=j.o.c0;have y1:=j.o.c1;have y2:=j.o.c2;clear f j0;go_wp2_with fail;go_ret;exact⟨rfl,⟨_,C.o,n.o⟩,E.o⟩
end
end
def lA(m:Mk)(b:Int)(i:Nat)(g:Nat→List Cl)(j:Nat):List Cl:=if b=m.b∧1≤j∧j<i then A4 m.k b (g j)else g j
theorem Au{m:Mk}{b:Int}{g:Nat→List Cl}:lA m b 1 g=g:=by funext j;unfold lA;rw[if_neg (by omega)]
theorem Av{m:Mk}{b:Int}{g:Nat→List Cl}{i:Nat}(h:b≠m.b):lA m b i g=g:=by funext j;unfold lA;rw[if_neg (fun e=>h e.1)]
theorem VM{m:Mk}{b:Int}{g:Nat→List Cl}{i j:Nat}(h:j≠i):lA m b (i+1) g j=lA m b i g j:=by
 unfold lA;by_cases q:b=m.b∧1≤j∧j<i
 ·rw[if_pos q,if_pos ⟨q.1,q.2.1,by omega⟩]
 ·rw[if_neg q,if_neg (fun e=>q ⟨e.1,e.2.1,by omega⟩)]
theorem He{m:Mk}{b:Int}{g:Nat→List Cl}{i:Nat}(h:b=m.b)(hi:1≤i):lA m b (i+1) g i=A4 m.k b (g i):=by unfold lA;rw[if_pos ⟨h,hi,by omega⟩]
theorem Jj{P:Bo}{S:Dk}{m m2:Mk}{Ls:List (List Cl)}{b a:Int}{ks:f7}(hD:C8 P S 6=some Ls)(g:Gd m Ls)(g2:Gd m2 (fX Ls m b)):
  tO (gP P S 7) (lA m b 7 (gP P S 7)) 6++[(0,(J1 ⟨b,a,ks⟩).1)]=dF Ls m b a ks:=by
 rw[AG];have h:=UK (a:=gP P S 7) (b:=lA m b 7 (gP P S 7)) (Ls:=Ls) (Ns:=fX Ls m b) (fun j c=>fG hD c) (fun j c=>?_) g.pok g2.pok g.enc g2.enc 6 (Nat.le_refl _)
 ·rw[h];rfl
 ·unfold lA fX;by_cases q:b=m.b
  ·rw[if_pos ⟨q,by omega,by omega⟩,if_pos q,fG hD c,cO (by rw[T4 hD];exact c),q]
  ·rw[if_neg (fun e=>q e.1),if_neg q,fG hD c]
section
def PR(A:n9)(w:d9)(sv dv:Value)(k:Int)(P:Bo)(S:Dk)(ps:List (Int × f7))(e:Ending)(w':d9):Prop:=
 ∃S' A',F0 8 S S'∧e= .returned (.int .i64 (A5 P S' ps).1)∧RT A' w' sv dv k (A5 P S' ps).2.1 (A5 P S' ps).2.2∧(∀x,A' x→A x∨w.heap.size≤x)∧Ch A w w'
theorem mS{w:d9}{v:Value}{l:f7}(h:Kv w v l)(hl:l≠[]){x:Nat}(hx:v.ownBlock=some x):x<w.heap.size:=by
 obtain⟨m,g,e,k,j,i,a⟩:=h;obtain⟨b,f,d,c⟩:=a 0 (by cases l with|nil=>exact absurd rfl hl|cons _ _=>simp[ib]);subst d;subst e
 cases hx
 exact c8 c
theorem PB{w:d9}{v:Value}{l:List Cl}(h:Cv w v l)(hl:l≠[]){x:Nat}(hx:v.ownBlock=some x):x<w.heap.size:=by
 rcases B2 h with ⟨e,_⟩|⟨b,f,g,rfl,c,_,_,a⟩
 ·exact absurd e hl
 ·obtain⟨d,_⟩:=a 0 c
  cases hx
  exact c8 d
theorem YS{D:n9}{w w':d9}{v:Value}{l:List Cl}(h:Cv w v l)(hc:Ch D w w')(hd:l≠[]→ ∀x,v.ownBlock=some x→ ¬D x):Cv w' v l:=by
 by_cases q:l=[]
 ·subst q;obtain⟨g,a,e,f,d,c,_⟩:=h;exact⟨g,a,e,f,d,c,fun i b=>by simp at b⟩
 ·exact h.ch hc (hd q)
theorem VJ{w w':d9}{Q:Nat}{f:Nat→Value}{g:Nat→List Cl}{D:n9}(h:S7 w Q f g)(hc:Ch D w w')(hq: ¬D Q)(hf: ∀j,j<7→g j≠[]→ ∀x,(f j).ownBlock=some x→ ¬D x):S7 w' Q f g:=
 ⟨fun i hi=>hc.cell (h.c i hi) hq,fun j=>by
  have e:=hc.block Q h.lt hq;have hz:=h.z j;unfold World.frozen? at hz⊢;rw[e];exact hz,fun i hi=>YS (h.cv i hi) hc (hf i hi)⟩
structure UD(A:n9)(w:d9)(sp:Nat)(dv:Value)(k:Int)(P:Bo)(S:Dk)(m:Mk)(ov kv:Value)(ks:f7)(R1 R2 T:Nat)(f:Nat→Value)(g:Nat→List Cl)(wr:d9):Prop where
 rt:RT A wr (.pointer (some ⟨sp,0,none⟩)) dv k P S
 mb:MB wr T m.b m.a ov
 ko:Kv wr ov m.k
 kk:Kv wr kv ks
 q1:S7 wr R1 f g
 ch:Ch A w wr
 n1:R1≠R2
 nT:T≠R2
 nA: ¬A R2
 nS:sp≠R2
 nO:m.k≠[]→ ∀x,ov.ownBlock=some x→x≠R2
 nK:ks≠[]→ ∀x,kv.ownBlock=some x→x≠R2
 nF: ∀j,j<7→g j≠[]→ ∀x,(f j).ownBlock=some x→x≠R2
 lw:w.heap.size≤R2
section

variable{A:n9}{w wr wx:d9}{sp R1 R2 T:Nat}{dv ov kv:Value}{k:Int}{P:Bo}{S:Dk}{m:Mk}{ks:f7}{f:Nat→Value}{g:Nat→List Cl}

theorem UD.below(h:UD A w sp dv k P S m ov kv ks R1 R2 T f g wr)(hb:f8 wr wx):UD A w sp dv k P S m ov kv ks R1 R2 T f g wx:=
 ⟨h.rt.below hb,h.mb.keep hb,h.ko.below hb,h.kk.below hb,h.q1.below hb,h.ch.self (Ch.of_below hb),h.n1,h.nT,h.nA,h.nS,h.nO,h.nK,h.nF,h.lw⟩
theorem UD.set(h:UD A w sp dv k P S m ov kv ks R1 R2 T f g wr)(i:Nat)(v:Value):UD A w sp dv k P S m ov kv ks R1 R2 T f g (wr.setCell ⟨R2,i,none⟩ v):=
 ⟨h.rt.setB (fun x hx hA e=>by subst e;exact h.nA hA) (fun s e=>by cases e;exact h.nS),h.mb.ch (k8 wr R2 i v) h.nT,cY h.ko (k8 wr R2 i v) h.nO,cY h.kk (k8 wr R2 i v) h.nK,
  VJ h.q1 (k8 wr R2 i v) h.n1 h.nF,h.ch.trans (k8 wr R2 i v) (fun x hx=>by subst hx;exact .inr h.lw),h.n1,h.nT,h.nA,h.nS,h.nO,h.nK,h.nF,h.lw⟩
end
end
end Go.Proofs.YtfhoilcbhmeofaaGreat
