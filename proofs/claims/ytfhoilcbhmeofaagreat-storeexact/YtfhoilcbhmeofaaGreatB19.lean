/- The reference's Read and Write (printed out of Df by mk_ref8.py). -/
import Derived.Test.YtfhoilcbhmeofaaGreatB18
set_option maxRecDepth 100000
set_option maxHeartbeats 16000000
namespace Go.Proofs.YtfhoilcbhmeofaaGreat
open Go.RowKit
section
section

variable{k b a:Int}{m:Mk}{Ls:List (List Cl)}{c d:Cl}{i key:Nat}{n:Int}{v:Vl}{ks:f7}

theorem gV:(U1 ks b c).k=c.k:=by
 unfold U1 bP
 split
 ·split<;>rfl
 ·rfl
theorem lV{l:List Cl}:d∈A4 ks b l↔ ∃c∈l,d=U1 ks b c∧aG d=false:=by
 unfold A4;rw[List.mem_filter,List.mem_map];constructor
 ·rintro⟨⟨c,a,e⟩,h⟩;exact⟨c,a,e.symm,by simpa using h⟩
 ·rintro⟨c,a,e,h⟩;exact⟨⟨c,a,e.symm⟩,by simp[h]⟩
theorem VY{l:List Cl}(h:aI l):aI (A4 ks b l):=by
 unfold A4 aI;refine List.Pairwise.filter _ ?_;rw[List.pairwise_map];exact h.imp (fun h=>by rw[gV,gV];exact h)
theorem Hh(hl:Ls.length=6):gB (Ls.map (A4 ks b)) d↔ ∃c,gB Ls c∧d=U1 ks b c∧aG d=false:=by
 constructor
 ·rintro⟨i,a,hd⟩;rw[cO (by rw[hl];exact a),lV]at hd;obtain⟨c,f,e⟩:=hd;exact⟨c,⟨i,a,f⟩,e⟩
 ·rintro⟨c,⟨i,a,f⟩,e⟩;exact⟨i,a,by rw[cO (by rw[hl];exact a),lV];exact⟨c,f,e⟩⟩
theorem xZ(g:Gk k m Ls)(hc:gB Ls c)(h1:1≤m.b):(c.n<m.b∧U1 m.k m.b c=c)∨(c.n=m.b∧U1 m.k m.b c=⟨c.k,c.p,c.p,m.b-1⟩):=by
 rcases g.bes c hc with q|⟨q,a⟩
 ·left;refine⟨q,?_⟩;unfold U1 bP
  split
  ·rw[if_pos (by right;omega)]
  ·rfl
 ·right;refine⟨q,?_⟩;unfold U1 bP;rw[if_pos a,if_neg (by omega),q]
theorem GZ(g:Gk k m Ls)(hb:b=m.b∨b=m.b+1)(h1:1≤b)(hs:o4 ⟨b,a,ks⟩=true)(ko:B9 ks):
  Gk k ⟨b,a,ks⟩ (fX Ls m b)∧(∀c,gB (fX Ls m b) c→c.n<b)∧(∀x n,b-1≤n→G7 (fX Ls m b) x n=G7 Ls x (b-1))∧(Gh Ls→Gh (fX Ls m b)):=by
 have z:=g.lk;have H:=g.gd.pok.1;by_cases e:b=m.b
 ·have J:fX Ls m b=Ls.map (A4 m.k m.b):=by unfold fX;rw[if_pos e]
  rw[J];have v: ∀d,gB (Ls.map (A4 m.k m.b)) d↔ ∃c,gB Ls c∧d=U1 m.k m.b c∧aG d=false:=fun d=>Hh H
  have r: ∀d,gB (Ls.map (A4 m.k m.b)) d→fK k d=true∧aG d=false∧d.n<b:=fun d hd=>by
   obtain⟨c,f,l,B⟩:=(v d).1 hd;obtain⟨_,f1,f2,f3,f4⟩:=T3.1 (g.fit c f);rcases xZ g f (by omega)with ⟨q,t⟩|⟨q,t⟩
   ·rw[t]at l;subst l;exact⟨g.fit d f,B,by omega⟩
   ·rw[t]at l;refine⟨T3.2 ⟨g.kn,by rw[l];exact f1,by rw[l];exact f1,by rw[l];show 0≤m.b-1;omega,by rw[l];show m.b-1≤_;omega⟩,B,by rw[l];show m.b-1<b;omega⟩
  have w:Lk (Ls.map (A4 m.k m.b)):=by
   refine⟨fun i E=>by rw[cO (by rw[H];exact E)];exact VY (z.srt i E),fun i j x y E G I s A=>?_⟩;rw[cO (by rw[H];exact E),lV]at s;rw[cO (by rw[H];exact G),lV]at A;obtain⟨c,f,l,_⟩:=s;obtain⟨d,hd,B,_⟩:=A;rw[l,B,gV,gV];exact z.dis i j c d E G I f hd
  have D:MM (Ls.map (A4 m.k m.b)):=NZ g.gd.pok;refine⟨⟨⟨hs,ko,D,fun j G=>fM.2 ⟨D.2.2 j G,w.srt j G,fun x s=>sN (r x ⟨j,G,s⟩).1⟩⟩,g.kn,w.dis,fun x s=>(r x s).1,fun x s=>(r x s).2.1,fun x s=> .inl (r x s).2.2⟩,fun x s=>(r x s).2.2,fun x n I=>?_,fun low d hd=>?_⟩
  ·rcases sD Ls x with ⟨c,f,rfl⟩|u
   ·rw[z.res f];obtain⟨_,f1,f2,f3,f4⟩:=T3.1 (g.fit c f)
    have C:(U1 m.k m.b c).n≤b-1∧(U1 m.k m.b c).c=aL c (b-1):=by
     rcases xZ g f (by omega)with ⟨q,t⟩|⟨q,t⟩
     ·rw[t];exact⟨by omega,by unfold aL;rw[if_pos (by omega)]⟩
     ·rw[t];exact⟨by show m.b-1≤_;omega,by unfold aL;rw[if_neg (by omega)]⟩
    cases o:aG (U1 m.k m.b c)
    ·have E:=(v _).2 ⟨c,f,rfl,o⟩;have:=w.res E n;rw[gV]at this;rw[this];unfold aL;rw[if_pos (by omega),C.2];rfl
    ·rw[w.res0 (fun d hd=>?_),←C.2]
     ·rcases xZ g f (by omega)with ⟨q,t⟩|⟨q,t⟩
      ·rw[t]at o;rw[g.ne c f]at o
       cases o
      ·rw[t]at o⊢;have L:c.p.h=false:=by simpa[aG]using o
       show K0=c.p;rw[←f1];unfold r9;rw[if_pos L]
     ·obtain⟨y,A,l,B⟩:=(v d).1 hd;intro K;rw[l,gV]at K;have:y=c:=z.uniq A f K;subst this;rw[←l,B]at o
      cases o
   ·rw[z.res0 u,w.res0 (fun d hd=>by
     obtain⟨y,A,l,B⟩:=(v d).1 hd;rw[l,gV];exact u y A)]
  ·obtain⟨y,A,l,B⟩:=(v d).1 hd;rw[l,gV];exact low y A
 ·have J:fX Ls m b=Ls:=by unfold fX;rw[if_neg e]
  rw[J];have F: ∀c,gB Ls c→c.n<b:=fun c f=>by rcases g.bes c f with q|q<;>omega
  refine⟨⟨⟨hs,ko,g.gd.pok,g.gd.enc⟩,g.kn,g.dis,g.fit,g.ne,fun c f=> .inl (F c f)⟩,F,fun x n I=>?_,id⟩;rcases sD Ls x with ⟨c,f,rfl⟩|u
  ·have:=F c f;rw[z.res f,z.res f];unfold aL;rw[if_pos (by omega),if_pos (by omega)]
  ·rw[z.res0 u,z.res0 u]
theorem YA{mb ma:Int}(h1:1≤b)(ha:1≤a)(hm:mb<b∨(b=mb∧ma<a)):M9 mb ma b a=131:=by
 have c:eI b a mb ma=1:=by
  unfold eI aR;by_cases e:b=mb
  ·rw[if_pos e,if_neg (by omega),if_pos (by omega)]
  ·rw[if_neg e,if_neg (by omega),if_pos (by omega)]
 unfold M9;rw[if_neg (by omega),c];rfl
theorem YC(h1:1≤b)(ha:1≤a):M9 b a b a=0:=by
 have c:eI b a b a=0:=by
  unfold eI aR;rw[if_pos rfl,if_neg (by omega),if_neg (by omega)]
 unfold M9;rw[if_neg (by omega),c];rfl
theorem YD{mb ma:Int}(h1:1≤b)(ha:1≤a)(hm:b<mb∨(b=mb∧a<ma)):M9 mb ma b a=130:=by
 have c:eI b a mb ma= -1:=by
  unfold eI aR;by_cases e:b=mb
  ·rw[if_pos e,if_pos (by omega)]
  ·rw[if_neg e,if_pos (by omega)]
 unfold M9;rw[if_neg (by omega),c];rfl
theorem ZH{m:Mk}(h1:1≤b)(hb:b≤1099511627776)(ha:1≤a)(ha2:a≤1099511627776)(hk:ks.length≤64)(hr:K1 ks=true)(hm:m.b<b∨(b=m.b∧m.a<a))(hb1:b≤m.b+1):M0 m b a ks=none:=by
 have c:M9 m.b m.a b a≠130∧M9 m.b m.a b a≠0:=by rw[YA h1 ha hm];decide
 refine GY ?_ c.1 c.2 (by omega);rintro(q|q|q)
 ·simp[B6]at q;omega
 ·omega
 ·rw[hr]at q;cases q
theorem uP(h1:1≤b)(hb:b≤1099511627776)(ha:1≤a)(ha2:a≤1099511627776)(hk:ks.length≤64)(hr:K1 ks=true):o4 ⟨b,a,ks⟩=true:=by
 simp only[o4,W7,Bool.and_eq_true,decide_eq_true_eq];refine⟨⟨by omega,hb⟩,⟨by omega,ha2⟩,?_⟩;rw[if_neg (by omega)];simp[hk,hr]
end
end
section
def N9(P:Bo)(S:Dk):Nat:=P.gen+S.wr+S.rd
structure RS(A:n9)(w:d9)(sv dv:Value)(k:Int)(P:Bo)(S:Dk)(m:Mk)(Ls:List (List Cl)):Prop where
 st:ST A w sv dv k P S
 iw:Iw P S (D2 m Ls)
 gk:Gk k m Ls
 lf:S.left= -1
section

variable{A A':n9}{w w':d9}{sv dv:Value}{k:Int}{P:Bo}{S S':Dk}{m m':Mk}{Ls Ls':List (List Cl)}{j:Nat}{b a:Int}{ks:f7}

theorem RS.rdd(h:RS A w sv dv k P S m Ls)(hs:ST A' w' sv dv k P S')(hr:F0 j S S'):RS A' w' sv dv k P S' m Ls:=
 ⟨hs,h.iw.rdd hr,h.gk,by rw[hr.left];exact h.lf⟩
theorem RS.below(h:RS A w sv dv k P S m Ls)(hb:f8 w w'):RS A w' sv dv k P S m Ls:=⟨h.st.below hb,h.iw,h.gk,h.lf⟩
theorem ST.dsk(h:ST A w sv dv k P S): ∃D,I9 89 D w dv S∧ ∀x,D x→A x:=by
 obtain⟨sp,f,e,d,c,a,b⟩:=h;exact Bk.dsk a
theorem RS.mk0(h:RS A w sv dv k P S m Ls):B7 (A0 P S 0)=(m,0):=qD h.gk.gd h.iw
theorem RS.ce(h:RS A w sv dv k P S m Ls):C8 P S 6=some Ls:=mU h.gk.gd h.iw
theorem RS.open(h:RS A w sv dv k P S m Ls):i6 P S=false:=h.iw.shut
theorem nG{n:Nat}(h:F0 n S S'):N9 P S'≤N9 P S+n:=by unfold N9;rw[h.wr];have:=h.rd;omega
theorem GK(o:Option Mk):(R6 Ls Ls' o).length≤7:=by
 unfold R6;have:=AB Ls Ls' 6;rw[List.length_append]
 cases o<;>simp<;>omega
theorem WI{o:Option Mk}(h:Iw P S (D2 m Ls))(g:Gd m Ls)(g':Gd m' Ls')(ho:o=some m'∨(o=none∧m'=m))(hl:S.left= -1)(hg:P.gen<1099511627776):
  ∃P' S',A5 P S (R6 Ls Ls' o)=(0,P',S')∧Iw P' S' (D2 m' Ls')∧S'.left= -1∧P'.gen≤P.gen+1∧S'.wr≤S.wr+8∧S'.rd=S.rd∧S'.bl.length=S.bl.length∧(R6 Ls Ls' o=[]→S'=S):=by
 by_cases a:R6 Ls Ls' o=[]
 ·refine⟨P,S,?_,?_,hl,by omega,by omega,rfl,rfl,fun _=>rfl⟩
  ·rw[a];unfold A5;rw[if_neg (by rw[h.shut];simp),if_neg (by simp[x9,K2]),if_pos rfl]
  ·have:=jF (m:=m) g.pok.1 g' o ho;rw[a]at this;rw[←this];exact h
 ·rcases yP h (nI g' o) a hg with ⟨P',S',e,i,p,n,l,d,k,c,b⟩|⟨S',e,_,_,q,_⟩
  ·rw[jF g.pok.1 g' o ho]at i;refine⟨P',S',e,i,b hl,by omega,?_,d,c,fun e=>absurd e a⟩;have j:uD (R6 Ls Ls' o)≤(R6 Ls Ls' o).length:=List.length_filter_le _ _;have f:=GK (Ls:=Ls) (Ls':=Ls') o;omega
  ·exact absurd hl q
def Chg(A:n9)(w:d9)(sv dv:Value)(k:Int)(P:Bo)(S:Dk)(m':Mk)(Ls':List (List Cl))(X:Dk→Prop)(e:Ending)(w':d9):Prop:=
 e= .returned (.int .i64 0)∧ ∃A' P' S',RS A' w' sv dv k P' S' m' Ls'∧(∀x,A' x→A x∨w.heap.size≤x)∧Ch A w w'∧N9 P' S'≤N9 P S+17∧S'.bl.length=S.bl.length∧X S'
def Not(A:n9)(w:d9)(sv dv:Value)(k:Int)(P:Bo)(S:Dk)(m:Mk)(Ls:List (List Cl))(c:Int)(e:Ending)(w':d9):Prop:=
 e= .returned (.int .i64 c)∧ ∃S',RS A w' sv dv k P S' m Ls∧F0 8 S S'∧Ch A w w'
theorem tD(h:RS A w sv dv k P S m Ls)(hN:N9 P S<1000000000){kv:Value}(hk:Kv w kv ks)(ko:B9 ks)(hkA: ∀x,kv.ownBlock=some x→ ¬A x)(hb:b=m.b∨b=m.b+1)(h1:1≤b)(hb2:b≤1099511627776)(ha:1≤a)(ha2:a≤1099511627776)(hk64:ks.length≤64)(hr:K1 ks=true)(hm:m.b<b∨(b=m.b∧m.a<a)):
  Calls Tryz.prog 25 #[sv,.int .i64 b,.int .i64 a,kv] w (Chg A w sv dv k P S ⟨b,a,ks⟩ (fX Ls m b) fun _=>True):=by
 have v:S.rd<1000000000:=by unfold N9 at hN;omega
 have u:S.wr<1000000000:=by unfold N9 at hN;omega
 have y:P.gen<1000000000:=by unfold N9 at hN;omega
 refine(kZ h.st (fun _=>h.mk0) (fun _=>h.ce) (by omega) (by omega) hk ko (fun _=>hkA) b a).mono ?_;have l:=ZH h1 hb2 ha ha2 hk64 hr hm (by omega);have i:=uP (ks:=ks) h1 hb2 ha ha2 hk64 hr;have g:=(GZ (a:=a) (ks:=ks) h.gk hb h1 i ko).1;rintro e z (⟨q,_⟩|⟨_,c,S',q,_⟩|⟨_,_,S',A',hr,rfl,d,f,j⟩)
 ·rw[h.open]at q;cases q
 ·rw[l]at q;cases q
 ·rw[AG]at d⊢;obtain⟨P',t,s,r,p,F,E,D,n,_⟩:=WI (o:=some ⟨b,a,ks⟩) (h.iw.rdd hr) h.gk.gd g.gd (.inl rfl) (by rw[hr.left];exact h.lf) (by omega);rw[s]at d⊢;refine⟨rfl,A',P',t,⟨d,r,g,p⟩,f,j,?_,by rw[n,hr.bl],trivial⟩;have C:=hr.wr;have B:=hr.rd;unfold N9;omega
theorem Jz(h:RS A w sv dv k P S m Ls)(hN:N9 P S<1000000000){kv:Value}(hk:Kv w kv ks)(ko:B9 ks)(hkA: ∀x,kv.ownBlock=some x→ ¬A x){c:Int}(hE:M0 m b a ks=some c):
  Calls Tryz.prog 25 #[sv,.int .i64 b,.int .i64 a,kv] w (Not A w sv dv k P S m Ls c):=by
 have j:S.rd<1000000000:=by unfold N9 at hN;omega
 have i:S.wr<1000000000:=by unfold N9 at hN;omega
 refine(kZ h.st (fun _=>h.mk0) (fun _=>h.ce) (by omega) (by omega) hk ko (fun _=>hkA) b a).mono ?_;rintro e l (⟨q,_⟩|⟨_,c',S',q,rfl,d,f,g⟩|⟨_,q,_⟩)
 ·rw[h.open]at q;cases q
 ·rw[hE]at q
  cases q
  exact⟨rfl,S',h.rdd d f,f,g⟩
 ·rw[hE]at q;cases q
theorem Dr{t:List Pr}(h:cW t=true)(hf: ∀p∈t,r9 k p.v=p.v):Q9 k t=true:=by
 unfold Q9 LP;rw[h,Bool.and_true,List.all_eq_true];intro p a;rw[hf p a];exact sR.2 rfl
theorem MJ(h:RS A w sv dv k P S m Ls)(hN:N9 P S<1000000000){tv:Value}{t:List Pr}(hq:Qv w tv t)(hqA: ∀x,tv.ownBlock=some x→ ¬A x)(h1:1≤m.b)(ha:1≤m.a)(ht:Ta k m t)(hA: ∃Ls',T6 k m.b Ls t=(0,Ls')∧Gk k m Ls'):
  Calls Tryz.prog 26 #[sv,.int .i64 m.b,.int .i64 m.a,tv] w (Chg A w sv dv k P S m (T6 k m.b Ls t).2 fun S'=>(T6 k m.b Ls t).2=Ls→S'.bl=S.bl∧S'.wr=S.wr):=by
 have D:S.rd<1000000000:=by unfold N9 at hN;omega
 have C:S.wr<1000000000:=by unfold N9 at hN;omega
 have E:P.gen<1000000000:=by unfold N9 at hN;omega
 obtain⟨Ls',hA,j⟩:=hA;have g:=G6 h.gk.gd.snd
 have r:eK m k m.b m.a Ls t=none:=by
  refine MK ?_ (YC h1 ha) ?_ (by rw[hA])
  ·rintro(q|q)
   ·simp[B6]at q;omega
   ·rw[Dr (lJ.2 ⟨ht.1,fun p g=>(ht.2 p g).2.2.2.2⟩) (fun p g=>(ht.2 p g).2.2.2.1)]at q;cases q
  ·unfold U5;rw[List.all_eq_true];exact fun p g=>decide_eq_true (ht.2 p g).1
 refine(iI h.st (fun _=>h.mk0) (fun _=>h.ce) (by omega) (by omega) hq (fun _=>hqA) m.b m.a).mono ?_;rintro e F (⟨q,_⟩|⟨_,c,S',q,_⟩|⟨_,_,S',A',f,rfl,d,i,n⟩)
 ·rw[h.open]at q;cases q
 ·rw[r]at q;cases q
 ·rw[ZN]at d⊢;rw[hA]at d⊢;obtain⟨P',B,z,y,v,K,J,I,u,s⟩:=WI (o:=none) (h.iw.rdd f) h.gk.gd j.gd (.inr ⟨rfl,rfl⟩) (by rw[f.left];exact h.lf) (by omega);rw[z]at d⊢;refine⟨rfl,A',P',B,⟨d,y,j,v⟩,i,n,?_,by rw[u,f.bl],fun q=>?_⟩
  ·have H:=f.wr;have G:=f.rd;unfold N9;omega
  ·have l:=q;subst l;have:=s (by unfold R6;rw[GJ];rfl);rw[this];exact⟨f.bl,f.wr⟩
theorem TY(h:RS A w sv dv k P S m Ls)(hN:N9 P S<1000000000){tv:Value}{t:List Pr}(hq:Qv w tv t)(hqA: ∀x,tv.ownBlock=some x→ ¬A x){c:Int}(hE:eK m k b a Ls t=some c):
  Calls Tryz.prog 26 #[sv,.int .i64 b,.int .i64 a,tv] w (Not A w sv dv k P S m Ls c):=by
 have j:S.rd<1000000000:=by unfold N9 at hN;omega
 have i:S.wr<1000000000:=by unfold N9 at hN;omega
 refine(iI h.st (fun _=>h.mk0) (fun _=>h.ce) (by omega) (by omega) hq (fun _=>hqA) b a).mono ?_;rintro e l (⟨q,_⟩|⟨_,c',S',q,rfl,d,f,g⟩|⟨_,q,_⟩)
 ·rw[h.open]at q;cases q
 ·rw[hE]at q
  cases q
  exact⟨rfl,S',h.rdd d f,f,g⟩
 ·rw[hE]at q;cases q
theorem rO(h:RS A w sv dv k P S m Ls)(hN:N9 P S<1000000000)(key:Nat)(n:Int):
  Calls Tryz.prog 28 #[sv,.int .u64 key,.int .i64 n] w fun e w'=>e= .returned (.tuple #[.agg #[.bool (G7 Ls key n).h,.int .u64 (G7 Ls key n).b],.int .i64 0])∧ ∃S',RS A w' sv dv k P S' m Ls∧F0 6 S S'∧Ch A w w':=by
 have g:S.rd<1000000000:=by unfold N9 at hN;omega
 refine(rN h.st (fun _=>h.ce) (by omega) key n).mono ?_;rintro e i ⟨c,v,S',rfl,⟨q,_⟩|⟨_,rfl,rfl⟩,a,d,f⟩
 ·rw[h.open]at q;cases q
 ·rw[F5 h.open]at a;exact⟨rfl,S',h.rdd a d,d,f⟩
theorem Cn(h:RS A w sv dv k P S m Ls)(hN:N9 P S<1000000000):
  Calls Tryz.prog 29 #[sv] w fun e w'=> ∃v,e= .returned (.tuple #[.agg #[.int .i64 m.b,.int .i64 m.a,v],.int .i64 0])∧w'.ownsRow w.heap.size 37 1 v m.k.length ((ib m.k).map (Value.int .u64))∧ ∃S',RS A w' sv dv k P S' m Ls∧F0 1 S S'∧Ch A w w':=by
 have l:S.rd<1000000000:=by unfold N9 at hN;omega
 refine(X6 h.st (by omega)).mono ?_;rintro e n ⟨c,o,v,S',rfl,g,i,d,f,j⟩;rw[F5 h.open]at d;rcases i with ⟨_,q,_⟩|⟨_,_,q,_⟩|⟨rfl,_,q⟩
 ·rw[h.open]at q;cases q
 ·rw[h.mk0]at q;simp at q
 ·rw[h.mk0]at q
  cases q
  exact⟨v,rfl,g,S',h.rdd d f,f,j⟩
end
end
theorem EH{Ls:List (List Cl)}{c:Cl}(h6:Ls.length=6)(h:c∈Ls.flatten):gB Ls c:=by
 obtain⟨l,a,d⟩:=List.mem_flatten.1 h;obtain⟨i,b,rfl⟩:=List.mem_iff_getElem.1 a;exact⟨i,by omega,by rw[aW b];exact d⟩
theorem Dn{Ls:List (List Cl)}(h6:Ls.length=6)(h:Lk Ls):Ls.flatten.Pairwise (fun a b=>a.k≠b.k):=by
 rw[List.pairwise_flatten];refine⟨fun l f=>?_,List.pairwise_iff_getElem.2 fun i j c g m x e y d=>?_⟩
 ·obtain⟨i,c,rfl⟩:=List.mem_iff_getElem.1 f;have:=h.srt i (by omega);rw[aW c]at this;exact this.imp (fun h=>by omega)
 ·exact h.dis i j x y (by omega) (by omega) (by omega) (by rw[aW c];exact e) (by rw[aW g];exact d)
theorem mP{w:d9}{g:Nat}{d:List Cl}(h:Mc w g d){i:Nat}(hi:i<d.length):w.cell? ⟨g,i*6,none⟩=some (.int .u64 d[i].k)∧w.cell? ⟨g,i*6+1,none⟩=some (.bool d[i].p.h)∧w.cell? ⟨g,i*6+2,none⟩=some (.int .u64 d[i].p.b)∧w.cell? ⟨g,i*6+3,none⟩=some (.bool d[i].c.h)∧w.cell? ⟨g,i*6+4,none⟩=some (.int .u64 d[i].c.b)∧w.cell? ⟨g,i*6+5,none⟩=some (.int .i64 d[i].n):=
 ⟨(h i 0 hi (by omega)).1,(h i 1 hi (by omega)).1,(h i 2 hi (by omega)).1,(h i 3 hi (by omega)).1,(h i 4 hi (by omega)).1,(h i 5 hi (by omega)).1⟩
theorem mQ{w w':d9}{g:Nat}{d:List Cl}(h:Mc w g d)(hb:f8 w w')(hg:g<w.heap.size):Mc w' g d:=fun i j hi hj=>by
 rw[hb.cell (p:=⟨g,i*6+j,none⟩) hg,hb.frozen (p:=⟨g,i*6+j,none⟩) hg];exact h i j hi hj
structure RSX(A:n9)(w:d9)(sv dv:Value)(k:Int)(P:Bo)(S:Dk)(m:Mk)(Ls:List (List Cl)):Prop where
 st:ST A w sv dv k P S
 iw:Iw P S (D2 m Ls)
 gk:Gk k m Ls
theorem TK{D:n9}{w w':d9}(hc:Ch D w w'){p:Addr}(hl:p.block<w.heap.size)(hd: ¬D p.block):w'.frozen? p=w.frozen? p:=by
 have e:=hc.block _ hl hd;unfold World.frozen?;rw[e]
theorem qA(S:Dk): ∀j,F0 j S (dI S j):=by
 intro j
 induction j with
 |zero=>exact F0.refl _
 |succ j a=>
  refine a.trans (j:=1) ?_;show F0 1 (dI S j) (R8 (dI S j) j);unfold R8
  split
  ·exact⟨(dI S j).rd+1,rfl,by omega,by omega⟩
  ·exact F0.refl _
def kY(mb:Int)(ks:f7)(c:Cl):Bool:=decide (c.n<mb)||(decide (c.n=mb)&&decide (c.k∈ks))
def oS(k:Int)(m:Mk)(c:Cl):Bool:=fK k c&&!aG c&&kY m.b m.k c
def Ev(k:Int)(m:Mk)(Ls:List (List Cl)):Prop:=(∀c∈Ls.flatten,oS k m c=true)∧Ls.flatten.Pairwise (fun a b=>a.k≠b.k)
def Lw(k:Int)(m:Mk)(Ls:List (List Cl))(w:d9)(e:Ending)(w':d9):Prop:= ∃b:Bool,e= .returned (.bool b)∧(b=true↔Ev k m Ls)∧f8 w w'
def zV(d:List Cl)(i:Nat):Bool:=decide (0<i)&&((d.getD (i-1) j9).k==(d.getD i j9).k)
def Pd(k:Int)(m:Mk)(d:List Cl)(i:Nat):Prop:=zV d i=false∧oS k m (d.getD i j9)=true
theorem iX{d:List Cl}{i:Nat}(h:i<d.length):d.getD i j9=d[i]:=by simp[List.getD,h]
theorem XD{k:Int}{m:Mk}{Ls:List (List Cl)}{d:List Cl}(hd:cG Ls.flatten d):(∀i,i<d.length→Pd k m d i)↔Ev k m Ls:=by
 constructor
 ·intro h;refine⟨fun c g=>?_,?_⟩
  ·obtain⟨i,a,rfl⟩:=List.mem_iff_getElem.1 (hd.1.mem_iff.2 g);have:=(h i a).2;rwa [iX a]at this
  ·refine(hd.1.pairwise_iff (fun h=>Ne.symm h)).1 (List.pairwise_iff_getElem.2 fun i j a f n=>?_);have e:=List.pairwise_iff_getElem.1 hd.2;obtain⟨l,rfl⟩: ∃l,j=l+1:=⟨j-1,by omega⟩;have b:=(h (l+1) f).1;unfold zV at b;rw[decide_eq_true (by omega),Bool.true_and,iX f,show l+1-1=l by omega,iX (by omega)]at b;have r:d[l].k≠d[l+1].k:=by simpa using b
   have p:=e l (l+1) (by omega) f (by omega)
   have o:d[i].k≤d[l].k:=by
    rcases Nat.lt_or_ge i l with q|q
    ·exact e i l a (by omega) q
    ·obtain rfl:i=l:=by omega
     exact Nat.le_refl _
   omega
 ·rintro⟨e,b⟩ i a;refine⟨?_,by rw[iX a];exact e _ (hd.1.mem_iff.1 (List.getElem_mem a))⟩;unfold zV
  cases i with
  |zero=>rfl
  |succ j=>
   rw[decide_eq_true (by omega),Bool.true_and,iX a,show j+1-1=j by omega,iX (by omega)];have:=List.pairwise_iff_getElem.1 ((hd.1.pairwise_iff (fun h=>Ne.symm h)).2 b) j (j+1) (by omega) a (by omega);simpa using this
theorem tC{w:d9}{kv:Value}{ks:f7}(hk:Kv w kv ks)(mb ma:Int)(c:Cl):
  Calls Tryz.prog 92 #[.agg #[.int .i64 mb,.int .i64 ma,kv],.agg #[.int .u64 c.k,.bool c.p.h,.int .u64 c.p.b,.bool c.c.h,.int .u64 c.c.b,.int .i64 c.n]] w fun e w'=>e= .returned (.bool (kY mb ks c))∧f8 w w':=by
 obtain⟨g,d,f,rfl⟩:=F2 hk;have a:c6 (f8 w ((w.alloc (Obj.cells #[.int .i64 mb,.int .i64 ma,.slice g d f] 62)).alloc (Obj.cells #[.int .u64 c.k,.bool c.p.h,.int .u64 c.p.b,.bool c.c.h,.int .u64 c.c.b,.int .i64 c.n] 132))):=a9 (a8 _ _) (a8 _ _);have HK:c6 (Kv ((w.alloc (Obj.cells #[.int .i64 mb,.int .i64 ma,.slice g d f] 62)).alloc (Obj.cells #[.int .u64 c.k,.bool c.p.h,.int .u64 c.p.b,.bool c.c.h,.int .u64 c.c.b,.int .i64 c.n] 132)) (.slice g d f) ks):=hk.below a.o;have HM:c6 (MB ((w.alloc (Obj.cells #[.int .i64 mb,.int .i64 ma,.slice g d f] 62)).alloc (Obj.cells #[.int .u64 c.k,.bool c.p.h,.int .u64 c.p.b,.bool c.c.h,.int .u64 c.c.b,.int .i64 c.n] 132)) w.heap.size mb ma (.slice g d f)):=(A9 w mb ma (.slice g d f)).keep (a8 _ _)
 have HC:c6 (CB ((w.alloc (Obj.cells #[.int .i64 mb,.int .i64 ma,.slice g d f] 62)).alloc (Obj.cells #[.int .u64 c.k,.bool c.p.h,.int .u64 c.p.b,.bool c.c.h,.int .u64 c.c.b,.int .i64 c.n] 132)) (w.heap.size+1) c):=by
  have h:=B0 (w.alloc (Obj.cells #[.int .i64 mb,.int .i64 ma,.slice g d f] 62)) c;rwa [g8]at h
 clear hk;by_cases l:c.n<mb
 ·rw[show kY mb ks c=true by unfold kY;rw[decide_eq_true l];rfl];go_in;go_upto_region 1 with fail
  obtain⟨R,j⟩:=c7 w.heap.size;obtain⟨T,i⟩:=c7 (w.heap.size+1);rw[←i]at HC⊢;rw[←j]at HM⊢;generalize ((w.alloc (Obj.cells #[.int .i64 mb,.int .i64 ma,.slice g d f] 62)).alloc (Obj.cells #[.int .u64 c.k,.bool c.p.h,.int .u64 c.p.b,.bool c.c.h,.int .u64 c.c.b,.int .i64 c.n] 132))=w0 at a HK HM HC⊢;clear j i;obtain⟨C,B,A,_⟩:=HM.o;obtain⟨z,y,x,v,u,t,_⟩:=HC.o;go_wp2_with fail;go_ret;exact⟨rfl,a.o⟩
 ·by_cases m:c.n=mb
  ·have r:(c.n==mb)=true:=by rw[m];simp
   have HE:c6 (kY mb ks c=decide (c.k∈ks)):=by show _=_;unfold kY;rw[decide_eq_false l,decide_eq_true m];simp
   rw[HE.o];clear m
   cases q:decide (c.k∈ks)
   all_goals
    go_in;go_upto_region 1 with fail
    obtain⟨R,j⟩:=c7 w.heap.size;obtain⟨T,i⟩:=c7 (w.heap.size+1);rw[←i]at HC⊢;rw[←j]at HM⊢;generalize ((w.alloc (Obj.cells #[.int .i64 mb,.int .i64 ma,.slice g d f] 62)).alloc (Obj.cells #[.int .u64 c.k,.bool c.p.h,.int .u64 c.p.b,.bool c.c.h,.int .u64 c.c.b,.int .i64 c.n] 132))=w0 at a HK HM HC⊢;clear j i;obtain⟨C,B,A,_⟩:=HM.o;obtain⟨z,y,x,v,u,t,_⟩:=HC.o;go_wp2_with fail;refine(oI HK.o mb ma c.k).mono ?_;rw[q];rintro e D ⟨rfl,q⟩;have s:=b9 (a9 a.o q);clear q;go_wp2_with fail;go_ret;exact⟨rfl,s.o⟩
  ·have r:(c.n==mb)=false:=by rw[beq_eq_false_iff_ne];exact m
   rw[show kY mb ks c=false by unfold kY;rw[decide_eq_false l,decide_eq_false m];rfl];go_in;go_upto_region 1 with fail
   obtain⟨R,j⟩:=c7 w.heap.size;obtain⟨T,i⟩:=c7 (w.heap.size+1);rw[←i]at HC⊢;rw[←j]at HM⊢;generalize ((w.alloc (Obj.cells #[.int .i64 mb,.int .i64 ma,.slice g d f] 62)).alloc (Obj.cells #[.int .u64 c.k,.bool c.p.h,.int .u64 c.p.b,.bool c.c.h,.int .u64 c.c.b,.int .i64 c.n] 132))=w0 at a HK HM HC⊢;clear j i;obtain⟨C,B,A,_⟩:=HM.o;obtain⟨z,y,x,v,u,t,_⟩:=HC.o;go_wp2_with fail;go_ret;exact⟨rfl,a.o⟩
theorem RJ{w:d9}{Q:Nat}{f:Nat→Value}{Ls:List (List Cl)}{k:Int}{m:Mk}{kv:Value}(h:SH w Q f Ls)(hk:Kv w kv m.k)(hle: ∀i,i<6→(B3 Ls i).length≤16)(hcok: ∀c∈Ls.flatten,c.okB):
  Calls Tryz.prog 42 #[.pointer (some ⟨Q,0,none⟩),.int .i64 k,.agg #[.int .i64 m.b,.int .i64 m.a,kv]] w (Lw k m Ls w):=by
 obtain⟨ka,kn,kc,rfl⟩:=F2 hk;have s:c6 (f8 w (w.alloc (Obj.cells #[.int .i64 m.b,.int .i64 m.a,.slice ka kn kc] 62))):=a8 _ _;have i0:=b9 (A9 w m.b m.a (.slice ka kn kc));have C0:=b9 (hk.below s.o);have t0:=b9 (h.below s.o);have Q0:=b9 hle;have U0:=b9 hcok;clear h hk hle hcok;go_in;go_upto_region 1 with fail
 generalize hN:w.heap.size=N at i0⊢;clear hN;generalize (w.alloc (Obj.cells #[.int .i64 m.b,.int .i64 m.a,.slice ka kn kc] 62))=w0 at s i0 C0 t0⊢;go_wp2_with fail;refine(lM t0.o Q0.o).mono ?_;rintro e w1 ⟨ao,s0,d,rfl,p0,g0,n0,E,G0,r0⟩;have HX:c6 (d.length≤s0∧s0≤maxLen∧cG Ls.flatten d):=⟨p0,g0,n0⟩;have O0:c6 (d≠[]→ ∃g,ao=some ⟨g,0,none⟩∧g<w1.heap.size∧Mc w1 g d):=fun q=>by obtain⟨g,a,_,b,c⟩:=E q;exact⟨g,a,b,c⟩
 have x:=b9 r0;obtain⟨n,hn⟩:=c7 d.length;rw[←hn];have y0:=b9 hn;have H0:(n:Int)≤9223372036854775807:=by simp only[maxLen]at g0;omega
 clear p0 g0 n0 E G0 r0 hn;go_wp2_with fail;go_loopw [14] (fun iv wr=> ∃i:Nat,iv= .int .i64 i∧i≤n∧(∀j,j<i→Pd k m d j)∧f8 w1 wr) (fun iv _=>n-(intOf iv).toNat)
 case atStart=>exact⟨0,rfl,by omega,fun j hj=>by omega,Below.refl _ _⟩
 case round=>
  obtain⟨i,rfl,hi,q0,hB⟩:=hrel;have x0:=b9 q0;clear q0;have HB:=b9 hB;have V0:=b9 (a9 s.o (a9 x.o hB));clear hB;by_cases J0:i<n;rotate_left
  ·have D0: ¬(i:Int)<(n:Int):=by omega
   have H0:i=n:=by omega
   have F0:c6 (∀j,j<d.length→Pd k m d j):=fun j hj=>x0.o j (by have:=y0.o;omega);go_wp2_with fail;go_ret;exact⟨true,rfl,⟨fun _=>(XD HX.o.2.2).1 F0.o,fun _=>rfl⟩,V0.o⟩
  ·have D0:(i:Int)<(n:Int):=by omega
   have y:i<d.length:=by have:=y0.o;omega
   obtain⟨g,rfl,a0,E⟩:=O0.o (fun e=>by rw[e]at y;simp at y);have T0:=b9 a0;have z0:=b9 (mQ E HB.o a0);obtain⟨m0,m1,m2,m3,m4,m5⟩:=mP z0.o y;obtain⟨c,hc⟩:=c7 (d[i]);rw[←hc]at m0 m1 m2 m3 m4 m5;have R0:c6 (c∈Ls.flatten):=HX.o.2.2.1.mem_iff.1 (by rw[hc];exact List.getElem_mem y);have j0:c6 (d.getD i j9=c):=by show _=_;rw[hc];simp[List.getD,y]
   clear hc a0 E;go_upto_region 5 with fail
   clear m0 m1 m2 m3 m4 m5;have B:=b9 (B0 wr c);have F:c6 (f8 wr (wr.alloc (Obj.cells #[.int .u64 c.k,.bool c.p.h,.int .u64 c.p.b,.bool c.c.h,.int .u64 c.c.b,.int .i64 c.n] 132))):=a8 _ _;generalize L0:wr.heap.size=X at B⊢;clear L0;generalize (wr.alloc (Obj.cells #[.int .u64 c.k,.bool c.p.h,.int .u64 c.p.b,.bool c.c.h,.int .u64 c.c.b,.int .i64 c.n] 132))=Z at B F⊢;have P0:=b9 (i0.o.keep (a9 x.o (a9 HB.o F.o)));have A0:=b9 (C0.o.below (a9 x.o (a9 HB.o F.o)));have N0:=b9 (mQ z0.o F.o (Nat.lt_of_lt_of_le T0.o HB.o.size));have G:=b9 (a9 HB.o F.o);have Y:c6 (¬Pd k m d i→ ¬Ev k m Ls):=fun h h2=>h ((XD HX.o.2.2).2 h2 i y);go_cut [31] (fun v wx=>v= .bool (zV d i)∧f8 Z wx)
   case first=>
    have I: ∀wx,f8 Z wx→wx.cell? ⟨X,0,none⟩=some (.int .u64 c.k):=fun wx h=>(B.o.keep h).c0;by_cases hz:i=0
    ·have K0: ¬(0:Int)<(i:Int):=by omega
     have f0: ¬0<i:=by omega
     have b0:=decide_eq_false f0;have A:c6 (zV d i=false):=by show _=_;unfold zV;rw[b0];rfl
     clear hz;refine wp_region_noPanic ?_;refine wp_region_held_drew (S:=fun wx=>f8 Z wx) (by kernel_rfl) ?_ fun l=>?_
     ·exact(Below.refl _ _).drew
     refine g6 0 19 rfl l ?_;refine g6 1 20 rfl l ?_;refine g6 2 21 rfl l ?_;refine C2 3 22 rfl l ?_;try simp only[Act.put,zz]
     refine C2 4 23 rfl l ?_;try simp only[Act.put,zz]
     refine C2 5 24 rfl l ?_;try simp only[Act.put,zz]
     refine C2 6 25 rfl l ?_;try simp only[Act.put,zz]
     refine C2 7 26 rfl l ?_;try simp only[Act.put,zz]
     refine C2 8 27 rfl l ?_;try simp only[Act.put,zz]
     refine C2 9 28 rfl l ?_;try simp only[Act.put,zz]
     refine C2 10 29 rfl l ?_;try simp only[Act.put,zz]
     refine C2 11 30 rfl l ?_;try simp only[Act.put,zz]
     refine g6 12 31 rfl l ?_;refine wpAnyH_done (by kernel_rfl) ?_ _;refine NoPanic.normal ?_;go_wp2_with fail;go_meet;exact⟨by rw[A.o],l⟩
    ·obtain⟨j,hj⟩: ∃j,i=j+1:=⟨i-1,by omega⟩;have S0:=b9 hj;have K0:(0:Int)<(i:Int):=by omega
     have f0:0<i:=by omega
     have b0:=decide_eq_true f0;have hw:IntKind.i64.wrap ((i:Int)-1)=(j:Int):=by rw[IntKind.wrap_i64];omega
     have Z0:(0:Int)≤(j:Int):=by omega
     have Y0:(j:Int)<(n:Int):=by omega
     have X0:j<n:=by omega
     have o0:j+1<d.length:=by have:=S0.o;omega
     obtain⟨q,hq⟩:=c7 (d[j].k);have v0:c6 (Z.cell? ⟨g,j*6,none⟩=some (.int .u64 q)):=by rw[hq];exact(mP N0.o (show j<d.length by omega)).1
     have k0: ∀wx,f8 Z wx→wx.cell? ⟨g,j*6,none⟩=some (.int .u64 q):=fun wx h=>by rw[h.cell (p:=⟨g,j*6,none⟩) (c8 v0.o)];exact v0.o
     have A:c6 (zV d i=(q==c.k)):=by
      show _=_;unfold zV;rw[b0,j0.o,hq,show i-1=j by omega];simp[List.getD,show j<d.length by omega]
     by_cases D:q=c.k
     ·have I0:((q:Int)==(c.k:Int))=true:=by rw[D];simp
      have H:(q==c.k)=true:=by rw[D];simp
      clear hz hj hq o0 D;refine wp_region_noPanic ?_;refine wp_region_held_drew (S:=fun wx=>f8 Z wx) (by kernel_rfl) ?_ fun l=>?_
      ·exact(Below.refl _ _).drew
      refine g6 0 19 rfl l ?_;refine g6 1 20 rfl l ?_;refine g6 2 21 rfl l ?_;refine g6 3 22 rfl l ?_;refine g6 4 23 rfl l ?_;refine g6 5 24 rfl l ?_;refine g6 6 25 rfl l ?_;refine g6 7 26 rfl l ?_;refine g6 8 27 rfl l ?_;refine g6 9 28 rfl l ?_;refine g6 10 29 rfl l ?_;refine g6 11 30 rfl l ?_;refine g6 12 31 rfl l ?_;refine wpAnyH_done (by kernel_rfl) ?_ _;refine NoPanic.normal ?_;go_wp2_with fail;go_meet;exact⟨by rw[A.o,H],l⟩
     ·have I0:((q:Int)==(c.k:Int))=false:=by rw[beq_eq_false_iff_ne];omega
      have H:(q==c.k)=false:=by rw[beq_eq_false_iff_ne];exact D
      clear hz hj hq o0 D;refine wp_region_noPanic ?_;refine wp_region_held_drew (S:=fun wx=>f8 Z wx) (by kernel_rfl) ?_ fun l=>?_
      ·exact(Below.refl _ _).drew
      refine g6 0 19 rfl l ?_;refine g6 1 20 rfl l ?_;refine g6 2 21 rfl l ?_;refine g6 3 22 rfl l ?_;refine g6 4 23 rfl l ?_;refine g6 5 24 rfl l ?_;refine g6 6 25 rfl l ?_;refine g6 7 26 rfl l ?_;refine g6 8 27 rfl l ?_;refine g6 9 28 rfl l ?_;refine g6 10 29 rfl l ?_;refine g6 11 30 rfl l ?_;refine g6 12 31 rfl l ?_;refine wpAnyH_done (by kernel_rfl) ?_ _;refine NoPanic.normal ?_;go_wp2_with fail;go_meet;exact⟨by rw[A.o,H],l⟩
   case rest=>
    rename_i wy
    obtain⟨J,r⟩:=hcut;have O:=b9 r;clear r
    cases z:zV d i
    rotate_left
    ·rw[z]at J;subst J;have t:=b9 (Y.o (fun h=>by rw[h.1]at z;cases z));have u:=b9 (a9 s.o (a9 x.o (a9 G.o O.o)));go_wp2_with fail;go_ret;exact⟨false,rfl,⟨fun h=>(by cases h),fun h=>absurd h t.o⟩,u.o⟩
    rw[z]at J;subst J;have A:=b9 z;clear z;obtain⟨I,W,U,T,R,P,_⟩:=B.o.keep O.o;have L:c6 c.okB:=U0.o c R0.o;have M:c6 (oS k m c=(fK k c&&!aG c&&kY m.b m.k c)):=rfl;have h0:c6 (oS k m c=false→ ¬Ev k m Ls):=fun h=>Y.o (fun h2=>by have:=h2.2;rw[j0.o,h]at this;cases this)
    cases hf:fK k c
    ·have t:=b9 (h0.o (by rw[M.o,hf];rfl));go_wp2_with fail;refine(wM k (c:=c) ⟨L.o.2.1,L.o.2.2.1⟩ _).mono ?_;rw[hf];rintro e w3 ⟨rfl,r⟩;have u:=b9 (a9 s.o (a9 x.o (a9 G.o (a9 O.o r))));clear r I W U T R P;go_wp2_with fail;go_ret;exact⟨false,rfl,⟨fun h=>(by cases h),fun h=>absurd h t.o⟩,u.o⟩
    go_wp2_with fail;refine(wM k (c:=c) ⟨L.o.2.1,L.o.2.2.1⟩ _).mono ?_;rw[hf];rintro e w3 ⟨rfl,r⟩;have l0:=b9 (a9 O.o r);clear r I W U T R P;obtain⟨I,W,U,T,R,P,_⟩:=B.o.keep l0.o
    cases hm:aG c
    rotate_left
    ·have t:=b9 (h0.o (by rw[M.o,hf,hm];rfl));go_wp2_with fail;refine(fN c _).mono ?_;rw[hm];rintro e w4 ⟨rfl,r⟩;have u:=b9 (a9 s.o (a9 x.o (a9 G.o (a9 l0.o r))));clear r I W U T R P;go_wp2_with fail;go_ret;exact⟨false,rfl,⟨fun h=>(by cases h),fun h=>absurd h t.o⟩,u.o⟩
    go_wp2_with fail;refine(fN c _).mono ?_;rw[hm];rintro e w4 ⟨rfl,r⟩;have C:=b9 (a9 l0.o r);clear r I W U T R P;obtain⟨I,W,U,T,R,P,_⟩:=B.o.keep C.o;obtain⟨c0,c1,c2,_⟩:=P0.o.keep C.o
    cases K:kY m.b m.k c
    ·have t:=b9 (h0.o (by rw[M.o,hf,hm,K];rfl));go_wp2_with fail;refine(tC (A0.o.below C.o) m.b m.a c).mono ?_;rw[K];rintro e w5 ⟨rfl,r⟩;have u:=b9 (a9 s.o (a9 x.o (a9 G.o (a9 C.o r))));clear r I W U T R P c0 c1 c2;go_wp2_with fail;go_ret;exact⟨false,rfl,⟨fun h=>(by cases h),fun h=>absurd h t.o⟩,u.o⟩
    ·have M0:c6 (∀j,j<i+1→Pd k m d j):=fun j hj=>by
      rcases Nat.lt_or_ge j i with h|h
      ·exact x0.o j h
      ·obtain rfl:j=i:=by omega
       exact⟨A.o,by rw[j0.o,M.o,hf,hm,K];rfl⟩
     go_wp2_with fail;refine(tC (A0.o.below C.o) m.b m.a c).mono ?_;rw[K];rintro e w5 ⟨rfl,r⟩;have W0:=b9 (a9 G.o (a9 C.o r));clear r I W U T R P c0 c1 c2;go_wp2_with fail;go_roundw
     case rel=>exact⟨i+1,by go_num,J0,M0.o,W0.o⟩
     case measure=>simp[intOf];omega
def iJ(k:Int)(S:Dk)(P:Bo)(m:Mk)(Ls:List (List Cl)):Prop:=s9 k=true∧fR S=0∧pT S=some P∧P.tab.length=7∧B7 (A0 P S 0)=(m,0)∧C8 P S 6=some Ls∧Ev k m Ls
def uH(k:Int)(S:Dk)(c:Int):Prop:=(s9 k=false∧c=1)∨(s9 k=true∧fR S≠0∧c=fR S)∨(s9 k=true∧fR S=0∧c=133∧ ∀P m Ls,¬iJ k S P m Ls)
def Ge(D:n9)(w:d9)(dv:Value)(k:Int)(S:Dk)(e:Ending)(w':d9):Prop:=
 ∃S',F0 9 S S'∧Ch D w w'∧
  ((∃c D',e= .returned (.tuple #[.pointer none,.int .i64 c])∧uH k S c∧I9 89 D' w' dv S'∧ ∀x,D' x→D x∨w.heap.size≤x)∨
   (∃A' sp P m Ls,e= .returned (.tuple #[.pointer (some ⟨sp,0,none⟩),.int .i64 0])∧iJ k S P m Ls∧w.heap.size≤sp∧ST A' w' (.pointer (some ⟨sp,0,none⟩)) dv k P S'∧ ∀x,A' x→D x∨w.heap.size≤x))
theorem Dd(S:Dk): ∀n P,O1 S n=some P→P.over=false:=by
 intro n
 induction n with
 |zero=>intro P h;cases h
 |succ n a=>
  intro P h;unfold O1 V6 at h
  split at h
  ·exact a P h
  ·split at h
   ·cases h;rfl
   ·split at h
    ·cases h;rfl
    ·cases h;exact a _ (by assumption)
theorem yS{S S':Dk}{P:Bo}{j:Nat}(h:fR S=0)(hp:pT S=some P)(hr:F0 j S S'):i6 P S'=false:=by
 cases hd:S.down
 ·unfold pT at hp;rw[hd]at hp;have:=Dd S 2 P (by simpa using hp);unfold i6;rw[this,hr.dn,hd];rfl
 ·unfold fR at h;rw[hd]at h;simp at h
theorem NR{S:Dk}(h:fR S=0): ∃P,pT S=some P∧tN S=dI S 2:=by
 cases hd:S.down
 ·unfold fR at h;rw[hd]at h;unfold pT tN;rw[hd];simp at h⊢
  cases hh:O1 S 2
  ·rw[hh]at h;simp at h
  ·exact⟨_,rfl⟩
 ·unfold fR at h;rw[hd]at h;simp at h
theorem NS{S:Dk}(h:fR S≠0):pT S=none∧F0 2 S (tN S):=by
 cases hd:S.down
 ·unfold fR at h;rw[hd]at h;unfold pT tN;rw[hd];simp at h⊢;exact⟨h,qA S 2⟩
 ·unfold pT tN;rw[hd];exact⟨rfl,F0.refl _⟩
theorem Ha{k:Int}{S:Dk}{P P':Bo}{m m':Mk}{Ls Ls':List (List Cl)}(h:iJ k S P m Ls)(h':iJ k S P' m' Ls'):P'=P∧m'=m∧Ls'=Ls:=by
 obtain⟨_,_,a,_,b,c,_⟩:=h;obtain⟨_,_,a',_,b',c',_⟩:=h';rw[a]at a'
 cases a'
 rw[b]at b';rw[c]at c'
 cases b'
 cases c'
 exact⟨rfl,rfl,rfl⟩
theorem QO{D:n9}{w:d9}{dv:Value}{S:Dk}(hd:I9 89 D w dv S)(hrd:S.rd<1000000000)(k:Int):
  Calls Tryz.prog 6 #[dv,.int .i64 k] w (Ge D w dv k S):=by
 have HD:=b9 hd;have Y:=b9 hrd;obtain⟨U,f1⟩: ∃U,dv= .pointer (some ⟨U,0,none⟩):=by obtain⟨U,gp,t1,e,_⟩:=hd;exact⟨U,e⟩
 subst f1;clear hd hrd
 cases u:s9 k
 ·go_in;go_wp2_with fail;refine(Z3 U k _).mono ?_;unfold RM;rw[u,if_neg (by simp)];rintro e F ⟨rfl,g⟩;replace g:=g.symm;subst g;go_wp2_with fail;go_ret2;exact⟨S,F0.refl _,Ch.refl _ _,.inl ⟨1,D,rfl,.inl ⟨u,rfl⟩,HD.o,fun x l=> .inl l⟩⟩
 by_cases t:fR S=0;rotate_left
 ·have I0:=NS t;have R0:=b9 I0;obtain⟨OI,t0⟩:=c7 (fR S);have S0:=b9 t0;have r1: ¬OI=0:=by rw[t0];exact t
  have r:=b9 t;clear I0 t t0;go_in;go_wp2_with fail;refine(Z3 U k _).mono ?_;unfold RM;rw[if_pos u];rintro e F ⟨rfl,g⟩;replace g:=g.symm;subst g;go_wp2_with fail;refine(vF HD.o (by have:=Y.o;omega)).mono ?_;rw[←S0.o];rintro e F ⟨v1,rfl,J0,_,I⟩;obtain⟨rfl,D',n,l⟩:=J0 R0.o.1
  have HF:c6 (Ge D w (.pointer (some ⟨U,0,none⟩)) k S (.returned (.tuple #[.pointer none,.int .i64 OI])) F):=
   ⟨tN S,R0.o.2.mono (by omega),I,.inl ⟨OI,D',rfl,.inr (.inl ⟨u,r.o,S0.o⟩),n,l⟩⟩
  clear J0 I n l;go_wp2_with fail;go_ret2;exact HF.o
 obtain⟨P,hP,hS⟩:=NR t;have r:=b9 t;have HP:=b9 hP;have j1:=b9 hS;have M:=b9 u;clear t hP hS;go_in;go_wp2_with fail;refine(Z3 U k _).mono ?_;unfold RM;rw[if_pos u];rintro e F ⟨rfl,g⟩;replace g:=g.symm;subst g;clear u;go_wp2_with fail;refine(vF HD.o (by have:=Y.o;omega)).mono ?_;rw[r.o,HP.o,j1.o];rintro e F ⟨v1,rfl,_,h0,I⟩;obtain⟨A,J,hA⟩:=h0 P rfl;obtain⟨S1,s0⟩:=c7 (dI S 2);rw[←s0]at J;have K:c6 (F0 2 S S1):=by rw[s0];exact qA S 2
 have N:=b9 J;have HA:=b9 hA;have b0:=b9 I;have q1:c6 (∀x,A x→x<F.heap.size):=fun x l=>J.lt l;obtain⟨pb,g1⟩: ∃pb,v1= .pointer (some ⟨pb,0,none⟩):=by obtain⟨D',pb,tv,e,_⟩:=J;exact⟨pb,e⟩
 subst g1;clear h0 J hA I s0;by_cases h7:P.tab.length=7;rotate_left
 ·have s1: ¬(P.tab.length:Int)=7:=by omega
  have B:c6 (uH k S 133):= .inr (.inr ⟨M.o,r.o,rfl,fun P' m Ls h=>by
   have e:=h.2.2.1;rw[HP.o]at e
   cases e
   exact h7 h.2.2.2.1⟩)
  go_wp2_with fail;refine B4 (rS N.o) ?_;go_wp2_with fail;go_ret2;obtain⟨D',n,y⟩:=Bk.dsk N.o;exact⟨S1,K.o.mono (by omega),b0.o,.inl ⟨133,D',rfl,B.o,n,fun x l=>HA.o x (y x l)⟩⟩
 have H7:=b9 h7;clear h7;go_wp2_with fail;refine(rS N.o).mono ?_;rw[H7.o];rintro e wz ⟨rfl,l0⟩;replace l0:=l0.symm;subst l0
 have X:c6 (ST A (F.alloc (Obj.cells #[.pointer (some ⟨pb,0,none⟩),.int .i64 k] 81)) (.pointer (some ⟨F.heap.size,0,none⟩)) (.pointer (some ⟨U,0,none⟩)) k P S1):=
  ⟨F.heap.size,_,rfl,heap_alloc_new F _,fun e=>by have:=q1.o _ e;omega,N.o.below (a8 _ _),H7.o⟩
 have B0:c6 (Ch D w (F.alloc (Obj.cells #[.pointer (some ⟨pb,0,none⟩),.int .i64 k] 81))):=b0.o.self (Ch.of_below (a8 _ _));have Q0:=b9 b0.o.size;go_upto_region 10 with fail
 generalize F.heap.size=sp at X Q0⊢;generalize F.alloc (Obj.cells #[.pointer (some ⟨pb,0,none⟩),.int .i64 k] 81)=w2 at X B0⊢;clear N b0;go_wp2_with fail;refine(X6 X.o (by have W:=K.o.rd;have h2:=Y.o;omega)).mono ?_;rintro e w3 ⟨cc,m,kv,S3,rfl,ho,hcase,O,H0,q0⟩;have G:c6 (F0 3 S S3):=(K.o.trans H0).mono (by omega);have k0:=b9 (yS r.o HP.o K.o);rw[F5 k0.o]at O;have R:=b9 O;have G0:=b9 (B0.o.trans q0 HA.o);have W0:=b9 q0.size;have z0:=b9 (z9 ho);have m1:c6 (∀x,kv.ownBlock=some x→w2.heap.size≤x∧x<w3.heap.size):=fun x l=>ho.lt x l;have d1:c6 (∀x,A x→x<w2.heap.size):=fun x l=>X.o.lt l;obtain⟨ka,kn,kc,rfl⟩:=F2 z0.o;clear ho O H0 q0 B0
 have y0:c6 ((cc=133∧(B7 (A0 P S 0)).2≠0)∨(cc=0∧B7 (A0 P S 0)=(m,0))):=by
  rw[J3 K.o]at hcase;rcases hcase with ⟨_,h,_⟩|⟨W,_,h2,_⟩|⟨W,_,h2⟩
  ·rw[k0.o]at h;cases h
  ·exact .inl ⟨W,h2⟩
  ·exact .inr ⟨W,h2⟩
 clear hcase;by_cases v:cc=133
 ·subst v
  have B:c6 (uH k S 133):= .inr (.inr ⟨M.o,r.o,rfl,fun P' m' Ls h=>by
   have e:=h.2.2.1;rw[HP.o]at e
   cases e
   have H:=h.2.2.2.2.1;rcases y0.o with ⟨_,q⟩|⟨q,_⟩
   ·rw[H]at q;exact q rfl
   ·omega⟩)
  go_wp2_with fail;go_ret2;obtain⟨D',n,y⟩:=(R.o.below (a8 _ _)).dsk;exact⟨S3,G.o.mono (by omega),G0.o.self (Ch.of_below (a8 _ _)),.inl ⟨133,D',rfl,B.o,n,fun x l=>HA.o x (y x l)⟩⟩
 have r0:cc=0∧B7 (A0 P S 0)=(m,0):=by
  rcases y0.o with ⟨q,_⟩|q
  ·exact absurd q v
  ·exact q
 obtain⟨rfl,K0⟩:=r0;have T0:=b9 K0;clear K0 y0 v;go_upto_region 11 with fail
 have C:=b9 (A9 w3 m.b m.a (.slice ka kn kc));have g0:c6 (f8 w3 (w3.alloc (Obj.cells #[.int .i64 m.b,.int .i64 m.a,.slice ka kn kc] 62))):=a8 _ _;obtain⟨MX,v0⟩:=c7 w3.heap.size;have k1:=b9 v0;rw[←v0]at C⊢;clear v0;generalize w3.alloc (Obj.cells #[.int .i64 m.b,.int .i64 m.a,.slice ka kn kc] 62)=w4 at C g0⊢;have i0:=b9 (R.o.below g0.o);have o1:=b9 (G0.o.self (Ch.of_below g0.o));have Z0:=b9 (z0.o.below g0.o);clear R G0 z0;go_wp2_with fail;refine(cD i0.o (by have W:=G.o.rd;have h2:=Y.o;omega)).mono ?_;rintro e T ⟨c,f,S5,rfl,d,L0,hcase,hst5,m0,s⟩;have j0:=b9 (yS r.o HP.o G.o);rw[F5 j0.o]at hst5;have Q:=b9 hst5;have x0:c6 (F0 9 S S5):=(G.o.trans m0).mono (by omega);have D0:=b9 (o1.o.trans s HA.o);have L:c6 (∀x,w2.heap.size≤x→ ¬A x):=fun x l e=>by have:=d1.o x e;omega
 have E:c6 (w2.heap.size≤MX):=by
  have:=k1.o;show _≤_;rw[this];exact W0.o
 have l1:c6 (MB T MX m.b m.a (.slice ka kn kc)):=⟨s.cell C.o.c0 (L.o _ E.o),s.cell C.o.c1 (L.o _ E.o),s.cell C.o.c2 (L.o _ E.o),fun j=>by rw[TK (p:=⟨MX,j,none⟩) s (show MX<_ from c8 C.o.c0) (L.o _ E.o)];exact C.o.z j⟩;have Y0:=b9 (pJ Z0.o s (fun x l=>L.o x (m1.o x l).1));obtain⟨a0,n0,p0,e0⟩:=d 0 (by omega);obtain⟨a1,n1,p1,e1⟩:=d 1 (by omega);obtain⟨a2,n2,p2,H⟩:=d 2 (by omega);obtain⟨a3,n3,p3,e3⟩:=d 3 (by omega);obtain⟨a4,n4,p4,e4⟩:=d 4 (by omega);obtain⟨a5,n5,p5,e5⟩:=d 5 (by omega)
 have C0:c6 ((c=133∧C8 P S 6=none)∨(c=0∧ ∃Ls,C8 P S 6=some Ls∧ ∀j,j<6→Cv T (f j) (B3 Ls j))):=by
  rw[dR G.o]at hcase;rcases hcase with ⟨_,h⟩|⟨W,_,h⟩|⟨W,h2,L',h3,h4⟩
  ·rw[j0.o]at h;cases h
  ·exact .inl ⟨W,h⟩
  ·exact .inr ⟨W,L',h3,h4⟩
 rw[e0,e1,H,e3,e4,e5];by_cases v:c=133
 ·subst v
  have B:c6 (uH k S 133):= .inr (.inr ⟨M.o,r.o,rfl,fun P' m' Ls h=>by
   have e:=h.2.2.1;rw[HP.o]at e
   cases e
   have H:=h.2.2.2.2.2.1;rcases C0.o with ⟨_,q⟩|⟨q,_⟩
   ·rw[H]at q;cases q
   ·omega⟩)
  clear d L0 hcase hst5 m0 s e0 e1 H e3 e4 e5;go_wp2_with fail;go_ret2;obtain⟨D',n,y⟩:=(Q.o.below (a8 _ _)).dsk;exact⟨S5,x0.o,D0.o.self (Ch.of_below (a8 _ _)),.inl ⟨133,D',rfl,B.o,n,fun x l=>HA.o x (y x l)⟩⟩
 have r0:c=0∧ ∃Ls,C8 P S 6=some Ls∧ ∀j,j<6→Cv T (f j) (B3 Ls j):=by
  rcases C0.o with ⟨q,_⟩|q
  ·exact absurd q v
  ·exact q
 obtain⟨rfl,Ls,o0,M0⟩:=r0;have U0:=b9 o0;have Z:c6 (MM Ls):=nC o0 (fun p=>by rw[←J3 G.o];exact(mV i0.o p).2)
 have w0:c6 (SH (T.alloc (Obj.cells #[.slice a0 n0 p0,.slice a1 n1 p1,.slice a2 n2 p2,.slice a3 n3 p3,.slice a4 n4 p4,.slice a5 n5 p5] 84)) T.heap.size f Ls):=by
  have h:=gI T f Z.o.1 M0;rw[e0,e1,H,e3,e4,e5]at h;exact h
 have f0:c6 (f8 T (T.alloc (Obj.cells #[.slice a0 n0 p0,.slice a1 n1 p1,.slice a2 n2 p2,.slice a3 n3 p3,.slice a4 n4 p4,.slice a5 n5 p5] 84))):=a8 _ _;clear d L0 hcase hst5 m0 s e0 e1 H e3 e4 e5 o0 M0 v C0;go_upto_region 14 with fail
 obtain⟨TX,P0⟩:=c7 T.heap.size;rw[←P0]at w0⊢;clear P0;generalize (T.alloc (Obj.cells #[.slice a0 n0 p0,.slice a1 n1 p1,.slice a2 n2 p2,.slice a3 n3 p3,.slice a4 n4 p4,.slice a5 n5 p5] 84))=w6 at w0 f0⊢;obtain⟨c0,c1,c2,_⟩:=l1.o.keep f0.o;have X0:=b9 (Y0.o.below f0.o)
 have b1:c6 (∀c∈Ls.flatten,c.okB):=fun c hc=>by
  obtain⟨i,hi,h⟩:=EH Z.o.1 hc;exact Z.o.2.1 i hi c h
 go_wp2_with fail;refine(RJ w0.o X0.o Z.o.2.2 b1.o).mono ?_;rintro e w7 ⟨b,rfl,N0,O0⟩;have d0:=b9 (a9 f0.o O0);have V0:=b9 N0;clear O0 c0 c1 c2 N0
 cases b
 ·have B:c6 (uH k S 133):= .inr (.inr ⟨M.o,r.o,rfl,fun P' m' Ls' h=>by
   have e:=h.2.2.1;rw[HP.o]at e
   cases e
   have H:=h.2.2.2.2.1;rw[T0.o]at H
   cases H
   have e3:=h.2.2.2.2.2.1;rw[U0.o]at e3
   cases e3
   have:=V0.o.2 h.2.2.2.2.2.2
   cases this⟩)
  go_wp2_with fail;go_ret2;obtain⟨D',n,y⟩:=(Q.o.below d0.o).dsk;exact⟨S5,x0.o,D0.o.self (Ch.of_below d0.o),.inl ⟨133,D',rfl,B.o,n,fun x l=>HA.o x (y x l)⟩⟩
 ·have i1:c6 (iJ k S P m Ls):=⟨M.o,r.o,HP.o,H7.o,T0.o,U0.o,V0.o.1 rfl⟩;go_wp2_with fail;go_ret2;exact⟨S5,x0.o,D0.o.self (Ch.of_below d0.o),.inr ⟨A,sp,P,m,Ls,rfl,i1.o,Q0.o,Q.o.below d0.o,HA.o⟩⟩
section
section

variable{T:TypeId}{D:n9}{w w':d9}{v:Value}{sb gp cap:Nat}{S:Dk}

theorem uU(h:I9 T D w v S):Calls Tryz.prog 13 #[v] w fun e w'=>e= .returned (.tuple #[])∧I9 T D w' v (mG S)∧Ch D w w':=by
 obtain⟨c,d,b,rfl,h,a⟩:=h;have HM:=b9 h;have HK:c6 S.ok:=a;have g:=h.c1;have f:=h.c2;have f1:=h.soft 1;have f2:=h.soft 2;clear h a;go_in;go_wp2_with fail;refine bodyPost_end (results_none rfl _ _ _) rfl ?_;exact⟨rfl,⟨c,d,b,rfl,(HM.o.put 1 (.bool true) (S':={S with down:=true}) rfl rfl).put 2 (.int .i64 (-1)) rfl rfl,XB HK.o⟩,(I4 _ _ HM.o.d1).self (I4 _ _ HM.o.d1)⟩
theorem VT(h:I9 T D w v S):Calls Tryz.prog 15 #[v] w fun e w'=>e= .returned (.tuple #[])∧I9 T D w' v (WZ S)∧Ch D w w':=by
 obtain⟨c,d,b,rfl,h,a⟩:=h;have HM:=b9 h;have HK:c6 S.ok:=a;have g:=h.c1;have f:=h.c2;have f1:=h.soft 1;have f2:=h.soft 2;clear h a;go_in;go_wp2_with fail;refine bodyPost_end (results_none rfl _ _ _) rfl ?_;exact⟨rfl,⟨c,d,b,rfl,(HM.o.put 1 (.bool false) (S':={S with down:=false}) rfl rfl).put 2 (.int .i64 (-1)) rfl rfl,Fh HK.o⟩,(I4 _ _ HM.o.d1).self (I4 _ _ HM.o.d1)⟩
theorem RN(h:I9 T D w v S){n:Int}(hn:n<9223372036854775808):Calls Tryz.prog 11 #[v,.int .i64 n] w fun e w'=>e= .returned (.tuple #[])∧I9 T D w' v (jI S n)∧Ch D w w':=by
 obtain⟨d,f,b,rfl,h,a⟩:=h;have HM:=b9 h;have HK:c6 S.ok:=a;have i:=h.c2;have f2:=h.soft 2;have HN:=b9 hn;clear h a hn;by_cases c:n<0
 ·have HS:c6 (jI S n={S with left:= -1}):=by show _=_;unfold jI;rw[if_pos c]
  go_in;go_wp2_with fail;refine bodyPost_end (results_none rfl _ _ _) rfl ?_;refine⟨rfl,⟨d,f,b,rfl,?_,yT HK.o HN.o⟩,(I4 _ _ HM.o.d1).self (I4 _ _ HM.o.d1)⟩;rw[HS.o];exact(HM.o.put 2 (.int .i64 n) (S':={S with left:=n}) rfl rfl).put 2 _ rfl rfl
 ·have HS:c6 (jI S n={S with left:=n}):=by show _=_;unfold jI;rw[if_neg c]
  have g:0≤n:=by omega
  clear c;go_in;go_wp2_with fail;refine bodyPost_end (results_none rfl _ _ _) rfl ?_;refine⟨rfl,⟨d,f,b,rfl,?_,yT HK.o HN.o⟩,I4 _ _ HM.o.d1⟩;rw[HS.o];exact HM.o.put 2 _ rfl rfl
theorem Q5(h:I9 T D w v S):Calls Tryz.prog 101 #[v] w fun e w'=>e= .returned (.bool S.down)∧w'=w:=by
 obtain⟨c,d,b,rfl,h,a⟩:=h;have f:=h.c1;clear h a;go_in;go_wp2_with fail;go_ret;exact⟨rfl,rfl⟩
theorem O4(h:I9 T D w v S):Calls Tryz.prog 93 #[v] w fun e w'=>e= .returned (.int .i64 S.bl.length)∧w'=w:=by
 obtain⟨c,d,b,rfl,h,a⟩:=h;have f:=h.c0;clear h a;go_in;go_wp2_with fail;go_ret;exact⟨rfl,rfl⟩
theorem xO(h:I9 T D w v S):Calls Tryz.prog 19 #[v] w fun e w'=>e= .returned (.int .i64 S.wr)∧w'=w:=by
 obtain⟨c,d,b,rfl,h,a⟩:=h;have f:=h.c4;clear h a;go_in;go_wp2_with fail;go_ret;exact⟨rfl,rfl⟩
theorem CC(h:I9 T D w v S):Calls Tryz.prog 22 #[v] w fun e w'=> ∃g cap,e= .returned (.slice (some ⟨g,0,none⟩) S.bl.length cap)∧Gr (fun x=>w.heap.size≤x) w' g cap S.bl∧w.heap.size≤g∧f8 w w':=by
 obtain⟨k,i,cap,rfl,h,a⟩:=h;have l:=h.c0;have HP:c6 (PS w (.slice (some ⟨i,0,none⟩) S.bl.length cap) S.bl):=h.row.pv a.byt;have HK:c6 S.ok:=a;clear h a;go_in;go_wp2_with fail;refine(yM HP.o HK.o.n1 HK.o.n64 HK.o.len).mono ?_;rintro e j ⟨g,cap1,rfl,d,b,f⟩;have HG:=b9 d;have c:c6 (w.heap.size≤g):=b;clear d b;go_wp2_with fail;go_ret;exact⟨g,cap1,rfl,HG.o,c.o,f⟩
end
end
section
section

variable{T:TypeId}{D:n9}{w w':d9}{v bv:Value}{sb gp cap:Nat}{S:Dk}{b:f7}

theorem uW(S:Dk)(i:Int):(S.down=true∧I2 S i=80)∨(S.down=false∧i<0∧I2 S i=81)∨(S.down=false∧0≤i∧(S.bl.length:Int)≤i∧I2 S i=81)∨(I2 S i=0):=by
 unfold I2
 cases S.down
 ·rw[if_neg (by simp)];by_cases b:i<0
  ·exact .inr (.inl ⟨rfl,b,by rw[if_pos (.inl b)]⟩)
  ·by_cases a:(S.bl.length:Int)≤i
   ·exact .inr (.inr (.inl ⟨rfl,by omega,a,by rw[if_pos (.inr a)]⟩))
   ·exact .inr (.inr (.inr (by rw[if_neg (by omega)])))
 ·exact .inl ⟨rfl,by rw[if_pos rfl]⟩
theorem jX(h:I9 T D w v S)(i:Int)(hrd:S.rd<9223372036854775807):Calls Tryz.prog 102 #[v,.int .i64 i] w fun e w'=>Rd T D w v S i e w':=by
 have HW:=b9 h;obtain⟨f,g,q,rfl,h,l⟩:=h;have HM:=b9 h;have HK:c6 S.ok:=l;clear h l;by_cases c:I2 S i=0
 ·obtain⟨n,k,rfl,x⟩:=kB c;have HR:=b9 c;have j:=HM.o.c1;rw[n]at j;have I:(k:Int)<(S.bl.length:Int):=by omega
  clear c n;have M:=HM.o.c3;have f3:=HM.o.soft 3;have G:=HM.o.c0;have s:c6 (DM T D (w.setCell ⟨f,3,none⟩ (.int .i64 ((S.rd:Int)+1))) f g q {S with rd:=S.rd+1}):=HM.o.put 3 _ rfl rfl;obtain⟨u,z,m,_⟩:=s.o.row.at (i:=k) x;have d:c6 (Bv (w.setCell ⟨f,3,none⟩ (.int .i64 ((S.rd:Int)+1))) u (bk S.bl k)):=m.bv (HK.o.byt _ (fQ x));have HL:c6 ((bk S.bl k).length≤140737488355328):=Nat.le_trans (HK.o.len _ (fQ x)) (by omega)
  have H:w.cell? ⟨g,k,none⟩=some u:=by
   rw[←z];exact(World.cell?_of_block (w:=w) (a:=⟨g,k,none⟩) (l8 3 _ HM.o.a1)).symm
  obtain⟨p,t⟩:=c7 (bk S.bl k);rw[←t]at d HL;have HP:=b9 t;obtain⟨N,cp,rfl,_,_⟩:=C9 d.o;have K:IntKind.i64.wrap ((S.rd:Int)+1)=(S.rd:Int)+1:=dK (by omega) (by omega);have y:=HK.o.n64;have B:=HM.o.a1;have A: ¬f=g:=fun e=>HM.o.a1 e.symm;clear m t z hrd;go_in;go_wp2_with fail;refine(cN d.o HL.o).mono ?_;rintro e J ⟨r,rfl,C,E⟩;go_wp2_with fail;go_ret2;exact Fc HR.o rfl ⟨f,g,q,rfl,s.o,XA HK.o _⟩ (I4 _ _ HM.o.d1) (by rw[←HP.o];exact C) E
 ·have HA:=b9 (WE HW.o c);have G:=HM.o.c0;have j:=HM.o.c1;have y:=HK.o.n64;rcases uW S i with ⟨hd,b⟩|⟨hd,F,b⟩|⟨hd,F,L,b⟩|b
  ·rw[b]at HA;rw[hd]at j;clear hd b c hrd;go_in;go_wp2_with fail;go_ret2;exact HA.o
  ·rw[b]at HA;rw[hd]at j;clear hd b c hrd;go_in;go_wp2_with fail;go_ret2;exact HA.o
  ·rw[b]at HA;rw[hd]at j;clear hd b c hrd;go_in;go_wp2_with fail;go_ret2;exact HA.o
  ·exact absurd b c
theorem BJ(h:DM T D w sb gp cap S)(hok:S.ok){k:Nat}(hr:I2 S k=0)(hk:k<S.bl.length)(hb:Bv w bv b)(hbl:b.length≤1024)(hl:S.left= -1)(hwr:S.wr<9223372036854775807):
  Calls Tryz.prog 94 #[.pointer (some ⟨sb,0,none⟩),.int .i64 k,bv] w fun e w'=>Wt T D w (.pointer (some ⟨sb,0,none⟩)) S k b e w':=by
 have HM:=b9 h;have HK:c6 S.ok:=hok;have t:c6 (b.length≤1024):=hbl;have C:=b9 hk;have HI:c6 (l7 S k b=0):=by show _=_;unfold l7;rw[if_neg (fun e=>e hr),if_neg (by omega),if_neg (by omega)]
 have HS:c6 (i7 S k b=M7 S k b):=by show _=_;unfold i7;rw[if_neg (fun e=>e hr),if_neg (by omega),if_neg (by omega)];simp
 have HD:c6 (bB S.left= -1):=by show _=_;unfold bB;rw[if_pos hl]
 have F:c6 (∀c∈b,c<256):=hb.2;obtain⟨a,d⟩:=c7 w
 have f:c6 (DM T D a sb gp cap {S with left:=bB S.left}):=by
  show DM _ _ _ _ _ _ _;rw[d,HD.o,←hl];exact h
 have s:c6 (Ch D w a):=by show Ch _ _ _;rw[d];exact Ch.refl _ _
 obtain⟨bo,bc,rfl,_,_⟩:=C9 hb
 have G:c6 (Bv a (.slice bo b.length bc) b):=by
  show Bv _ _ _;rw[d];exact hb
 obtain⟨u0,u,_⟩:=f.o.row.at (i:=k) hk;have f0:=f.o.row.soft k;have H:=f.o.c0;have O:Wq a sb gp k (.slice (some ⟨gp,0,none⟩) S.bl.length cap) a.drew:=Wq.go (wx:=a) ⟨Ch.refl _ _,H,⟨u0,u⟩,f0⟩ (d8 _ _);have z:=b9 d;have J:=h.c2;have W:=h.c0;have K:=h.c1;rw[(kB hr).1]at K;have f2:=h.soft 2;have P:=hok.n64;have M:(b.length:Int)≤1024:=by omega
 have N:decide ((1024:Int)<(b.length:Int))=false:=decide_eq_false (by omega);have L:(k:Int)<(S.bl.length:Int):=by omega
 have Q:IntKind.i64.wrap ((S.wr:Int)+1)=(S.wr:Int)+1:=dK (by omega) (by omega);rw[hl]at J;have B:c6 (sb≠gp):=fun e=>h.a1 e.symm;have R: ∀wx,Wq a sb gp k (.slice (some ⟨gp,0,none⟩) S.bl.length cap) wx→wx.cell? ⟨sb,0,none⟩=some (.slice (some ⟨gp,0,none⟩) S.bl.length cap):=fun wx h=>h.c0;clear h hok hr hk hb hbl hl hwr d u f0 H;go_in;go_wp2_with fail;rw[←z.o]
 go_region_held3 (fun wx=>Wq a sb gp k (.slice (some ⟨gp,0,none⟩) S.bl.length cap) wx) (first|assumption|exact Wq.set (by assumption) B.o _)
  (first
   |(go_at_call 129;refine(cN (v:= .slice bo b.length bc) (l:=b) (G.o.below (d8 _ _)) (Nat.le_trans t.o (by omega))).mono ?_;rintro e wC ⟨u',rfl,j,q⟩;obtain⟨qo,qc,y,_⟩:=K9 j;subst y;have n:Wq a sb gp k (.slice (some ⟨gp,0,none⟩) S.bl.length cap) wC:=Wq.go (by assumption) q;obtain⟨u0,u⟩:=n.at';have f0:=n.soft))
 obtain⟨I,g⟩:=c7 (wC.setCell ⟨gp,k,none⟩ (.slice qo b.length qc));have p:=a9 (d8 a 1) q
 have r:c6 (DM T (fun x=>D x∨(Value.slice qo b.length qc).ownBlock=some x) I sb gp cap {S with bl:=S.bl.set k b,left:=bB S.left}):=by
  show DM _ _ _ _ _ _ _;rw[g];exact f.o.setRow (Ch.of_below p) C.o j (Nat.le_refl _)
 have A:c6 (∀x,(Value.slice qo b.length qc).ownBlock=some x→a.heap.size≤x):=fun x m=>(j.lt x m).1
 have E:c6 (Ch D w I):=by
  show Ch _ _ _;rw[g];exact(s.o.self (Ch.of_below p)).self (I4 _ _ f.o.d2)
 rw[←g];have U:=r.o.c4;have f4:=r.o.soft 4;clear g n q j p u f0;go_wp2_with fail;go_ret;refine⟨by rw[HI.o];rfl,⟨_,⟨sb,gp,cap,rfl,by rw[HS.o];exact r.o.put 4 _ (S':=M7 S k b) rfl rfl,by rw[HS.o];exact qC HK.o k t.o F.o⟩,fun x m=>?_⟩,E.o.self (I4 _ _ HM.o.d1)⟩;rcases m with m|m
 ·exact .inl m
 ·exact .inr (Nat.le_trans s.o.size (A.o x m))
theorem xP(h:DM T D w sb gp cap S)(hok:S.ok){k:Nat}(hr:I2 S k=0)(hk:k<S.bl.length)(hb:Bv w bv b)(hbl:b.length≤1024)(hl:0<S.left)(hwr:S.wr<9223372036854775807):
  Calls Tryz.prog 94 #[.pointer (some ⟨sb,0,none⟩),.int .i64 k,bv] w fun e w'=>Wt T D w (.pointer (some ⟨sb,0,none⟩)) S k b e w':=by
 have HM:=b9 h;have HK:c6 S.ok:=hok;have t:c6 (b.length≤1024):=hbl;have E:=b9 hk;have HI:c6 (l7 S k b=0):=by show _=_;unfold l7;rw[if_neg (fun e=>e hr),if_neg (by omega),if_neg (by omega)]
 have HS:c6 (i7 S k b=M7 S k b):=by show _=_;unfold i7;rw[if_neg (fun e=>e hr),if_neg (by omega),if_neg (by omega)];simp
 have HD:c6 (bB S.left=S.left-1):=by show _=_;unfold bB;rw[if_neg (by omega)]
 have G:c6 (∀c∈b,c<256):=hb.2;obtain⟨a,d⟩:=c7 (w.setCell ⟨sb,2,none⟩ (.int .i64 (S.left-1)))
 have f:c6 (DM T D a sb gp cap {S with left:=bB S.left}):=by
  show DM _ _ _ _ _ _ _;rw[d,HD.o];exact h.put 2 _ rfl rfl
 have s:c6 (Ch D w a):=by show Ch _ _ _;rw[d];exact I4 _ _ h.d1
 obtain⟨bo,bc,rfl,_,_⟩:=C9 hb
 have H:c6 (Bv a (.slice bo b.length bc) b):=by
  show Bv _ _ _;rw[d];exact ZG hb h.c2
 obtain⟨u0,u,_⟩:=f.o.row.at (i:=k) hk;have f0:=f.o.row.soft k;have I:=f.o.c0;have O:Wq a sb gp k (.slice (some ⟨gp,0,none⟩) S.bl.length cap) a.drew:=Wq.go (wx:=a) ⟨Ch.refl _ _,I,⟨u0,u⟩,f0⟩ (d8 _ _);have z:=b9 d;have c2:=h.c2;have c0:=h.c0;have K:=h.c1;rw[(kB hr).1]at K;have f2:=h.soft 2;have P:=hok.n64;have M:(b.length:Int)≤1024:=by omega
 have N:decide ((1024:Int)<(b.length:Int))=false:=decide_eq_false (by omega);have L:(k:Int)<(S.bl.length:Int):=by omega
 have R:IntKind.i64.wrap ((S.wr:Int)+1)=(S.wr:Int)+1:=dK (by omega) (by omega);have C:=b9 hok.l1;have Q:IntKind.i64.wrap (S.left-1)=S.left-1:=dK (by omega) (by have:=C.o;omega);have X: ¬S.left=0:=by omega
 have W: ¬S.left= -1:=by omega
 have U:=hl;have B:c6 (sb≠gp):=fun e=>h.a1 e.symm;have Y: ∀wx,Wq a sb gp k (.slice (some ⟨gp,0,none⟩) S.bl.length cap) wx→wx.cell? ⟨sb,0,none⟩=some (.slice (some ⟨gp,0,none⟩) S.bl.length cap):=fun wx h=>h.c0;clear h hok hr hk hb hbl hl hwr d u f0 I;go_in;go_wp2_with fail;rw[←z.o]
 go_region_held3 (fun wx=>Wq a sb gp k (.slice (some ⟨gp,0,none⟩) S.bl.length cap) wx) (first|assumption|exact Wq.set (by assumption) B.o _)
  (first
   |(go_at_call 129;refine(cN (v:= .slice bo b.length bc) (l:=b) (H.o.below (d8 _ _)) (Nat.le_trans t.o (by omega))).mono ?_;rintro e wC ⟨u',rfl,j,q⟩;obtain⟨qo,qc,y,_⟩:=K9 j;subst y;have n:Wq a sb gp k (.slice (some ⟨gp,0,none⟩) S.bl.length cap) wC:=Wq.go (by assumption) q;obtain⟨u0,u⟩:=n.at';have f0:=n.soft))
 obtain⟨J,g⟩:=c7 (wC.setCell ⟨gp,k,none⟩ (.slice qo b.length qc));have p:=a9 (d8 a 1) q
 have r:c6 (DM T (fun x=>D x∨(Value.slice qo b.length qc).ownBlock=some x) J sb gp cap {S with bl:=S.bl.set k b,left:=bB S.left}):=by
  show DM _ _ _ _ _ _ _;rw[g];exact f.o.setRow (Ch.of_below p) E.o j (Nat.le_refl _)
 have A:c6 (∀x,(Value.slice qo b.length qc).ownBlock=some x→a.heap.size≤x):=fun x m=>(j.lt x m).1
 have F:c6 (Ch D w J):=by
  show Ch _ _ _;rw[g];exact(s.o.self (Ch.of_below p)).self (I4 _ _ f.o.d2)
 rw[←g];have Z:=r.o.c4;have f4:=r.o.soft 4;clear g n q j p u f0;go_wp2_with fail;go_ret;refine⟨by rw[HI.o];rfl,⟨_,⟨sb,gp,cap,rfl,by rw[HS.o];exact r.o.put 4 _ (S':=M7 S k b) rfl rfl,by rw[HS.o];exact qC HK.o k t.o G.o⟩,fun x m=>?_⟩,F.o.self (I4 _ _ HM.o.d1)⟩;rcases m with m|m
 ·exact .inl m
 ·exact .inr (Nat.le_trans s.o.size (A.o x m))
theorem Q3(h:I9 T D w v S)(i:Int)(hb:Bv w bv b)(hwr:S.wr<9223372036854775807):Calls Tryz.prog 94 #[v,.int .i64 i,bv] w fun e w'=>Wt T D w v S i b e w':=by
 have HW:=b9 h;obtain⟨s,I,F,rfl,h,a⟩:=h;have HM:=b9 h;have HK:c6 S.ok:=a;by_cases c:I2 S i=0
 ·obtain⟨g,k,rfl,n⟩:=kB c;by_cases j:b.length≤1024
  ·by_cases f:S.left=0
   ·have HR:=b9 c;have HI:c6 (l7 S k b=80):=by show _=_;unfold l7;rw[if_neg (fun e=>e c),if_neg (by omega),if_pos f]
    have HS:c6 (i7 S k b=mG S):=by show _=_;unfold i7;rw[if_neg (fun e=>e c),if_neg (by omega),if_pos f]
    obtain⟨bo,bc,rfl,_,_⟩:=C9 hb;have C:=h.c2;rw[f]at C;have t:=h.c0;have l:=h.c1;rw[g]at l;have m:=a.n64;have q:(k:Int)<(S.bl.length:Int):=by omega
    have r:(b.length:Int)≤1024:=by omega
    have E:decide ((1024:Int)<(b.length:Int))=false:=decide_eq_false (by omega);clear h a c n hb j f hwr g;go_in;go_wp2_with fail;refine(uU HW.o).mono ?_;rintro e G ⟨rfl,z,A⟩;go_wp2_with fail;go_ret;exact⟨by rw[HI.o];rfl,⟨D,by rw[HS.o];exact z,fun x y=> .inl y⟩,A⟩
   ·have u:=a.l0;by_cases p:S.left= -1
    ·exact BJ h a c n hb j p hwr
    ·exact xP h a c n hb j (by omega) hwr
  ·have HR:=b9 c;have HA:c6 (Wt T D w (.pointer (some ⟨s,0,none⟩)) S k b (.returned (.int .i64 6)) w):=pX HW.o (by unfold l7;rw[if_neg (fun e=>e c),if_pos (by omega)]) (by unfold i7;rw[if_neg (fun e=>e c),if_pos (by omega)]);obtain⟨bo,bc,rfl,_,_⟩:=C9 hb;have r:(1024:Int)<(b.length:Int):=by omega
   have t:=h.c0;have l:=h.c1;rw[g]at l;have m:=a.n64;have q:(k:Int)<(S.bl.length:Int):=by omega
   clear h a c n hb j hwr g;go_in;go_wp2_with fail;go_ret;exact HA.o
 ·have HA:c6 (Wt T D w (.pointer (some ⟨s,0,none⟩)) S i b (.returned (.int .i64 (I2 S i))) w):=pX HW.o (by unfold l7;rw[if_pos c]) (by unfold i7;rw[if_pos c]);have t:=HM.o.c0;have l:=HM.o.c1;have m:=HK.o.n64;rcases uW S i with ⟨hd,d⟩|⟨hd,B,d⟩|⟨hd,B,H,d⟩|d
  ·rw[d]at HA;rw[hd]at l;clear hd d c hb hwr h a;go_in;go_wp2_with fail;go_ret;exact HA.o
  ·rw[d]at HA;rw[hd]at l;clear hd d c hb hwr h a;go_in;go_wp2_with fail;go_ret;exact HA.o
  ·rw[d]at HA;rw[hd]at l;clear hd d c hb hwr h a;go_in;go_wp2_with fail;go_ret;exact HA.o
  ·exact absurd d c
end
end
end Go.Proofs.YtfhoilcbhmeofaaGreat
