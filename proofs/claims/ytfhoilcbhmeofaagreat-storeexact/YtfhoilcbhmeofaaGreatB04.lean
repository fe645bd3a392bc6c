/- Small functions over slices of pairs: pair, Sound, Find, same; the program's and the reference's. -/
import Derived.Test.YtfhoilcbhmeofaaGreatB03
import Derived.Test.YtfhoilcbhmeofaaGreatRows
import Derived.OpenShut
import Derived.Carry
import Derived.Deep.Strs
import Derived.SizedLaws
import Derived.Deep.RegionWith
set_option maxRecDepth 100000
set_option maxHeartbeats 16000000
namespace Go.Proofs.YtfhoilcbhmeofaaGreat
open Go.RowKit
def Cl.okB(c:Cl):Prop:=c.k<18446744073709551616∧c.p.ok∧c.c.ok∧ -9223372036854775808≤c.n∧c.n<9223372036854775808
def N4(v:Vl):Bool:=v.h||decide (v.b=0)
def F6(c:Cl):Bool:=decide (0≤c.n)&&decide (c.n≤1099511627776)&&N4 c.p&&N4 c.c
def N0(o:Option Nat)(k:Nat):Bool:=match o with
 |none=>true
 |some j=>decide (j<k)
def U3:Option Nat→List Cl→Nat
 |_,[]=>0
 |o,c::r=>if N0 o c.k=false then 7 else if F6 c=false then 1 else U3 (some c.k) r
def N7(v:Vl):f7:=if v.h=true then Wm.wd v.b else []
def W3(c:Cl):Nat:=(if c.p.h=true then 1 else 0)+(if c.c.h=true then 2 else 0)
def G0(c:Cl):f7:=Wm.enc c.k++([W3 c]++(N7 c.p++(N7 c.c++Wm.enc c.n.toNat)))
def aO:List Cl→f7
 |[]=>[]
 |c::r=>G0 c++aO r
def m9(l:List Cl):f7 × Nat:=
 if 16<l.length then([],6)else if l.length=0 then([],0)else
 if U3 none l=0 then(Wm.enc l.length++aO l,0)else([],U3 none l)
def I3(t:Bool)(l:f7):Nat × Vl × f7:=
 if t=false then(0,K0,l)else if l.length<8 then(3,K0,[])else(0,⟨true,Wm.unw (l.take 8)⟩,l.drop 8)
def mF(k:Nat)(p c:Vl)(l:f7):Nat × Cl × f7:=
 if(Wm.take l).2.2≠0 then((Wm.take l).2.2,j9,[])else if 1099511627776<(Wm.take l).1 then(4,j9,[])else(0,⟨k,p,c,(Wm.take l).1⟩,l.drop (Wm.take l).2.1)
def fU(k h:Nat)(l:f7):Nat × Cl × f7:=
 if(I3 (decide (h%2=1)) l).1≠0 then((I3 (decide (h%2=1)) l).1,j9,[])else
 if(I3 (decide (2≤h)) (I3 (decide (h%2=1)) l).2.2).1≠0 then((I3 (decide (2≤h)) (I3 (decide (h%2=1)) l).2.2).1,j9,[])else
 mF k (I3 (decide (h%2=1)) l).2.1 (I3 (decide (2≤h)) (I3 (decide (h%2=1)) l).2.2).2.1 (I3 (decide (2≤h)) (I3 (decide (h%2=1)) l).2.2).2.2
def pU(k:Nat):f7→Nat × Cl × f7
 |[]=>(3,j9,[])
 |h::r=>if 3<h then(4,j9,[])else fU k h r
def L3(o:Option Nat)(l:f7):Nat × Cl × f7:=
 if(Wm.take l).2.2≠0 then((Wm.take l).2.2,j9,[])else if N0 o (Wm.take l).1=false then(7,j9,[])else pU (Wm.take l).1 (l.drop (Wm.take l).2.1)
def J9:Nat→Option Nat→f7→Nat × List Cl × f7
 |0,_,l=>(0,[],l)
 |n+1,o,l=>if(L3 o l).1≠0 then((L3 o l).1,[],[])else
   if(J9 n (some (L3 o l).2.1.k) (L3 o l).2.2).1≠0 then((J9 n (some (L3 o l).2.1.k) (L3 o l).2.2).1,[],[])else
   (0,(L3 o l).2.1::(J9 n (some (L3 o l).2.1.k) (L3 o l).2.2).2.1,(J9 n (some (L3 o l).2.1.k) (L3 o l).2.2).2.2)
def uB(n:Nat)(l:f7):List Cl × Nat:=
 if(J9 n none l).1≠0 then([],(J9 n none l).1)else if(J9 n none l).2.2.length≠0 then([],5)else((J9 n none l).2.1,0)
def t7(l:f7):List Cl × Nat:=
 if l.length=0 then([],0)else if(Wm.take l).2.2≠0 then([],(Wm.take l).2.2)else if(Wm.take l).1=0 then([],4)else if 16<(Wm.take l).1 then([],6)else
 uB (Wm.take l).1 (l.drop (Wm.take l).2.1)
theorem OU(c:Cl):W3 c≤3:=by unfold W3;split<;>split<;>omega
theorem YL(c:Cl):decide (W3 c%2=1)=c.p.h:=by
 unfold W3;cases c.p.h<;>cases c.c.h<;>simp
theorem YK(c:Cl):decide (2≤W3 c)=c.c.h:=by
 unfold W3;cases c.p.h<;>cases c.c.h<;>simp
theorem Ez(x:Nat): ∀c∈Wm.wd x,c<256:=Wm.wdF_lt 8 x
theorem iM(v:Vl): ∀c∈N7 v,c<256:=by
 unfold N7;split
 ·exact Ez _
 ·simp
theorem dM(v:Vl):(N7 v).length≤8:=by
 unfold N7;split
 ·rw[Wm.wd_len];omega
 ·simp
theorem bJ{c:Cl}(h:F6 c=true):0≤c.n∧c.n≤1099511627776∧N4 c.p=true∧N4 c.c=true:=by
 simp only[F6,Bool.and_eq_true,decide_eq_true_eq]at h;exact⟨h.1.1.1,h.1.1.2,h.1.2,h.2⟩
theorem XH{c:Cl}(h:F6 c=true):c.n.toNat<18446744073709551616:=by
 have:=bJ h;omega
theorem ZC{c:Cl}(hc:c.okB)(hw:F6 c=true): ∀x∈G0 c,x<256:=by
 intro x a;simp only[G0,List.mem_append,List.mem_singleton]at a;rcases a with h|rfl|h|h|h
 ·exact Wm.enc_lt _ hc.1 x h
 ·have:=OU c;omega
 ·exact iM _ x h
 ·exact iM _ x h
 ·exact Wm.enc_lt _ (XH hw) x h
theorem wO(c:Cl):1≤(G0 c).length∧(G0 c).length≤37:=by
 simp only[G0,List.length_append,List.length_singleton];have e:=Wm.enc_len c.k;have d:=Wm.enc_len c.n.toNat;have b:=dM c.p;have a:=dM c.c;omega
theorem IG(l:List Cl):l.length≤(aO l).length∧(aO l).length≤37*l.length:=by
 induction l with
 |nil=>simp[aO]
 |cons c r a=>have:=wO c;simp only[aO,List.length_append,List.length_cons];omega
theorem IH(l r:List Cl):aO (l++r)=aO l++aO r:=by
 induction l with
 |nil=>rfl
 |cons c t a=>simp[aO,a]
theorem NT{v:Vl}(hv:v.ok)(hp:N4 v=true)(r:f7):I3 v.h (N7 v++r)=(0,v,r):=by
 obtain⟨h,b⟩:=v
 cases h
 ·simp[N4]at hp;subst hp;simp[I3,N7,K0]
 ·have a:=Wm.wd_len b;have: ¬(N7 ⟨true,b⟩++r).length<8:=by simp only[N7,if_true,List.length_append];omega
  simp only[I3,if_neg this];simp[N7,List.take_append_of_le_length (Nat.le_of_eq a.symm),List.drop_append_of_le_length (Nat.le_of_eq a.symm),List.take_of_length_le (Nat.le_of_eq a),List.drop_of_length_le (Nat.le_of_eq a),Wm.unw_wd b hv]
theorem Ac(l:f7)(h: ∀c∈l,c<256):Wm.wdF l.length (Wm.unw l)=l:=by
 induction l with
 |nil=>rfl
 |cons c r a=>
  have f:=h c (by simp);have e:(c+256*Wm.unw r)%256=c:=by omega
  have b:(c+256*Wm.unw r)/256=Wm.unw r:=by omega
  simp only[Wm.unw,List.length_cons,Wm.wdF,e,b,a (fun d hd=>h d (by simp[hd]))]
theorem vG{t:Bool}{l r:f7}{v:Vl}(hl: ∀c∈l,c<256)(h:I3 t l=(0,v,r)):l=N7 v++r∧v.h=t∧N4 v=true∧v.ok:=by
 cases t
 ·simp[I3]at h;obtain⟨rfl,rfl⟩:=h;simp[N7,K0,N4,Vl.ok]
 ·by_cases b:l.length<8
  ·simp[I3,b]at h
  ·simp[I3,b]at h;obtain⟨rfl,rfl⟩:=h;have e:(l.take 8).length=8:=by simp;omega
   have a: ∀c∈l.take 8,c<256:=fun c d=>hl c (List.mem_of_mem_take d);refine⟨?_,rfl,rfl,?_⟩
   ·have:=Ac (l.take 8) a;rw[e]at this;simp only[N7,if_true,Wm.wd,this,List.take_append_drop]
   ·have:=Wm.unw_lt (l.take 8) a;rw[e]at this;simpa[Vl.ok]using this
theorem Bw{c:Cl}(hw:F6 c=true)(r:f7):mF c.k c.p c.c (Wm.enc c.n.toNat++r)=(0,c,r):=by
 have a:=bJ hw;simp only[mF,Wm.take_enc _ _ (XH hw)];rw[if_neg (by simp),if_neg (by omega)];have:((c.n.toNat:Nat):Int)=c.n:=by omega
 simp[this]
theorem Bq{c:Cl}(hc:c.okB)(hw:F6 c=true)(r:f7):fU c.k (W3 c) (N7 c.p++(N7 c.c++(Wm.enc c.n.toNat++r)))=(0,c,r):=by
 have a:=bJ hw;simp only[fU,YL,YK,NT hc.2.1 a.2.2.1,NT hc.2.2.1 a.2.2.2];simp[Bw hw]
theorem Ca{o:Option Nat}{c:Cl}(hc:c.okB)(hw:F6 c=true)(hf:N0 o c.k=true)(r:f7):L3 o (G0 c++r)=(0,c,r):=by
 have e:G0 c++r=Wm.enc c.k++(W3 c::(N7 c.p++(N7 c.c++(Wm.enc c.n.toNat++r)))):=by simp[G0]
 rw[e];simp only[L3,Wm.take_enc _ _ hc.1];rw[if_neg (by simp),if_neg (by simp[hf])];have: ¬3<W3 c:=by have:=OU c;omega
 simp only[List.drop_append_of_le_length (Nat.le_refl _),List.drop_length,List.nil_append,pU,if_neg this,Bq hc hw]
theorem gF{l:f7}{x n:Nat}(hl: ∀c∈l,c<256)(h:Wm.take l=(x,n,0)):l=Wm.enc x++l.drop n∧x<18446744073709551616∧n=(Wm.enc x).length:=by
 rcases Wm.take_form l hl with ⟨e,a,d⟩|⟨y,m,a,d,g,f,b⟩
 ·rw[h]at a;simp at a;omega
 ·rw[h]at a;simp at a;obtain⟨rfl,rfl⟩:=a;refine⟨by rw[b,List.take_append_drop],d,by rw[b];simp;omega⟩
theorem SG{k:Nat}{p c:Vl}{d:Cl}{l r:f7}(hl: ∀c∈l,c<256)(h:mF k p c l=(0,d,r)): ∃n:Nat,d=⟨k,p,c,n⟩∧n≤1099511627776∧l=Wm.enc n++r:=by
 obtain⟨x,n,e,b⟩: ∃x n e,Wm.take l=(x,n,e):=⟨_,_,_,rfl⟩;simp only[mF,b]at h
 split at h
 ·rename_i a;simp at h;omega
 ·rename_i a
  have a:e=0:=by omega
  subst a
  split at h
  ·simp at h
  ·rename_i f
   simp at h;obtain⟨rfl,rfl⟩:=h;exact⟨x,rfl,by omega,(gF hl b).1⟩
theorem Dp{h:Nat}{k:Nat}{p c:Vl}{n:Int}(h3:h≤3)(hp:p.h=decide (h%2=1))(hc:c.h=decide (2≤h)):W3 ⟨k,p,c,n⟩=h:=by
 simp only[W3,hp,hc,decide_eq_true_eq]
 split<;>split<;>omega
theorem SF{k h:Nat}{d:Cl}{l r:f7}(hl: ∀c∈l,c<256)(h3:h≤3)(hk:fU k h l=(0,d,r)):
  d.k=k∧W3 d=h∧d.p.ok∧d.c.ok∧F6 d=true∧d.n<9223372036854775808∧l=N7 d.p++(N7 d.c++(Wm.enc d.n.toNat++r)):=by
 obtain⟨w,p,m,t⟩: ∃a b c,I3 (decide (h%2=1)) l=(a,b,c):=⟨_,_,_,rfl⟩;simp only[fU,t]at hk;obtain⟨v,c,u,s⟩: ∃a b c,I3 (decide (2≤h)) m=(a,b,c):=⟨_,_,_,rfl⟩;simp only[s]at hk
 split at hk
 ·simp at hk;omega
 ·rename_i j
  split at hk
  ·simp at hk;omega
  ·rename_i i
   have j:w=0:=by omega
   have i:v=0:=by omega
   subst j i;obtain⟨q,D,C,B⟩:=vG hl t;have e: ∀c∈m,c<256:=fun c f=>hl c (by rw[q];simp[f]);obtain⟨o,A,z,y⟩:=vG e s;have g: ∀c∈u,c<256:=fun c f=>e c (by rw[o];simp[f]);obtain⟨n,rfl,E,x⟩:=SG g hk;refine⟨rfl,Dp h3 D A,B,y,?_,by show(n:Int)<_;omega,?_⟩
   ·simp only[F6,C,z,Bool.and_true,Bool.and_eq_true,decide_eq_true_eq];omega
   ·show l=N7 p++(N7 c++(Wm.enc (n:Int).toNat++r));rw[Int.toNat_natCast,←x,←o,←q]
theorem SI{o:Option Nat}{c:Cl}{l r:f7}(hl: ∀c∈l,c<256)(h:L3 o l=(0,c,r)):l=G0 c++r∧N0 o c.k=true∧F6 c=true∧c.okB:=by
 obtain⟨x,n,e,i⟩: ∃x n e,Wm.take l=(x,n,e):=⟨_,_,_,rfl⟩;simp only[L3,i]at h
 split at h
 ·simp at h;omega
 ·rename_i j
  have j:e=0:=by omega
  subst j;obtain⟨g,t2,_⟩:=gF hl i;have a: ∀c∈l.drop n,c<256:=fun c b=>hl c (List.mem_of_mem_drop b)
  split at h
  ·simp at h
  ·rename_i p
   cases hd:l.drop n with
   |nil=>rw[hd]at h;simp[pU]at h
   |cons f q=>
    rw[hd]at h g a;simp only[pU]at h
    split at h
    ·simp at h
    ·rename_i z
     obtain⟨d,w,v,u,m,t,s⟩:=SF (fun c b=>a c (by simp[b])) (by omega) h;have y:=bJ m;refine⟨?_,by rw[d];simpa using p,m,by rw[d];exact t2,v,u,by omega,t⟩;rw[g,s,G0,d,w];simp
structure Mk where
 b:Int
 a:Int
 k:f7
def C1:Mk:=⟨0,0,[]⟩
def B9(l:f7):Prop:= ∀x∈l,x<18446744073709551616
def EX(o:Option Nat)(k:Nat):Bool:=match o with
 |none=>true
 |some j=>decide (j<k)
def lU:Option Nat→f7→Bool
 |_,[]=>true
 |o,c::r=>EX o c&&lU (some c) r
def K1(l:f7):Bool:=lU none l
def W7(x:Int):Bool:=decide (0≤x)&&decide (x≤1099511627776)
def o4(m:Mk):Bool:=W7 m.b&&(W7 m.a&&(if m.b=0∨m.a=0 then decide (m.b=m.a)&&decide (m.k.length=0)else decide (m.k.length≤64)&&K1 m.k))
def W5(m:Mk):f7:=Wm.enc m.b.toNat++(Wm.enc m.a.toNat++(Wm.enc m.k.length++Wm.encAll m.k))
def J1(m:Mk):f7 × Nat:=if o4 m=true then(W5 m,0)else([],1)
def I8(l:f7):Nat × Nat × f7:=
 if(Wm.take l).2.2≠0 then((Wm.take l).2.2,0,[])else if 1099511627776<(Wm.take l).1 then(4,0,[])else(0,(Wm.take l).1,l.drop (Wm.take l).2.1)
def Q2:Nat→f7→Nat × f7 × f7
 |0,l=>(0,[],l)
 |n+1,l=>if(Wm.take l).2.2≠0 then((Wm.take l).2.2,[],[])else
   if(Q2 n (l.drop (Wm.take l).2.1)).1≠0 then((Q2 n (l.drop (Wm.take l).2.1)).1,[],[])else
   (0,(Wm.take l).1::(Q2 n (l.drop (Wm.take l).2.1)).2.1,(Q2 n (l.drop (Wm.take l).2.1)).2.2)
def iE(b a:Nat)(r:Nat × f7 × f7):Mk × Nat:=
 if r.1≠0 then(C1,r.1)else if r.2.2.length≠0 then(C1,5)else if o4 ⟨b,a,r.2.1⟩=false then(C1,1)else(⟨b,a,r.2.1⟩,0)
def oR(b a:Nat)(l:f7):Mk × Nat:=
 if(Wm.take l).2.2≠0 then(C1,(Wm.take l).2.2)else if 64<(Wm.take l).1 then(C1,6)else iE b a (Q2 (Wm.take l).1 (l.drop (Wm.take l).2.1))
def uC(b:Nat)(l:f7):Mk × Nat:=if(I8 l).1≠0 then(C1,(I8 l).1)else oR b (I8 l).2.1 (I8 l).2.2
def B7(l:f7):Mk × Nat:=if(I8 l).1≠0 then(C1,(I8 l).1)else uC (I8 l).2.1 (I8 l).2.2
theorem sT(x:Nat)(r:f7):(Wm.enc x++r).drop (Wm.enc x).length=r:=by simp
theorem wK{x:Int}(h:W7 x=true):0≤x∧x≤1099511627776:=by
 simpa[W7]using h
theorem G6{m:Mk}(h:o4 m=true):0≤m.b∧m.b≤1099511627776∧0≤m.a∧m.a≤1099511627776∧m.k.length≤64:=by
 simp only[o4,Bool.and_eq_true]at h;obtain⟨g,f,c⟩:=h;have e:=wK g;have d:=wK f;refine⟨e.1,e.2,d.1,d.2,?_⟩
 split at c
 ·simp at c;rw[c.2];simp
 ·simp at c;exact c.1
theorem LS(l:f7)(h:B9 l): ∀c∈Wm.encAll l,c<256:=by
 induction l with
 |nil=>simp[Wm.encAll]
 |cons x l b=>
  intro c a;simp only[Wm.encAll,List.mem_append]at a;rcases a with a|a
  ·exact Wm.enc_lt x (h x (by simp)) c a
  ·exact b (fun y d=>h y (by simp[d])) c a
theorem TV{m:Mk}(h:o4 m=true)(hk:B9 m.k): ∀c∈W5 m,c<256:=by
 have b:=G6 h;intro c a;simp only[W5,List.mem_append]at a;rcases a with a|a|a|a
 ·exact Wm.enc_lt _ (by omega) c a
 ·exact Wm.enc_lt _ (by omega) c a
 ·exact Wm.enc_lt _ (by omega) c a
 ·exact LS _ hk c a
theorem YU{x:Nat}(h:x≤1099511627776)(r:f7):I8 (Wm.enc x++r)=(0,x,r):=by
 simp only[I8,Wm.take_enc x r (by omega)];rw[if_neg (by simp),if_neg (by omega),sT]
theorem Ii{ks:f7}: ∀{r:f7},B9 ks→Q2 ks.length (Wm.encAll ks++r)=(0,ks,r):=by
 induction ks with
 |nil=>intro r _;rfl
 |cons x ks b=>
  intro r a;have d:=a x (by simp);have e:Wm.encAll (x::ks)++r=Wm.enc x++(Wm.encAll ks++r):=by simp[Wm.encAll]
  have i1:=b (r:=r) (fun y c=>a y (by simp[c]));rw[e];simp only[List.length_cons,Q2,Wm.take_enc x _ d,sT,i1];simp
theorem EW{m:Mk}(h:o4 m=true)(hk:B9 m.k)(r:f7):B7 (W5 m++r)=if r.length≠0 then(C1,5)else(m,0):=by
 have f:=G6 h;have e:W5 m++r=Wm.enc m.b.toNat++(Wm.enc m.a.toNat++(Wm.enc m.k.length++(Wm.encAll m.k++r))):=by simp[W5]
 rw[e];simp only[B7,YU (show m.b.toNat≤1099511627776 by omega),uC,YU (show m.a.toNat≤1099511627776 by omega),oR,Wm.take_enc m.k.length _ (show m.k.length<18446744073709551616 by omega),sT,Ii hk,iE];have d:((m.b.toNat:Nat):Int)=m.b:=by omega
 have c:((m.a.toNat:Nat):Int)=m.a:=by omega
 rw[d,c,if_neg (by simp),if_neg (by simp),if_neg (by simp),if_neg (by omega),if_neg (by simp)]
 split
 ·rfl
 ·rw[if_neg (by have:o4 ⟨m.b,m.a,m.k⟩=true:=h;simp[this])]
theorem GD{l:f7}(hl: ∀c∈l,c<256)(h:(I8 l).1=0):l=Wm.enc (I8 l).2.1++(I8 l).2.2∧(I8 l).2.1≤1099511627776:=by
 obtain⟨x,n,e,a⟩: ∃x n e,Wm.take l=(x,n,e):=⟨_,_,_,rfl⟩;simp only[I8,a]at h⊢;by_cases d:e=0
 ·subst d;rw[if_neg (by simp)]at h⊢;by_cases b:1099511627776<x
  ·rw[if_pos b]at h;simp at h
  ·rw[if_neg b]at h⊢;exact⟨(gF hl a).1,by show x≤_;omega⟩
 ·rw[if_pos d]at h;simp at h;omega
theorem XY{n:Nat}: ∀{l:f7},(∀c∈l,c<256)→(Q2 n l).1=0→l=Wm.encAll (Q2 n l).2.1++(Q2 n l).2.2∧(Q2 n l).2.1.length=n∧B9 (Q2 n l).2.1:=by
 induction n with
 |zero=>intro l d _;simp[Q2,Wm.encAll,B9]
 |succ n j=>
  intro l d h;obtain⟨x,q,e,g⟩: ∃x n e,Wm.take l=(x,n,e):=⟨_,_,_,rfl⟩;simp only[Q2,g]at h⊢;by_cases f:e=0
  ·subst f;rw[if_neg (by simp)]at h⊢;by_cases a:(Q2 n (l.drop q)).1=0
   ·rw[if_neg (by simpa using a)]at h⊢;obtain⟨i1,i2,i3⟩:=j (l:=l.drop q) (fun c k=>d c (List.mem_of_mem_drop k)) a;obtain⟨i,t2,_⟩:=gF d g;refine⟨?_,by simp[i2],?_⟩
    ·show l=Wm.enc x++Wm.encAll (Q2 n (l.drop q)).2.1++(Q2 n (l.drop q)).2.2;rw[List.append_assoc,←i1];exact i
    ·intro y b;rcases List.mem_cons.1 b with rfl|b
     ·exact t2
     ·exact i3 y b
   ·rw[if_pos a]at h;exact absurd h a
  ·rw[if_pos f]at h;exact absurd h f
theorem kJ{l:f7}(hl: ∀c∈l,c<256)(h:(B7 l).2=0):o4 (B7 l).1=true∧J1 (B7 l).1=(l,0)∧B9 (B7 l).1.k:=by
 unfold B7 at h⊢;by_cases m:(I8 l).1=0
 ·rw[if_neg (by simpa using m)]at h⊢;obtain⟨p,H⟩:=GD hl m;generalize (I8 l).2.1=B at h p H⊢;generalize (I8 l).2.2=l1 at h p⊢;have g: ∀c∈l1,c<256:=fun c d=>hl c (by rw[p];simp[d]);unfold uC at h⊢;by_cases j:(I8 l1).1=0
  ·rw[if_neg (by simpa using j)]at h⊢;obtain⟨o,G⟩:=GD g j;generalize (I8 l1).2.1=A at h o G⊢;generalize (I8 l1).2.2=a at h o⊢;have f: ∀c∈a,c<256:=fun c d=>g c (by rw[o];simp[d]);obtain⟨x,q,e,y⟩: ∃x n e,Wm.take a=(x,n,e):=⟨_,_,_,rfl⟩;simp only[oR,y]at h⊢;by_cases u:e=0
   ·subst u;rw[if_neg (by simp)]at h⊢;obtain⟨C,t2,_⟩:=gF f y;by_cases z:64<x
    ·rw[if_pos z]at h;simp at h
    ·rw[if_neg z]at h⊢;unfold iE at h⊢;by_cases i:(Q2 x (a.drop q)).1=0
     ·rw[if_neg (by simpa using i)]at h⊢;obtain⟨r,w,v⟩:=XY (l:=a.drop q) (fun c d=>f c (List.mem_of_mem_drop d)) i;generalize (Q2 x (a.drop q)).2.1=b at h r w v⊢;generalize (Q2 x (a.drop q)).2.2=rest at h r⊢;by_cases t:rest.length=0
      ·rw[if_neg (by simpa using t)]at h⊢;have D:=List.eq_nil_of_length_eq_zero t
       cases s:o4 ⟨B,A,b⟩
       ·rw[if_pos s]at h;simp at h
       ·rw[if_neg (by simp)];refine⟨s,?_,v⟩;unfold J1;rw[if_pos s];have F:W5 ⟨B,A,b⟩=Wm.enc B++(Wm.enc A++(Wm.enc b.length++Wm.encAll b)):=by simp[W5]
        rw[F,w];have E:a.drop q=Wm.encAll b:=by rw[r,D];simp
        rw[←E,←C,←o,←p]
      ·rw[if_pos t]at h;simp at h
     ·rw[if_pos i]at h;exact absurd h i
   ·rw[if_pos u]at h;exact absurd h u
  ·rw[if_pos j]at h;exact absurd h j
 ·rw[if_pos m]at h;exact absurd h m
theorem YR{l:f7}(h:(B7 l).2≠0):(B7 l).1=C1:=by
 unfold B7 uC oR iE at*
 repeat' split
 all_goals first|rfl|skip
 all_goals simp_all
def bX(l:f7):Option Nat:=l.getLast?
theorem KW(q:f7)(c:Nat):bX (q++[c])=some c:=by simp[bX]
theorem kE{l:f7}{i:Nat}(hi:i<l.length):bX (l.take (i+1))=some l[i]:=by
 rw[List.take_succ_eq_append_getElem hi,KW]
theorem uV{l:f7}(hp:0<l.length):lU (bX (l.take 1)) (l.drop 1)=K1 l:=by
 cases l with
 |nil=>simp at hp
 |cons c r=>simp[K1,lU,EX,bX]
theorem BZ{l:f7}{i:Nat}(hi:i<l.length)(h:lU (bX (l.take i)) (l.drop i)=K1 l)(hf:EX (bX (l.take i)) l[i]=true):lU (bX (l.take (i+1))) (l.drop (i+1))=K1 l:=by
 rw[List.drop_eq_getElem_cons hi,lU,hf,Bool.true_and]at h;rw[kE hi];exact h
theorem BY{l:f7}{i:Nat}(hi:i<l.length)(h:lU (bX (l.take i)) (l.drop i)=K1 l)(hf:EX (bX (l.take i)) l[i]=false):K1 l=false:=by
 rw[List.drop_eq_getElem_cons hi,lU,hf,Bool.false_and]at h;exact h.symm
theorem NJ{l:f7}{i:Nat}(hi:l.length≤i)(h:lU (bX (l.take i)) (l.drop i)=K1 l):K1 l=true:=by
 rw[List.drop_eq_nil_of_le hi,lU]at h;exact h.symm
abbrev Kv(w:d9)(v:Value)(l:f7):Prop:=Sv .u64 w v (ib l)
theorem O7{w:d9}{v:Value}{l:f7}(h:Kv w v l): ∃ao cap,v= .slice ao l.length cap∧l.length≤cap∧cap≤maxLen:=by
 obtain⟨ao,cap,e,a,b,_⟩:=h;rw[i8]at e a;exact⟨ao,cap,e,a,b⟩
theorem T2{w:d9}{v:Value}{l:f7}(h:Kv w v l):
  (l=[]∧ ∃ao cap,v= .slice ao 0 cap)∨ ∃b off cap,v= .slice (some ⟨b,off,none⟩) l.length cap∧0<l.length∧l.length≤cap∧cap≤maxLen∧
   ∀i,(hi:i<l.length)→w.cell? ⟨b,off+i,none⟩=some (.int .u64 (l[i]:Nat)):=by
 obtain⟨ao,cap,rfl,d,f,k,c⟩:=h;rw[i8]at d;rw[i8];by_cases e:l=[]
 ·subst e;exact .inl ⟨rfl,ao,cap,rfl⟩
 ·have a:=List.length_pos_iff.2 e;obtain⟨b,off,rfl,_⟩:=c 0 (by rw[i8];exact a);refine .inr ⟨b,off,cap,rfl,a,d,f,fun i hi=>?_⟩;obtain⟨b',off',j,g⟩:=c i (by rw[i8];exact hi)
  cases j
  rw[g];simp[ib,List.getD,hi]
structure MB(w:d9)(P:Nat)(b a:Int)(v:Value):Prop where
 c0:w.cell? ⟨P,0,none⟩=some (.int .i64 b)
 c1:w.cell? ⟨P,1,none⟩=some (.int .i64 a)
 c2:w.cell? ⟨P,2,none⟩=some v
 z: ∀j,w.frozen? ⟨P,j,none⟩=false
theorem MB.keep{w w':d9}{P:Nat}{b a:Int}{v:Value}(h:MB w P b a v)(hb:f8 w w'):MB w' P b a v:=by
 have c:=c8 h.c0;exact⟨by rw[hb.cell (p:=⟨P,0,none⟩) c];exact h.c0,by rw[hb.cell (p:=⟨P,1,none⟩) c];exact h.c1,by rw[hb.cell (p:=⟨P,2,none⟩) c];exact h.c2,fun j=>by rw[hb.frozen (p:=⟨P,j,none⟩) c];exact h.z j⟩
theorem A9(w:d9)(b a:Int)(v:Value):MB (w.alloc (Obj.cells #[.int .i64 b,.int .i64 a,v] 62)) w.heap.size b a v:=by
 constructor<;>simp[go_sem]
theorem VW(l:f7)(b off cap:Nat)(w:d9)(hl:l.length≤cap)(hcap:cap≤maxLen)(hp:0<l.length)(hc: ∀i,(hi:i<l.length)→w.cell? ⟨b,off+i,none⟩=some (.int .u64 (l[i]:Nat))):
  Calls Tryz.prog 61 #[.slice (some ⟨b,off,none⟩) l.length cap] w fun e w'=>e= .returned (.bool (K1 l))∧f8 w w':=by
 unfold maxLen at hcap;have z:(l.length:Int)≤9223372036854775807:=by omega
 have HC:=b9 hc;have HP:=b9 hp;clear hc hcap hl hp;go_in;go_wp2_with fail;go_loopw [3] (fun iv wr=> ∃i:Nat,iv= .int .i64 i∧1≤i∧i≤l.length∧lU (bX (l.take i)) (l.drop i)=K1 l∧f8 w wr) (fun iv _=>l.length-(intOf iv).toNat)
 case atStart=>exact⟨1,rfl,by omega,HP.o,uV HP.o,Below.refl _ _⟩
 case round=>
  obtain⟨i,rfl,C,B,a,f⟩:=hrel;have HO:=b9 a;have HB:=b9 f;clear a f;by_cases g:i<l.length
  ·obtain⟨j,rfl⟩: ∃j,i=j+1:=⟨i-1,by omega⟩;have s:=HC.o (j+1) g;have r:=HC.o j (by omega);have v:wr.cell? ⟨b,off+(j+1),none⟩=some (.int .u64 (l[j+1]:Nat)):=by rw[HB.o.cell (p:=⟨b,off+(j+1),none⟩) (c8 s)];exact s
   have u:wr.cell? ⟨b,off+j,none⟩=some (.int .u64 (l[j]:Nat)):=by rw[HB.o.cell (p:=⟨b,off+j,none⟩) (c8 r)];exact r
   have k:c6 (bX (l.take (j+1))=some l[j]):=kE (by omega);obtain⟨c,h⟩: ∃c,l[j+1]=c:=⟨_,rfl⟩;obtain⟨d,m⟩: ∃d,l[j]=d:=⟨_,rfl⟩;rw[h]at v;rw[m]at u k;have n:=b9 h;clear h m s r;have q:((j+1:Nat):Int)<(l.length:Int):=by omega
   have y:(j:Int)<(l.length:Int):=by omega
   have A:((j+1:Nat):Int)-1=(j:Int):=by omega
   by_cases D:c≤d
   ·have t:(c:Int)≤(d:Int):=by omega
    have HR:=b9 (BY g HO.o (by rw[k.o,n.o];simp[EX];omega));go_wp2_with fail;go_quiet (fail);go_wp2_with fail;go_ret;exact⟨by rw[HR.o];rfl,a9 HB.o (d8 _ _)⟩
   ·have t: ¬(c:Int)≤(d:Int):=by omega
    have HR:=b9 (BZ g HO.o (by rw[k.o,n.o];simp[EX];omega));go_wp2_with fail;go_quiet (fail);have x:c6 (f8 w (wr.drewN nq)):=a9 HB.o (d8 _ _);go_wp2_with fail;go_roundw
    case rel=>exact⟨j+1+1,by go_num,by omega,by omega,HR.o,x.o⟩
    case measure=>simp[intOf];omega
  ·have q: ¬(i:Int)<(l.length:Int):=by omega
   have HR:=b9 (NJ (by omega) HO.o);go_wp2_with fail;go_ret;exact⟨by rw[HR.o];rfl,HB.o⟩
theorem VX(ao:Option Addr)(cap:Nat)(w:d9):
  Calls Tryz.prog 61 #[.slice ao 0 cap] w fun e w'=>e= .returned (.bool true)∧f8 w w':=by
 go_in;go_wp2;refine wp_loop_rounds 1 ?_;rw[rounds_succ];go_wp2;go_ret;exact⟨rfl,Below.refl _ _⟩
theorem BX{w:d9}{v:Value}{l:f7}(h:Kv w v l):
  Calls Tryz.prog 61 #[v] w fun e w'=>e= .returned (.bool (K1 l))∧f8 w w':=by
 rcases T2 h with ⟨rfl,j,a,rfl⟩|⟨b,c,a,rfl,d,i,g,f⟩
 ·exact VX j a w
 ·exact VW l b c a w i g d f
theorem QV(l:f7)(b off cap:Nat)(w:d9)(hl:l.length≤cap)(hcap:cap≤maxLen)(hp:0<l.length)(hc: ∀i,(hi:i<l.length)→w.cell? ⟨b,off+i,none⟩=some (.int .u64 (l[i]:Nat))):
  Calls Tryz.prog 112 #[.slice (some ⟨b,off,none⟩) l.length cap] w fun e w'=>e= .returned (.bool (K1 l))∧f8 w w':=by
 unfold maxLen at hcap;have z:(l.length:Int)≤9223372036854775807:=by omega
 have HC:=b9 hc;have HP:=b9 hp;clear hc hcap hl hp;go_in;go_wp2_with fail;go_loopw [3] (fun iv wr=> ∃i:Nat,iv= .int .i64 i∧1≤i∧i≤l.length∧lU (bX (l.take i)) (l.drop i)=K1 l∧f8 w wr) (fun iv _=>l.length-(intOf iv).toNat)
 case atStart=>exact⟨1,rfl,by omega,HP.o,uV HP.o,Below.refl _ _⟩
 case round=>
  obtain⟨i,rfl,C,B,a,f⟩:=hrel;have HO:=b9 a;have HB:=b9 f;clear a f;by_cases g:i<l.length
  ·obtain⟨j,rfl⟩: ∃j,i=j+1:=⟨i-1,by omega⟩;have s:=HC.o (j+1) g;have r:=HC.o j (by omega);have v:wr.cell? ⟨b,off+(j+1),none⟩=some (.int .u64 (l[j+1]:Nat)):=by rw[HB.o.cell (p:=⟨b,off+(j+1),none⟩) (c8 s)];exact s
   have u:wr.cell? ⟨b,off+j,none⟩=some (.int .u64 (l[j]:Nat)):=by rw[HB.o.cell (p:=⟨b,off+j,none⟩) (c8 r)];exact r
   have k:c6 (bX (l.take (j+1))=some l[j]):=kE (by omega);obtain⟨c,h⟩: ∃c,l[j+1]=c:=⟨_,rfl⟩;obtain⟨d,m⟩: ∃d,l[j]=d:=⟨_,rfl⟩;rw[h]at v;rw[m]at u k;have n:=b9 h;clear h m s r;have q:((j+1:Nat):Int)<(l.length:Int):=by omega
   have y:(j:Int)<(l.length:Int):=by omega
   have A:((j+1:Nat):Int)-1=(j:Int):=by omega
   by_cases D:c≤d
   ·have t:(c:Int)≤(d:Int):=by omega
    have HR:=b9 (BY g HO.o (by rw[k.o,n.o];simp[EX];omega));go_wp2_with fail;go_quiet (fail);go_wp2_with fail;go_ret;exact⟨by rw[HR.o];rfl,a9 HB.o (d8 _ _)⟩
   ·have t: ¬(c:Int)≤(d:Int):=by omega
    have HR:=b9 (BZ g HO.o (by rw[k.o,n.o];simp[EX];omega));go_wp2_with fail;go_quiet (fail);have x:c6 (f8 w (wr.drewN nq)):=a9 HB.o (d8 _ _);go_wp2_with fail;go_roundw
    case rel=>exact⟨j+1+1,by go_num,by omega,by omega,HR.o,x.o⟩
    case measure=>simp[intOf];omega
  ·have q: ¬(i:Int)<(l.length:Int):=by omega
   have HR:=b9 (NJ (by omega) HO.o);go_wp2_with fail;go_ret;exact⟨by rw[HR.o];rfl,HB.o⟩
theorem QW(ao:Option Addr)(cap:Nat)(w:d9):
  Calls Tryz.prog 112 #[.slice ao 0 cap] w fun e w'=>e= .returned (.bool true)∧f8 w w':=by
 go_in;go_wp2;refine wp_loop_rounds 1 ?_;rw[rounds_succ];go_wp2;go_ret;exact⟨rfl,Below.refl _ _⟩
theorem U6{w:d9}{v:Value}{l:f7}(h:Kv w v l):
  Calls Tryz.prog 112 #[v] w fun e w'=>e= .returned (.bool (K1 l))∧f8 w w':=by
 rcases T2 h with ⟨rfl,j,a,rfl⟩|⟨b,c,a,rfl,d,i,g,f⟩
 ·exact QW j a w
 ·exact QV l b c a w i g d f
theorem C0(x:Int)(w:d9):
  Calls Tryz.prog 191 #[.int .i64 x] w fun e w'=>e= .returned (.bool (W7 x))∧w'=w:=by
 by_cases b:0≤x
 ·by_cases a:x≤1099511627776
  ·have e:W7 x=true:=by simp[W7,b,a]
   rw[e];go_in;go_wp2_with fail;go_ret;exact⟨rfl,rfl⟩
  ·have e:W7 x=false:=by simp[W7];omega
   rw[e];go_in;go_wp2_with fail;go_ret;exact⟨rfl,rfl⟩
 ·have e:W7 x=false:=by simp[W7];omega
  rw[e];go_in;go_wp2_with fail;go_ret;exact⟨rfl,rfl⟩
theorem qY{b a:Int}{k:f7}(h:W7 b=false):o4 ⟨b,a,k⟩=false:=by simp[o4,h]
theorem qZ{b a:Int}{k:f7}(h:W7 a=false):o4 ⟨b,a,k⟩=false:=by simp[o4,h]
theorem eO{b a:Int}{k:f7}(h1:W7 b=true)(h2:W7 a=true)(h:b=0∨a=0):o4 ⟨b,a,k⟩=(decide (b=a)&&decide (k.length=0)):=by simp only[o4,h1,h2,Bool.true_and,if_pos h]
theorem eP{b a:Int}{k:f7}(h1:W7 b=true)(h2:W7 a=true)(h: ¬(b=0∨a=0)):o4 ⟨b,a,k⟩=(decide (k.length≤64)&&K1 k):=by simp only[o4,h1,h2,Bool.true_and,if_neg h]
theorem gH{w:d9}{v:Value}{k:f7}(h:Kv w v k)(b a:Int):
  Calls Tryz.prog 146 #[.agg #[.int .i64 b,.int .i64 a,v]] w fun e w'=>e= .returned (.bool (o4 ⟨b,a,k⟩))∧f8 w w':=by
 have HB:c6 (f8 w (w.alloc (Obj.cells #[.int .i64 b,.int .i64 a,v] 62))):=a8 _ _;have HV:c6 (Kv (w.alloc (Obj.cells #[.int .i64 b,.int .i64 a,v] 62)) v k):=h.below (a8 _ _);obtain⟨F,D,E,A,z⟩:=O7 h;obtain⟨n,i⟩:=c7 k.length;rw[←i]at E;subst E;clear h A z
 cases h1:W7 b
 ·rw[qY h1];clear i;go_in;go_wp2_with fail;refine(C0 b _).mono ?_;rw[h1];rintro e f ⟨rfl,c⟩;replace c:=c.symm;subst c;go_wp2_with fail;go_ret;exact⟨rfl,HB.o⟩
 cases h2:W7 a
 ·rw[qZ h2];clear i;go_in;go_wp2_with fail;refine(C0 b _).mono ?_;rw[h1];rintro e f ⟨rfl,c⟩;replace c:=c.symm;subst c;go_wp2_with fail;refine(C0 a _).mono ?_;rw[h2];rintro e f ⟨rfl,c⟩;replace c:=c.symm;subst c;go_wp2_with fail;go_ret;exact⟨rfl,HB.o⟩
 have main: ∀(r:Bool),o4 ⟨b,a,k⟩=r→(∀K:Prop,K→K)→Calls Tryz.prog 146 #[.agg #[.int .i64 b,.int .i64 a,.slice F n D]] w fun e w'=>e= .returned (.bool r)∧f8 w w':=by
  intro r g _;by_cases j:b=0∨a=0
  ·rw[eO h1 h2 j]at g;have t:(b==0||a==0)=true:=by rcases j with h|h<;>simp[h]
   by_cases p:b=0
   ·have x:(b==0)=true:=by simp[p]
    by_cases l:b=a
    ·have u:(b==a)=true:=by simp[l]
     have d:((n:Int)==0)=r:=by
      rw[←g,show decide (b=a)=true from decide_eq_true l,Bool.true_and,i];by_cases q:k.length=0
      ·rw[q];rfl
      ·rw[decide_eq_false q,beq_eq_false_iff_ne];omega
     clear t j p l g i;go_in;go_wp2_with fail;refine(C0 b _).mono ?_;rw[h1];rintro e f ⟨rfl,c⟩;replace c:=c.symm;subst c;go_wp2_with fail;refine(C0 a _).mono ?_;rw[h2];rintro e f ⟨rfl,c⟩;replace c:=c.symm;subst c;go_wp2_with fail;go_ret;exact⟨rfl,HB.o⟩
    ·have u:(b==a)=false:=by simp[l]
     have d:r=false:=by rw[←g];simp[l]
     subst d;clear t j p l g i;go_in;go_wp2_with fail;refine(C0 b _).mono ?_;rw[h1];rintro e f ⟨rfl,c⟩;replace c:=c.symm;subst c;go_wp2_with fail;refine(C0 a _).mono ?_;rw[h2];rintro e f ⟨rfl,c⟩;replace c:=c.symm;subst c;go_wp2_with fail;go_ret;exact⟨rfl,HB.o⟩
   ·have x:(b==0)=false:=by simp[p]
    have l:a=0:=by rcases j with h|h;exact absurd h p;exact h
    have B:(a==0)=true:=by simp[l]
    have s: ¬b=a:=by rw[l];exact p
    have u:(b==a)=false:=by simp[s]
    have d:r=false:=by rw[←g];simp[s]
    subst d;clear t j p l g i s;go_in;go_wp2_with fail;refine(C0 b _).mono ?_;rw[h1];rintro e f ⟨rfl,c⟩;replace c:=c.symm;subst c;go_wp2_with fail;refine(C0 a _).mono ?_;rw[h2];rintro e f ⟨rfl,c⟩;replace c:=c.symm;subst c;go_wp2_with fail;go_ret;exact⟨rfl,HB.o⟩
  ·rw[eP h1 h2 j]at g;have x:(b==0)=false:=by rw[beq_eq_false_iff_ne];exact fun h=>j (.inl h)
   have B:(a==0)=false:=by rw[beq_eq_false_iff_ne];exact fun h=>j (.inr h)
   by_cases m:n≤64
   ·have y:(n:Int)≤64:=by omega
    have d:K1 k=r:=by rw[←g,←i];simp[m]
    clear j m g i;go_in;go_wp2_with fail;refine(C0 b _).mono ?_;rw[h1];rintro e f ⟨rfl,c⟩;replace c:=c.symm;subst c;go_wp2_with fail;refine(C0 a _).mono ?_;rw[h2];rintro e f ⟨rfl,c⟩;replace c:=c.symm;subst c;go_wp2_with fail;refine(BX HV.o).mono ?_;rw[d];rintro e G ⟨rfl,C⟩;go_wp2_with fail;go_ret;exact⟨rfl,a9 HB.o C⟩
   ·have y: ¬(n:Int)≤64:=by omega
    have d:r=false:=by rw[←g,←i];simp[m]
    subst d;clear j m g i;go_in;go_wp2_with fail;refine(C0 b _).mono ?_;rw[h1];rintro e f ⟨rfl,c⟩;replace c:=c.symm;subst c;go_wp2_with fail;refine(C0 a _).mono ?_;rw[h2];rintro e f ⟨rfl,c⟩;replace c:=c.symm;subst c;go_wp2_with fail;go_ret;exact⟨rfl,HB.o⟩
 exact main _ rfl (fun _ h=>h)
theorem gN{w:d9}{v:Value}{k:f7}(h:Kv w v k)(b a:Int):
  Calls Tryz.prog 96 #[.agg #[.int .i64 b,.int .i64 a,v]] w fun e w'=>e= .returned (.bool (o4 ⟨b,a,k⟩))∧f8 w w':=by
 have HB:c6 (f8 w (w.alloc (Obj.cells #[.int .i64 b,.int .i64 a,v] 62))):=a8 _ _;have HV:c6 (Kv (w.alloc (Obj.cells #[.int .i64 b,.int .i64 a,v] 62)) v k):=h.below (a8 _ _);obtain⟨MBw,x⟩:=c7 (w.alloc (Obj.cells #[.int .i64 b,.int .i64 a,v] 62));have F:c6 (MB MBw w.heap.size b a v):=by rw[x];exact A9 w b a v
 have E:=b9 x;clear x;obtain⟨N,D,H,C,B⟩:=O7 h;obtain⟨n,A⟩:=c7 k.length;rw[←A]at H;subst H;have HN:=b9 A;clear h C B A;by_cases J:b<0
 ·rw[qY (by simp[W7];omega)];go_in;go_wp2_with fail;go_ret;exact⟨rfl,HB.o⟩
 by_cases I:1099511627776<b
 ·rw[qY (by simp[W7];omega)];go_in;go_wp2_with fail;go_ret;exact⟨rfl,HB.o⟩
 by_cases L:a<0
 ·rw[qZ (by simp[W7];omega)];go_in;go_wp2_with fail;go_ret;exact⟨rfl,HB.o⟩
 by_cases K:1099511627776<a
 ·rw[qZ (by simp[W7];omega)];go_in;go_wp2_with fail;go_ret;exact⟨rfl,HB.o⟩
 have m:W7 b=true:=by simp[W7];omega
 have l:W7 a=true:=by simp[W7];omega
 obtain⟨S,f⟩:=c7 (o4 ⟨b,a,k⟩);rw[←f];by_cases O:(64:Int)<(n:Int)
 ·have e:S=false:=by
   have:=HN.o;rw[f];by_cases g:b=0∨a=0
   ·rw[eO m l g,decide_eq_false (show¬k.length=0 by omega),Bool.and_false]
   ·rw[eP m l g,decide_eq_false (show¬k.length≤64 by omega),Bool.false_and]
  subst e;clear f m l;go_in;go_wp2_with fail;go_ret;exact⟨rfl,HB.o⟩
 cases r:K1 k
 ·have e:S=false:=by
   have:=HN.o;rw[f];by_cases g:b=0∨a=0
   ·have M: ¬k.length=0:=fun q=>by rw[List.eq_nil_of_length_eq_zero q]at r;simp[K1,lU]at r
    rw[eO m l g,decide_eq_false M,Bool.and_false]
   ·rw[eP m l g,r,Bool.and_false]
  subst e;clear f m l;go_in;go_wp2_with fail;refine(U6 HV.o).mono ?_;rw[r];rintro e j ⟨rfl,c⟩;go_wp2_with fail;go_ret;exact⟨rfl,a9 HB.o c⟩
 have go: ∀j,f8 MBw j→MB j w.heap.size b a (.slice N n D):=fun j h=>F.o.keep h;rw[E.o]at go;have GO:=b9 go;clear go;by_cases g:b=0∨a=0
 ·rw[eO m l g]at f;by_cases u:b=0
  ·have s:(b==0)=true:=by simp[u]
   by_cases t:a=0
   ·have p:(a==0)=true:=by simp[t]
    have i:((n:Int)==0)=S:=by
     rw[f,show decide (b=a)=true from decide_eq_true (by rw[u,t]),Bool.true_and,HN.o];by_cases q:k.length=0
     ·rw[q];rfl
     ·rw[decide_eq_false q,beq_eq_false_iff_ne];omega
    clear g u t f m l J I L K;have J: ¬b<0:=by rw[beq_iff_eq]at s;omega
    have I: ¬1099511627776<b:=by rw[beq_iff_eq]at s;omega
    have L: ¬a<0:=by rw[beq_iff_eq]at p;omega
    have K: ¬1099511627776<a:=by rw[beq_iff_eq]at p;omega
    go_in;go_wp2_with fail;refine(U6 HV.o).mono ?_;rw[r];rintro e j ⟨rfl,c⟩;have d:=GO.o j c;have z:=d.c0;have y:=d.c1;have G:=d.c2;clear d;go_wp2_with fail;go_ret;exact⟨rfl,a9 HB.o c⟩
   ·have p:(a==0)=false:=by simp[t]
    have i:S=false:=by rw[f,decide_eq_false (show¬b=a by omega),Bool.false_and]
    subst i;clear g u t f m l;go_in;go_wp2_with fail;refine(U6 HV.o).mono ?_;rw[r];rintro e j ⟨rfl,c⟩;have d:=GO.o j c;have z:=d.c0;have y:=d.c1;have G:=d.c2;clear d;go_wp2_with fail;go_ret;exact⟨rfl,a9 HB.o c⟩
  ·have s:(b==0)=false:=by simp[u]
   have t:a=0:=by rcases g with h|h;exact absurd h u;exact h
   have p:(a==0)=true:=by simp[t]
   have i:S=false:=by rw[f,decide_eq_false (show¬b=a by omega),Bool.false_and]
   subst i;clear g u t f m l;go_in;go_wp2_with fail;refine(U6 HV.o).mono ?_;rw[r];rintro e j ⟨rfl,c⟩;have d:=GO.o j c;have z:=d.c0;have y:=d.c1;have G:=d.c2;clear d;go_wp2_with fail;go_ret;exact⟨rfl,a9 HB.o c⟩
 ·rw[eP m l g]at f;have s:(b==0)=false:=by rw[beq_eq_false_iff_ne];exact fun h=>g (.inl h)
  have p:(a==0)=false:=by rw[beq_eq_false_iff_ne];exact fun h=>g (.inr h)
  have i:S=true:=by rw[f,r,decide_eq_true (show k.length≤64 by have:=HN.o;omega)];rfl
  subst i;clear g f m l;go_in;go_wp2_with fail;refine(U6 HV.o).mono ?_;rw[r];rintro e j ⟨rfl,c⟩;have d:=GO.o j c;have z:=d.c0;have y:=d.c1;clear d;go_wp2_with fail;go_ret;exact⟨rfl,a9 HB.o c⟩
def aR(x y:Int):Int:=if x<y then-1 else if y<x then 1 else 0
def eI(b a ob oa:Int):Int:=if b=ob then aR a oa else aR b ob
theorem bG(x:Int)(w:d9):
  Calls Tryz.prog 208 #[.int .i64 x] w fun e w'=>e= .returned (.bool false)∧w'=w:=by
 go_in;go_wp2;all_goals (go_ret;exact⟨rfl,rfl⟩)
theorem vO(x y:Int)(w:d9):
  Calls Tryz.prog 177 #[.int .i64 x,.int .i64 y] w fun e w'=>e= .returned (.int .i64 (aR x y))∧w'=w:=by
 have main: ∀r:Int,aR x y=r→Calls Tryz.prog 177 #[.int .i64 x,.int .i64 y] w fun e w'=>e= .returned (.int .i64 r)∧w'=w:=by
  intro r a;by_cases c:x<y
  ·have e:r= -1:=by rw[←a];exact if_pos c
   subst e;clear a;go_in;go_wp2_with fail;refine(bG x _).mono ?_;rintro e b ⟨rfl,rfl⟩;go_wp2_with fail;refine(bG y _).mono ?_;rintro e b ⟨rfl,rfl⟩;go_wp2_with fail;go_ret;exact⟨rfl,rfl⟩
  ·by_cases d:y<x
   ·have e:r=1:=by rw[←a];unfold aR;rw[if_neg c,if_pos d]
    subst e;clear a;go_in;go_wp2_with fail;refine(bG x _).mono ?_;rintro e b ⟨rfl,rfl⟩;go_wp2_with fail;refine(bG y _).mono ?_;rintro e b ⟨rfl,rfl⟩;go_wp2_with fail;go_ret;exact⟨rfl,rfl⟩
   ·have e:r=0:=by rw[←a];unfold aR;rw[if_neg c,if_neg d]
    subst e;clear a;go_in;go_wp2_with fail;refine(bG x _).mono ?_;rintro e b ⟨rfl,rfl⟩;go_wp2_with fail;refine(bG y _).mono ?_;rintro e b ⟨rfl,rfl⟩;go_wp2_with fail;go_ret;exact⟨rfl,rfl⟩
 exact main _ rfl
theorem oE(b a ob oa:Int)(w:d9):
  Calls Tryz.prog 130 #[.int .i64 b,.int .i64 a,.int .i64 ob,.int .i64 oa] w fun e w'=>e= .returned (.int .i64 (eI b a ob oa))∧w'=w:=by
 have main: ∀r:Int,eI b a ob oa=r→Calls Tryz.prog 130 #[.int .i64 b,.int .i64 a,.int .i64 ob,.int .i64 oa] w fun e w'=>e= .returned (.int .i64 r)∧w'=w:=by
  intro r d;by_cases c:b=ob
  ·have e:aR a oa=r:=by rw[←d];exact(if_pos c).symm
   have f:(b !=ob)=false:=by simp[c]
   clear d c;go_in;go_wp2_with fail;refine(vO a oa _).mono ?_;rw[e];rintro e g ⟨rfl,rfl⟩;go_wp2_with fail;go_ret;exact⟨rfl,rfl⟩
  ·have e:aR b ob=r:=by rw[←d];exact(if_neg c).symm
   have f:(b !=ob)=true:=by simp[c]
   clear d c;go_in;go_wp2_with fail;refine(vO b ob _).mono ?_;rw[e];rintro e g ⟨rfl,rfl⟩;go_wp2_with fail;go_ret;exact⟨rfl,rfl⟩
 exact main _ rfl
section
open Go.ChangeShapes Go.WideShapes Go.ChangeAt Go.RowKit

theorem WS:ownKnob Tryz.prog.godebug=none:=by kernel_rfl
theorem TS:Tryz.prog.cellsOf 3=1:=by kernel_rfl
theorem ED:laidOutB Tryz.prog=true:=by kernel_rfl
theorem tW{H:Type}{enc:TypeId × Value→H}{P:Program}{f:Func}{s:ChangeSpec}{apart fresh handsOn:Bool}{W W':d9}{args:Array Value}{v:Value}{ds gs:List (DataW H)}{before pa pv:List MemPlace}
  (hW:DataW.Whole enc P f.params.toList s.vars apart W args.toList ds gs before)
  (hres: ∀(b:Nat) (sp:Nat→Bool) (hd:Bool),DataW.TrodAll enc P W' b sp hd f.resultTypes.toList (v.resultList f.resultTypes.size) (s.fn H (ds++gs)).results [])
  (hargs: ∀sp:Nat→Bool,(∀p∈before,sp p.block=true)→DataW.TrodAll enc P W' 0 sp true f.params.toList args.toList (s.fn H (ds++gs)).args pa)
  (hvars: ∀sp:Nat→Bool,(∀p∈before,sp p.block=true)→DataW.TrodVars enc P W' sp s.vars (s.fn H (ds++gs)).vars pv)
  (hps:before=pa++pv) (hb:f8 W W'):
  s.post enc P f apart fresh handsOn false W args v W':=by
 have a: ∀p∈before,(fun b=>decide (b<W.heap.size)) p.block=true:=fun p c=>by simpa using hW.lt p c
 refine⟨ds,gs,before,[],pa,pv,hW,hres _ _ _,hargs _ a,hvars _ a,World.keptBut_mono (fun p c=>⟨c,?_⟩) (hb.frame (· ∈before)),fun h=>by cases h⟩;rw[hps,List.mem_append]at c;exact Or.inr c
theorem ZP{H:Type}{enc:TypeId × Value→H}{W W':d9}{t:TypeId}{v:Value}{d:DataW H}{p:List MemPlace}{sp:Nat→Bool}(hr:Tryz.prog.readableRec t=true)(hrow:t<Tryz.prog.types.size)
  (h:DataW.Trod enc Tryz.prog W 0 (fun _=>true) true t v d p) (hb:f8 W W') (hlt: ∀x∈p,x.block<W.heap.size) (hsp: ∀x∈p,sp x.block=true):
  DataW.Trod enc Tryz.prog W' 0 sp true t v d p:=
 WideElems.Trod_stays ED hr hrow h (fun x hx=>hb.same (hlt x hx)) hsp
theorem Ff{H:Type}{enc:TypeId × Value→H}{W:d9}{v:Value}{d:DataW H}{p:List MemPlace}{t e:TypeId}{k:IntKind}{fuel:Nat}(ht:Tryz.prog.underlying t=some (.slice e))(he:Tryz.prog.underlying e=some (.int k))
  (hc:Tryz.prog.cellsOf e=1) (hf:DataW.trod enc Tryz.prog W 0 (fun _=>true) true fuel t [v]=some (d,p)):
  ∃l:List Int,Sv k W v l∧(∀x∈l,(Lit.int k x).wf=true)∧((d= .nil∧l=[])∨ ∃elems spare,d= .slice elems spare∧elems.length=l.length):=by
 rcases Go.Deep.open_slice1 ht hc hf with ⟨c,f⟩|⟨a,len,y,m,n,V,D,Pl,c,_,B,A,w,f,o⟩
 ·simp only[List.cons.injEq,and_true]at c;subst c;simp only[Prod.mk.injEq]at f;exact⟨[],Sv.nil k W,by simp,.inl ⟨f.1,rfl⟩⟩
 ·simp only[List.cons.injEq,and_true]at c;subst c;simp only[if_true]at w;simp only[Prod.mk.injEq]at f
  have each: ∀i,∃x,i<len→W.cell? (a.add i)=some (.int k x)∧(Lit.int k x).wf=true:=by
   intro i;by_cases g:i<len
   ·obtain⟨q,j⟩:=o i (by omega)
    cases n with
    |zero=>simp[DataW.trod]at j
    |succ n=>
     rw[q];simp only[DataW.trod,he]at j;generalize V i=v at*
     cases v<;>simp at j
     rename_i k' x
     obtain⟨⟨rfl,z⟩,_⟩:=j;exact⟨x,fun _=>⟨rfl,z⟩⟩
   ·exact⟨0,fun h=>absurd h g⟩
  obtain⟨X,r⟩: ∃X:Nat→Int,∀i,i<len→W.cell? (a.add i)=some (.int k (X i))∧(Lit.int k (X i)).wf=true:=⟨fun i=>(each i).choose,fun i=>(each i).choose_spec⟩;clear each o;refine⟨(List.range len).map X,⟨some a,y,by simp,by simpa using B,A,by simp,?_⟩,?_,.inr ⟨_,_,f.1,by simp⟩⟩
  ·intro i g;simp at g;have C:=(r 0 (by omega)).1;obtain⟨q,j⟩:=r i g;obtain⟨b,s,spot⟩:=a;have u:spot=none:=by simpa[Addr.add]using World.cell?_spot C
   subst u;refine⟨b,s,rfl,?_⟩;rw[WideShapes.add_plain]at q;rw[q];simp[List.getD,g]
  ·intro x f;simp only[List.mem_map,List.mem_range]at f;obtain⟨i,g,rfl⟩:=f;exact(r i g).2
theorem uL{x:Int}(h:(Lit.int .u64 x).wf=true): ∃n:Nat,x=n∧n<18446744073709551616:=by
 have a:0≤x∧x≤18446744073709551615:=by simpa[Lit.wf,IntKind.min,IntKind.max,IntKind.signed,IntKind.bits]using h
 exact⟨x.toNat,by omega,by omega⟩
theorem oH{x:Int}(h:(Lit.int .i64 x).wf=true): -9223372036854775808≤x∧x<9223372036854775808:=by
 have a: -9223372036854775808≤x∧x≤9223372036854775807:=by simpa[Lit.wf,IntKind.min,IntKind.max,IntKind.signed,IntKind.bits]using h
 omega
theorem jG:Tryz.prog.cellsOf 37=1:=by kernel_rfl
def Szd{H:Type}{α:Type}(d:DataW H)(l:List α):Prop:=(d= .nil∧l=[])∨ ∃elems spare,d= .slice elems spare∧elems.length=l.length
section

variable{H:Type}{enc:TypeId × Value→H}{W:d9}{sp:Nat→Bool}{held:Bool}{base:Nat}

theorem nL{n:Nat}{v:Value}{x:DataW H × List MemPlace}(h:DataW.trod enc Tryz.prog W base sp held n 37 [v]=some x): ∃a:Nat,v= .int .u64 a∧a<18446744073709551616:=by
 cases n with
 |zero=>simp[DataW.trod]at h
 |succ n=>
  simp only[DataW.trod,Tryz.underlying37]at h
  cases v<;>simp at h
  rename_i k a
  obtain⟨⟨rfl,b⟩,_⟩:=h;obtain⟨m,rfl,c⟩:=uL b;exact⟨m,rfl,c⟩
end

section

variable{H:Type}{enc:TypeId × Value→H}{W:d9}

end

theorem Ec{H:Type}{enc:TypeId × Value→H}{W:d9}{cs:List Value}{fuel:Nat}{y:DataW H × List MemPlace}(hf:DataW.trod enc Tryz.prog W 0 (fun _=>true) true fuel 38 cs=some y):
  ∃(v:Value) (l:f7),cs=[v]∧(Kv W v l∧B9 l)∧Szd y.1 l:=by
 rcases Go.Deep.open_slice Tryz.underlying38 hf with ⟨f,d⟩|⟨a,len,t,m,n,D,Pl,f,_,B,A,s,d,k⟩
 ·subst f;exact⟨_,[],rfl,⟨⟨none,0,rfl,Nat.le_refl _,by simp,by simp,fun i e=>absurd e (by simp[ib])⟩,by intro x d;simp at d⟩,.inl ⟨by rw[d],rfl⟩⟩
 ·subst f;simp only[if_true]at s
  have each: ∀i,∃x:Nat,i<len→W.cell? (a.add i)=some (.int .u64 x)∧x<18446744073709551616:=by
   intro i;by_cases e:i<len
   ·obtain⟨cs',u,C⟩:=k i (by omega);rw[jG]at u;obtain⟨_,o,g⟩:=World.cells?_some u
    match cs',o with
    |[c],_=>
     obtain⟨x,rfl,d⟩:=nL C;have z:=g 0 (by omega);rw[Go.Deep.add_add]at z;exact⟨x,fun _=>⟨by simpa using z,d⟩⟩
   ·exact⟨0,fun h=>absurd h e⟩
  obtain⟨X,p⟩: ∃X:Nat→Nat,∀i,i<len→W.cell? (a.add i)=some (.int .u64 (X i))∧X i<18446744073709551616:=⟨fun i=>(each i).choose,fun i=>(each i).choose_spec⟩;clear each k;refine⟨_,(List.range len).map X,rfl,⟨⟨some a,t,by simp[ib],by simpa[ib]using B,A,by simp,?_⟩,?_⟩,.inr ⟨_,_,by rw[d],by simp⟩⟩
  ·intro i e;have j:i<len:=by simpa[ib]using e
   obtain⟨E,_⟩:=p 0 (by omega);obtain⟨w,_⟩:=p i j;obtain⟨b,q,spot⟩:=a;have r:spot=none:=by simpa[Addr.add]using World.cell?_spot E
   subst r;rw[WideShapes.add_plain]at w;exact⟨b,q,rfl,by rw[w];simp[ib,List.getElem?_range j]⟩
  ·intro x d;simp only[List.mem_map,List.mem_range]at d;obtain⟨i,e,rfl⟩:=d;exact(p i e).2
end
section
open Ieee Go.RowKit

attribute [local go_sem] aB K8
end
section
open Ieee

structure Stp where
 K:Int
 N:Int
 X:Nat
structure Rcd where
 k:Nat
 x:Nat
def Mz(x:Nat):Nat:=Op.negFloat .f64 x
theorem IS(x:Nat):Op.unary .neg (.float .f64 x)=pure (.float .f64 (Mz x)):=rfl
end
section
open Ieee

structure Pr where
 k:Nat
 v:Vl
def Pr.ok(p:Pr):Prop:=p.k<18446744073709551616∧p.v.ok
def UA(t:List Pr):Prop:=t.Pairwise (fun p q=>p.k<q.k)
def Kt(t:List Pr):Prop:= ∀p∈t,p.v.h=true
end
section
open Ieee Go.RowKit

attribute [local go_sem] aB K8 IS
theorem O8{P:Program}{w:d9}{a:Addr}{m:Mode}(k:FloatKind)(x:Nat):(store a (.float k x) m).run P w=stored P w a (.float k x) m:=run_store P w a _ m rfl
attribute [local go_sem] O8
end
section
open Ieee Go.RowKit
end
section
open Ieee Go.RowKit

attribute [local go_sem] O8
structure RB(w:d9)(b:Nat)(k:Nat)(x:Nat):Prop where
 c0:w.cell? ⟨b,0,none⟩=some (.int .u64 k)
 c1:w.cell? ⟨b,1,none⟩=some (.float .f64 x)
 z0:w.frozen? ⟨b,0,none⟩=false
 z1:w.frozen? ⟨b,1,none⟩=false
end
section
open Ieee Go.RowKit
end
section
open Ieee Go.RowKit

def Ql(w:d9)(ao:Option Addr)(l:List Pr):Prop:=
 ∀i,(h:i<l.length)→ ∃b off,ao=some ⟨b,off,none⟩∧w.cell? ⟨b,off+i*3,none⟩=some (.int .u64 l[i].k)∧w.cell? ⟨b,off+i*3+1,none⟩=some (.bool l[i].v.h)∧w.cell? ⟨b,off+i*3+2,none⟩=some (.int .u64 l[i].v.b)
def Qv(w:d9)(v:Value)(l:List Pr):Prop:=
 (∃ao cap,v= .slice ao l.length cap∧l.length≤cap∧cap≤maxLen∧(ao=none→cap=0)∧Ql w ao l)∧ ∀o∈l,o.ok
theorem Ql.below{w w':d9}{ao:Option Addr}{l:List Pr}(h:Ql w ao l)(hb:f8 w w'):Ql w' ao l:=by
 intro i g;obtain⟨b,a,e,f,d,c⟩:=h i g;exact⟨b,a,e,by rw[hb.cell (p:=⟨b,a+i*3,none⟩) (c8 f)];exact f,by rw[hb.cell (p:=⟨b,a+i*3+1,none⟩) (c8 d)];exact d,by rw[hb.cell (p:=⟨b,a+i*3+2,none⟩) (c8 c)];exact c⟩
theorem Qv.below{w w':d9}{v:Value}{l:List Pr}(h:Qv w v l)(hb:f8 w w'):Qv w' v l:=by
 obtain⟨⟨i,a,e,g,f,d,c⟩,b⟩:=h;exact⟨⟨i,a,e,g,f,d,c.below hb⟩,b⟩
theorem Qv.ql{w:d9}{ao:Option Addr}{n cap:Nat}{l:List Pr}(h:Qv w (.slice ao n cap) l):Ql w ao l:=by
 obtain⟨⟨ao',cap',e,_,_,_,a⟩,_⟩:=h;simp only[Value.slice.injEq]at e;rw[e.1];exact a
end
section
open Ieee Go.RowKit

open Go.ChangeMaps (putKey notKey)
end
section
open Ieee Go.RowKit

theorem OW(v:Vl)(w:d9):(Op.equalIn 10000 55 (.agg #[.bool v.h,.int .u64 v.b]) (.agg #[.bool v.h,.int .u64 v.b])).run Tryz.prog w= .ok true w:=by
 have u0:=Tryz.underlying4;have u1:=Tryz.underlying37;have g:=Tryz.isAgg4;have f:=Tryz.isAgg37;have e:=Tryz.sizeOf4;have d:=Tryz.sizeOf37;have c:Tryz.prog.underlying 55=some (.struct (Tryz.prog.fieldsOf 55)):=by kernel_rfl
 have a:Tryz.prog.stoodInHeld 55=false:=by kernel_rfl
 rw[show(10000:Nat)=9999+1 from rfl,run_equalIn_agg w 9999 55 _ _ c a];simp only[Program.fieldsOf,Tryz.underlying55];go_simp
theorem zP(v:Vl)(w:d9):(binOp .eql 55 (.agg #[.bool v.h,.int .u64 v.b]) (.agg #[.bool v.h,.int .u64 v.b])).run Tryz.prog w= .ok (.bool true) w:=by
 rw[run_eql_struct,OW];rfl
theorem NX(v:Vl)(w:d9):(binOp .neq 55 (.agg #[.bool v.h,.int .u64 v.b]) (.agg #[.bool v.h,.int .u64 v.b])).run Tryz.prog w= .ok (.bool false) w:=by
 rw[run_neq_struct,OW];rfl
theorem bH:Tryz.prog.eqGuardType Tryz.prog.depth 55=false:=by kernel_rfl
end
end Go.Proofs.YtfhoilcbhmeofaaGreat
