/- Calls of both sides: a store, perhaps none, each on its disk. -/
import Derived.Test.YtfhoilcbhmeofaaGreatB28
set_option maxRecDepth 100000
set_option maxHeartbeats 16000000
namespace Go.Proofs.YtfhoilcbhmeofaaGreat
open Go.RowKit
section
abbrev Jp:Type:=(n9)→d9→Value→Value→Int→Bo→Dk→Prop
def tM(Sx:Jp)(A:n9)(w:d9)(sv dv:Value)(k:Int)(P:Bo)(S:Dk)(E:Option Int)(L:List (Int × f7))(e:Ending)(w':d9):Prop:=
 (i6 P S=true∧ ∃S',e= .returned (.int .i64 80)∧Sx A w' sv dv k (J6 P) S'∧F0 8 S S'∧Ch A w w')∨
 (i6 P S=false∧ ∃c S',E=some c∧e= .returned (.int .i64 c)∧Sx A w' sv dv k P S'∧F0 8 S S'∧Ch A w w')∨
 (i6 P S=false∧E=none∧ ∃S' A',F0 8 S S'∧e= .returned (.int .i64 (A5 P S' L).1)∧Sx A' w' sv dv k (A5 P S' L).2.1 (A5 P S' L).2.2∧(∀x,A' x→A x∨w.heap.size≤x)∧Ch A w w')
section

variable{A:n9}{w:d9}{sv dv kv tv:Value}{k b a:Int}{P:Bo}{S:Dk}{m:Mk}{Ls:List (List Cl)}{ks:f7}{l:List Pr}

theorem Kw(hD:C8 P S 6=some Ls)(hG:Gk k m Ls){j:Nat}(hj:j<6): ∀c∈gP P S 7 (j+1),c.okB:=fun c hc=>by
 rw[fG hD hj]at hc;exact hG.gd.pok.2.1 j hj c hc
theorem Ku{j:Nat}(h:j=0∨7≤j):gP P S 7 j=[]:=by
 unfold gP;rw[if_neg (by omega)]
theorem Fs(hD:C8 P S 6=some Ls)(hG:Gk k m Ls)(j:Nat): ∀c∈gP P S 7 j,c.okB:=by
 by_cases q:j=0∨7≤j
 ·rw[Ku q];intro c a;simp at a
 ·obtain⟨i,rfl⟩: ∃i,j=i+1:=⟨j-1,by omega⟩;exact Kw hD hG (by omega)
theorem QQ(h:ST A w sv dv k P S)(hM:i6 P S=false→B7 (A0 P S 0)=(m,0))(hD:i6 P S=false→C8 P S 6=some Ls)(hrd:S.rd<1000000000)(hwr:S.wr<1000000000)(hk:Kv w kv ks)(hok:B9 ks)(hkA:ks≠[]→ ∀x,kv.ownBlock=some x→ ¬A x)(b a:Int):
  Calls Tryz.prog 25 #[sv,.int .i64 b,.int .i64 a,kv] w (tM ST A w sv dv k P S (M0 m b a ks) (dF Ls m b a ks)):=
 (kZ h hM hD (by omega) (by omega) hk hok hkA b a).mono (fun e w' q=>q)
theorem QR(h:ST A w sv dv k P S)(hM:i6 P S=false→B7 (A0 P S 0)=(m,0))(hD:i6 P S=false→C8 P S 6=some Ls)(hrd:S.rd<1000000000)(hwr:S.wr<1000000000)(hq:Qv w tv l)(hqA:l≠[]→ ∀x,tv.ownBlock=some x→ ¬A x)(b a:Int):
  Calls Tryz.prog 26 #[sv,.int .i64 b,.int .i64 a,tv] w (tM ST A w sv dv k P S (eK m k b a Ls l) (qH k b Ls l)):=
 (iI h hM hD (by omega) (by omega) hq hqA b a).mono (fun e w' q=>q)
theorem XK{E:Option Int}{L:List (Int × f7)}{c:Int}{e:Ending}{w':d9}(hs:i6 P S=false)(hE:E=some c)(h:Eu A w sv dv k P S c e w'):tM RT A w sv dv k P S E L e w':=by
 obtain⟨rfl,⟨S',d,b⟩,a⟩:=h;exact .inr (.inl ⟨hs,c,S',hE,rfl,d,b,a⟩)
theorem UJ{E:Option Int}{L:List (Int × f7)}{e:Ending}{w':d9}(hs:i6 P S=false)(hE:E=none)(h:PR A w sv dv k P S L e w'):tM RT A w sv dv k P S E L e w':=by
 obtain⟨S',A',f,d,c,b,a⟩:=h;exact .inr (.inr ⟨hs,hE,S',A',f,d,c,b,a⟩)
theorem RP(h:RT A w sv dv k P S)(hM:i6 P S=false→B7 (A0 P S 0)=(m,0))(hD:i6 P S=false→C8 P S 6=some Ls)(hG:Gk k m Ls)(hrd:S.rd<1000000000)(hwr:S.wr<1000000000)(hk:Kv w kv ks)(hok:B9 ks)(hkA:ks≠[]→ ∀x,kv.ownBlock=some x→ ¬A x)(hb:b≤9223372036854775807)
  (hL:M0 m b a ks=none→ ∃m2,Gd m2 (fX Ls m b)):
  Calls Tryz.prog 50 #[sv,.int .i64 b,.int .i64 a,kv] w (tM RT A w sv dv k P S (M0 m b a ks) (dF Ls m b a ks)):=by
 cases d:i6 P S
 ·have hM:=hM d;have hD:=hD d;by_cases f:B6 b a=false∨64<ks.length∨K1 ks=false
  ·exact(KH h d hk b a f).mono (fun e w' q=>XK d (nQ f) q)
  ·cases g:M0 m b a ks with
   |some c=>exact(KG h d (by omega) hM hk hkA b a f g).mono (fun e w' q=>XK d rfl q)
   |none=>
    obtain⟨m2,i⟩:=hL g;have j:=KE h d (by omega) (by omega) hM hk hok hkA b a f g (Ft hD hG.gd.pok) (Fs hD hG) hb;rw[Jj hD hG.gd i]at j;exact j.mono (fun e w' q=>UJ d rfl q)
 ·exact(CP h d b a).mono (fun e w' q=> .inl ⟨d,S,q.1,q.2.1,F0.refl _,q.2.2⟩)
theorem RR(h:RT A w sv dv k P S)(hM:i6 P S=false→B7 (A0 P S 0)=(m,0))(hD:i6 P S=false→C8 P S 6=some Ls)(hG:Gk k m Ls)(hrd:S.rd<1000000000)(hwr:S.wr<1000000000)(hq:Qv w tv l)(hqA:l≠[]→ ∀x,tv.ownBlock=some x→ ¬A x)(b a:Int):
  Calls Tryz.prog 51 #[sv,.int .i64 b,.int .i64 a,tv] w (tM RT A w sv dv k P S (eK m k b a Ls l) (qH k b Ls l)):=by
 cases d:i6 P S
 ·refine(QT h d (by omega) (by omega) (hM d) (hD d) hG (Fs (hD d) hG 0) hq hqA b a).mono ?_;rintro e w' (⟨c,g,f⟩|⟨g,f⟩)
  ·exact XK d g f
  ·exact UJ d g f
 ·exact(QU h d b a).mono (fun e w' q=> .inl ⟨d,S,q.1,q.2.1,F0.refl _,q.2.2⟩)
end

theorem JC(w:d9)(b a:Int)(kv:Value):Calls Tryz.prog 25 #[.pointer none,.int .i64 b,.int .i64 a,kv] w fun e w'=>e= .returned (.int .i64 2)∧f8 w w':=by
 go_in;go_wp2_with fail;refine(nX _).mono ?_;rintro e f ⟨rfl,c⟩;have d:=b9 c;clear c;go_wp2_with fail;go_ret;exact⟨rfl,a9 d.o (a8 _ _)⟩
theorem JD(w:d9)(b a:Int)(tv:Value):Calls Tryz.prog 26 #[.pointer none,.int .i64 b,.int .i64 a,tv] w fun e w'=>e= .returned (.int .i64 2)∧f8 w w':=by
 go_in;go_wp2_with fail;refine(nX _).mono ?_;rintro e f ⟨rfl,c⟩;have d:=b9 c;clear c;go_wp2_with fail;go_ret;exact⟨rfl,a9 d.o (a8 _ _)⟩
end
section
def nW(E:Option Int)(L:List (Int × f7))(o:Option Bo)(S:Dk):Int × Option Bo × Dk:=
 match o with
 |none=>(2,none,S)
 |some P=>if i6 P S=true then(80,some (J6 P),S)else match E with
  |some c=>(c,some P,S)
  |none=>((A5 P S L).1,some (A5 P S L).2.1,(A5 P S L).2.2)
structure Dq(k:Int)(P:Bo)(m:Mk)(Ls:List (List Cl))(S:Dk):Prop where
 iw:Iw P (WZ S) (D2 m Ls)
 gk:Gk k m Ls
def jJ(k:Int)(m:Mk)(Ls:List (List Cl))(o:Option Bo)(S:Dk):Prop:=
 match o with
 |none=>s9 k=false∨(∃P,Dq k P m Ls S)∨(∀b∈S.bl,b=[])
 |some P=> ∃P0,Dq k P0 m Ls S∧(P=P0∨P.over=true)
section

variable{k b a:Int}{n:Nat}{P P0:Bo}{m m':Mk}{Ls Ls':List (List Cl)}{S S' S0:Dk}{o:Option Bo}{ks:f7}{l:List Pr}

theorem Dq.up(h:Dq k P m Ls S)(hd:S.down=false):Iw P S (D2 m Ls):=h.iw.turn hd rfl (fun _ _=>rfl)
theorem OY(h:Iw P S (D2 m Ls))(g:Gk k m Ls):Dq k P m Ls S:=⟨h.turn rfl rfl (fun _ _=>rfl),g⟩
theorem Dq.turn(h:Dq k P m Ls S)(hb:S'.bl=S.bl):Dq k P m Ls S':=⟨h.iw.turn rfl (by show S'.bl.length=S.bl.length;rw[hb]) (fun _ _=>by show bk S'.bl _=bk S.bl _;rw[hb]),h.gk⟩
theorem jJ.turn(h:jJ k m Ls o S)(hb:S'.bl=S.bl):jJ k m Ls o S':=by
 cases o with
 |none=>
  rcases h with h|⟨P,h⟩|h
  ·exact .inl h
  ·exact .inr (.inl ⟨P,h.turn hb⟩)
  ·exact .inr (.inr (by rw[hb];exact h))
 |some P=>obtain⟨c,b,a⟩:=h;exact⟨c,b.turn hb,a⟩
theorem jJ.over(h:jJ k m Ls (some P) S):jJ k m Ls (some (J6 P)) S:=by
 obtain⟨b,a,_⟩:=h;exact⟨b,a,.inr rfl⟩
theorem jJ.open(h:jJ k m Ls (some P) S)(hs:i6 P S=false):Iw P S (D2 m Ls)∧Gk k m Ls:=by
 obtain⟨c,b,a⟩:=h;unfold i6 at hs;rw[Bool.or_eq_false_iff]at hs;rcases a with rfl|a
 ·exact⟨b.up hs.2,b.gk⟩
 ·rw[hs.1]at a;cases a
theorem Be{o:Option Mk}(h:Iw P S (D2 m Ls))(g:Gd m Ls)(g':Gd m' Ls')(ho:o=some m'∨(o=none∧m'=m))(hg:P.gen<1099511627776):
  (∃P' S',A5 P S (R6 Ls Ls' o)=(0,P',S')∧Iw P' S' (D2 m' Ls')∧P'.gen≤P.gen+1∧S'.wr≤S.wr+8∧S'.rd=S.rd∧(S.left= -1→S'.left= -1))∨
  (∃S',A5 P S (R6 Ls Ls' o)=(80,J6 P,S')∧S'.down=true∧Iw P (WZ S') (D2 m Ls)∧S.left≠ -1∧S'.rd=S.rd∧S'.wr≤S.wr+8):=by
 by_cases a:R6 Ls Ls' o=[]
 ·left;refine⟨P,S,?_,?_,by omega,by omega,rfl,fun h=>h⟩
  ·rw[a];unfold A5;rw[if_neg (by rw[h.shut];simp),if_neg (by simp[x9,K2]),if_pos rfl]
  ·have:=jF (m:=m) g.pok.1 g' o ho;rw[a]at this;rw[←this];exact h
 ·rcases yP h (nI g' o) a hg with ⟨P',S',e,i,f,d,c,b,q,p,j⟩|⟨S',e,k,f,d,c,b⟩
  ·rw[jF g.pok.1 g' o ho]at i;refine .inl ⟨P',S',e,i,by omega,?_,b,j⟩;have n:uD (R6 Ls Ls' o)≤(R6 Ls Ls' o).length:=List.length_filter_le _ _;have l:=GK (Ls:=Ls) (Ls':=Ls') o;omega
  ·exact .inr ⟨S',e,k,f,d,c,b⟩
theorem Kl(h:Iw P S (D2 m Ls))(g:Gk k m Ls)(g':Gk k m' Ls'){q:Option Mk}(ho:q=some m'∨(q=none∧m'=m)):
  ∃m2 Ls2,jJ k m2 Ls2 (some (A5 P S (R6 Ls Ls' q)).2.1) (A5 P S (R6 Ls Ls' q)).2.2∧(A5 P S (R6 Ls Ls' q)).2.2.wr≤S.wr+8∧(A5 P S (R6 Ls Ls' q)).2.2.rd=S.rd:=by
 by_cases j:P.gen=1099511627776
 ·have f:=h.shut;have l:x9 P.tab.length (R6 Ls Ls' q)=0:=FF _ [] (by rw[h.n8];exact nI g'.gd q) (fun _ _=>by simp);refine⟨m,Ls,?_⟩;unfold A5;rw[if_neg (by rw[f];simp),if_neg (fun e=>e l)];by_cases d:R6 Ls Ls' q=[]
  ·rw[if_pos d];exact⟨⟨P,OY h g,.inl rfl⟩,by show S.wr≤S.wr+8;omega,rfl⟩
  ·rw[if_neg d,if_pos j];exact⟨⟨P,OY h g,.inl rfl⟩,by show S.wr≤S.wr+8;omega,rfl⟩
 ·have c:P.gen<1099511627776:=by have:=h.ok.g40;omega
  rcases Be h g.gd g'.gd ho c with ⟨P',n,e,i,_,b,a,_⟩|⟨n,e,_,i,_,a,b⟩
  ·rw[e];exact⟨m',Ls',⟨P',OY i g',.inl rfl⟩,b,a⟩
  ·rw[e];exact⟨m,Ls,⟨P,⟨i,g⟩,.inr rfl⟩,b,a⟩
theorem ZI(g:Gk k m Ls)(hc:M0 m b a ks=none)(ko:B9 ks):Gk k ⟨b,a,ks⟩ (fX Ls m b):=by
 by_cases q:B6 b a=false∨64<ks.length∨K1 ks=false
 ·rw[nQ q]at hc;cases hc
 have f:B6 b a=true:=by cases e:B6 b a;exact absurd (.inl e) q;rfl
 have l:K1 ks=true:=by cases e:K1 ks;exact absurd (.inr (.inr e)) q;rfl
 have j:ks.length≤64:=by have: ¬64<ks.length:=fun e=>q (.inr (.inl e));omega
 have c:1≤b∧b≤1099511627776∧1≤a∧a≤1099511627776:=by unfold B6 at f;simp at f;omega
 have n:m.b<b∨(b=m.b∧m.a<a):=by
  rcases Int.lt_trichotomy b m.b with h|h|h
  ·rw[AF q (YD c.1 c.2.2.1 (.inl h))]at hc;cases hc
  ·rcases Int.lt_trichotomy a m.a with d|d|d
   ·rw[AF q (YD c.1 c.2.2.1 (.inr ⟨h,d⟩))]at hc;cases hc
   ·rw[GX q (by rw[h,d];rw[h]at c;rw[d]at c;exact YC c.1 c.2.2.1)]at hc;cases hc
   ·exact .inr ⟨h,d⟩
  ·exact .inl h
 have o:b=m.b∨b=m.b+1:=by
  rcases n with h|h
  ·right;have i:=YA (mb:=m.b) (ma:=m.a) c.1 c.2.2.1 (.inl h);by_cases d:m.b+1<b
   ·rw[wP q (by rw[i];decide) (by rw[i];decide) d]at hc;cases hc
   ·omega
  ·exact .inl h.1
 exact(GZ g o c.1 (uP c.1 c.2.1 c.2.2.1 c.2.2.2 j l) ko).1
theorem Lj(h:jJ k m Ls o S)(ko:B9 ks): ∃m2 Ls2,jJ k m2 Ls2 (nW (M0 m b a ks) (dF Ls m b a ks) o S).2.1 (nW (M0 m b a ks) (dF Ls m b a ks) o S).2.2∧(nW (M0 m b a ks) (dF Ls m b a ks) o S).2.2.wr≤S.wr+8∧(nW (M0 m b a ks) (dF Ls m b a ks) o S).2.2.rd=S.rd:=by
 unfold nW
 cases o with
 |none=>exact⟨m,Ls,h,by show S.wr≤S.wr+8;omega,rfl⟩
 |some P=>
  simp only
  cases d:i6 P S
  ·obtain⟨e,g⟩:=h.open d;rw[if_neg (by simp)]
   cases hc:M0 m b a ks with
   |some c=>exact⟨m,Ls,h,by show S.wr≤S.wr+8;omega,rfl⟩
   |none=>
    simp only;rw[AG];exact Kl e g (ZI g hc ko) (.inl rfl)
  ·rw[if_pos rfl];exact⟨m,Ls,h.over,by show S.wr≤S.wr+8;omega,rfl⟩
theorem Lo(g:Gk k m Ls)(hc:eK m k b a Ls l=none)(hok: ∀p∈l,p.ok):Gk k m (T6 k b Ls l).2:=by
 unfold eK at hc;by_cases q:B6 b a=false∨Q9 k l=false
 ·rw[if_pos q]at hc;cases hc
 rw[if_neg q]at hc;by_cases d:M9 m.b m.a b a≠0
 ·rw[if_pos d]at hc;cases hc
 rw[if_neg d]at hc;by_cases c:U5 m.k l=false
 ·rw[if_pos c]at hc;cases hc
 rw[if_neg c]at hc;obtain⟨i,_,f,_⟩:=YB (Classical.not_not.1 d);rcases Eo (Ls:=Ls) i f l g (Fa (by cases e:Q9 k l;exact absurd (.inr e) q;rfl) (by cases e:U5 m.k l;exact absurd e c;rfl) hok)with h|⟨Ls',h,g'⟩
 ·rw[h,if_pos (by decide)]at hc;cases hc
 ·rw[h];exact g'
theorem Nd(h:jJ k m Ls o S)(hok: ∀p∈l,p.ok): ∃m2 Ls2,jJ k m2 Ls2 (nW (eK m k b a Ls l) (qH k b Ls l) o S).2.1 (nW (eK m k b a Ls l) (qH k b Ls l) o S).2.2∧(nW (eK m k b a Ls l) (qH k b Ls l) o S).2.2.wr≤S.wr+8∧(nW (eK m k b a Ls l) (qH k b Ls l) o S).2.2.rd=S.rd:=by
 unfold nW
 cases o with
 |none=>exact⟨m,Ls,h,by show S.wr≤S.wr+8;omega,rfl⟩
 |some P=>
  simp only
  cases d:i6 P S
  ·obtain⟨e,g⟩:=h.open d;rw[if_neg (by simp)]
   cases hc:eK m k b a Ls l with
   |some c=>exact⟨m,Ls,h,by show S.wr≤S.wr+8;omega,rfl⟩
   |none=>
    simp only;rw[ZN];exact Kl e g (Lo g hc hok) (.inr ⟨rfl,rfl⟩)
  ·rw[if_pos rfl];exact⟨m,Ls,h.over,by show S.wr≤S.wr+8;omega,rfl⟩
theorem jJ.rd(h:jJ k m Ls (some P) S0)(hr:F0 n S0 S)(hs:i6 P S=false):B7 (A0 P S 0)=(m,0)∧C8 P S 6=some Ls∧Gk k m Ls:=by
 have a:i6 P S0=false:=by rw[←C3 hr];exact hs
 obtain⟨c,g⟩:=h.open a;have b:=c.rdd hr;exact⟨qD g.gd b,mU g.gd b,g⟩
end
end
section
structure Fx(A A':n9)(B sp tp:Nat):Prop where
 dis: ∀x,A x→ ¬A' x
 nt: ¬A tp
 ns: ¬A' sp
 lo: ∀x,A x∨A' x→B≤x
structure PN(A A':n9)(sp tp:Nat)(dv xv:Value)(k:Int)(P:Bo)(S0:Dk)(n:Nat)(w:d9):Prop where
 st: ∃S,ST A w (.pointer (some ⟨sp,0,none⟩)) dv k P S∧F0 n S0 S
 rt: ∃X,RT A' w (.pointer (some ⟨tp,0,none⟩)) xv k P X∧F0 n S0 X
section

variable{A A':n9}{B sp tp n j:Nat}{dv xv:Value}{k:Int}{P:Bo}{S0 S S':Dk}{w w':d9}

theorem PN.below(h:PN A A' sp tp dv xv k P S0 n w)(hb:f8 w w'):PN A A' sp tp dv xv k P S0 n w':=by
 obtain⟨⟨S,d,c⟩,X,b,a⟩:=h;exact⟨⟨S,d.below hb,c⟩,X,b.below hb,a⟩
theorem PN.mono(h:PN A A' sp tp dv xv k P S0 n w)(hj:n≤j):PN A A' sp tp dv xv k P S0 j w:=by
 obtain⟨⟨S,d,c⟩,X,b,a⟩:=h;exact⟨⟨S,d,c.mono hj⟩,X,b,a.mono hj⟩
theorem PN.prog(h:PN A A' sp tp dv xv k P S0 n w)(fx:Fx A A' B sp tp)(hs:ST A w' (.pointer (some ⟨sp,0,none⟩)) dv k P S')(hr:F0 (n+j) S0 S')(hc:Ch A w w'):PN A A' sp tp dv xv k P S0 (n+j) w':=by
 obtain⟨_,X,c,b⟩:=h;exact⟨⟨S',hs,hr⟩,X,c.high hc (fun x a e=>fx.dis x e a) fx.nt,b.mono (by omega)⟩
theorem PN.ref(h:PN A A' sp tp dv xv k P S0 n w)(fx:Fx A A' B sp tp)(hs:RT A' w' (.pointer (some ⟨tp,0,none⟩)) xv k P S')(hr:F0 (n+j) S0 S')(hc:Ch A' w w'):PN A A' sp tp dv xv k P S0 (n+j) w':=by
 obtain⟨⟨S,c,b⟩,_⟩:=h;exact⟨⟨S,c.high hc (fun x a e=>fx.dis x a e) fx.ns,b.mono (by omega)⟩,S',hs,hr⟩
theorem PN.lt(h:PN A A' sp tp dv xv k P S0 n w){x:Nat}(hx:A x∨A' x):x<w.heap.size:=by
 obtain⟨⟨S,b,_⟩,X,a,_⟩:=h;rcases hx with q|q
 ·exact b.lt q
 ·exact a.lt q
theorem PN.bytes(h:PN A A' sp tp dv xv k P S0 n w)(p:Int): ∀c∈A0 P S0 p,c<256:=by
 obtain⟨⟨S,b,a⟩,_⟩:=h;rw[←J3 a];exact(mV b p).2
end

theorem Lh{A A':n9}{w w':d9}(h:Ch A w w'):Ch (fun x=>A x∨A' x) w w':=⟨h.os,h.tape,h.output,h.size,fun x hx hd=>h.block x hx (fun q=>hd (.inl q))⟩
theorem Lg{A A':n9}{w w':d9}(h:Ch A' w w'):Ch (fun x=>A x∨A' x) w w':=⟨h.os,h.tape,h.output,h.size,fun x hx hd=>h.block x hx (fun q=>hd (.inr q))⟩
theorem Lf{w:d9}{ao:Option Addr}{cap:Nat}{d:List Cl}(h1:d.length≤cap)(h2:cap≤maxLen)(h3:d≠[]→ ∃g,ao=some ⟨g,0,none⟩∧g<w.heap.size∧Mc w g d):Cw w (.slice ao d.length cap) d:=⟨ao,cap,rfl,h1,h2,h3⟩
theorem Jh{D:n9}{w w':d9}{v:Value}{d:List Cl}(h:Cw w v d)(hc:Ch D w w')(hd: ∀x,v.ownBlock=some x→ ¬D x):Cw w' v d:=by
 obtain⟨r,a,rfl,p,o,n⟩:=h;refine⟨r,a,rfl,p,o,fun q=>?_⟩;obtain⟨g,rfl,b,k⟩:=n q;refine⟨g,rfl,Nat.lt_of_lt_of_le b hc.size,fun i j m l=>?_⟩;have c:=hc.block g b (hd g rfl);obtain⟨f,e⟩:=k i j m l;exact⟨by rw[World.cell?_of_block (w:=w) c];exact f,by rw[World.frozen?_of_block (w:=w) c];exact e⟩
theorem UZ(w:d9):Calls Tryz.prog 23 #[.pointer none,.pointer none] w fun e w'=>e= .returned (.bool true)∧f8 w w':=by
 go_in;go_wp2_with fail;refine(nX _).mono ?_;rintro e n ⟨rfl,j⟩;have m:c6 (f8 w (n.alloc (Obj.cells #[.int .i64 0,.int .i64 0,.slice none 0 0] 62))):=a9 j (a8 _ _);have c:=b9 (A9 n 0 0 (.slice none 0 0));clear j;go_upto_region 2 with fail
 generalize n.heap.size=T5 at c⊢;generalize n.alloc (Obj.cells #[.int .i64 0,.int .i64 0,.slice none 0 0] 62)=w2 at m c⊢;go_wp2_with fail;refine(RI _).mono ?_;rintro e f ⟨rfl,a⟩;have l:c6 (f8 w (f.alloc (Obj.cells #[.int .i64 0,.int .i64 0,.slice none 0 0] 62))):=a9 m.o (a9 a (a8 _ _));have b:=b9 (A9 f 0 0 (.slice none 0 0));have k:c6 (MB (f.alloc (Obj.cells #[.int .i64 0,.int .i64 0,.slice none 0 0] 62)) T5 0 0 (.slice none 0 0)):=c.o.keep (a9 a (a8 _ _));clear a;go_upto_region 3 with fail
 generalize f.heap.size=T7 at b⊢;generalize f.alloc (Obj.cells #[.int .i64 0,.int .i64 0,.slice none 0 0] 62)=w4 at l b k⊢;obtain⟨z,y,x,_⟩:=k.o;obtain⟨v,u,t,_⟩:=b.o;go_wp2_with fail;refine(fC (ks:=[]) (Sv.nil _ _) (Sv.nil _ _) 0 0).mono ?_;rintro e C ⟨rfl,i⟩;have s:=b9 (a9 l.o i);clear i z y x v u t;go_wp2_with fail;refine(JB _).mono ?_;rintro e B ⟨rfl,h⟩;have r:=b9 (a9 s.o h);clear h;go_wp2_with fail;refine B4 (KD _) ?_;go_wp2_with fail;refine(kV (d:=[]) ⟨none,0,rfl,Nat.le_refl _,by simp[maxLen],fun q=>absurd rfl q⟩ ⟨none,0,rfl,Nat.le_refl _,by simp[maxLen],fun q=>absurd rfl q⟩).mono ?_;rintro e A ⟨rfl,g⟩;have p:=b9 (a9 r.o g);clear g;go_wp2_with fail;refine B4 (uO _) ?_;go_wp2_with fail;refine B4 (rF _) ?_;go_wp2_with fail;refine B4 (rE _) ?_;go_wp2_with fail;refine B4 (oZ _) ?_;go_wp2_with fail;go_ret;exact⟨rfl,p.o⟩
structure Rg2(k:Int)(P:Bo)(S0:Dk)(m:Mk)(Ls:List (List Cl)):Prop where
 mrk:B7 (A0 P S0 0)=(m,0)
 ce:C8 P S0 6=some Ls
 ok:Ev k m Ls
 sh:i6 P S0=false
theorem QH{A A':n9}{B sp tp n:Nat}{dv xv:Value}{k:Int}{P:Bo}{S0:Dk}{m:Mk}{Ls:List (List Cl)}{w:d9}(h:PN A A' sp tp dv xv k P S0 n w)(fx:Fx A A' B sp tp)(r:Rg2 k P S0 m Ls)(hn:S0.rd+n<1000000000):
  Calls Tryz.prog 23 #[.pointer (some ⟨sp,0,none⟩),.pointer (some ⟨tp,0,none⟩)] w fun e w'=>e= .returned (.bool true)∧PN A A' sp tp dv xv k P S0 (n+14) w'∧Ch (fun x=>A x∨A' x) w w':=by
 have o0:=b9 h;have U:=b9 fx;have l:=b9 r;have HN:=b9 hn;have L0:=b9 (nC r.ce (fun p=>h.bytes p));have c1:c6 (∀x,A x∨A' x→x<w.heap.size):=fun x u=>h.lt u;clear h fx r hn;go_in;go_wp2_with fail;obtain⟨⟨S,i,f⟩,X,j,c⟩:=o0.o;have s:c6 (i6 P S=false):=by rw[C3 f];exact l.o.sh
 refine(X6 i (by have h1:=f.rd;have h2:=HN.o;omega)).mono ?_;rintro e G ⟨cc,m',kv,S1,rfl,ho,hcase,hst1,C0,k0⟩;rw[F5 s.o]at hst1
 have U0:cc=0∧m'=m:=by
  rw[J3 f,l.o.mrk]at hcase;rcases hcase with ⟨_,q,_⟩|⟨_,_,q,_⟩|⟨q1,_,q2⟩
  ·rw[s.o]at q;cases q
  ·exact absurd rfl q
  ·cases q2;exact⟨q1,rfl⟩
 obtain⟨rfl,rfl⟩:=U0;have f0:=b9 (o0.o.prog U.o hst1 (f.trans C0) k0);have z0:c6 (Ch (fun x=>A x∨A' x) w G):=Lh k0;have r0:=b9 (z9 ho);have X0:c6 (∀x,kv.ownBlock=some x→w.heap.size≤x):=fun x u=>(ho.lt x u).1;obtain⟨M,K,L,rfl⟩:=F2 r0.o;clear i f j c ho hcase hst1 C0 k0 s o0;go_upto_region 2 with fail
 have t:c6 (PN A A' sp tp dv xv k P S0 (n+1) (G.alloc (Obj.cells #[.int .i64 m'.b,.int .i64 m'.a,.slice M K L] 62))):=f0.o.below (a8 _ _);have y0:c6 (Ch (fun x=>A x∨A' x) w (G.alloc (Obj.cells #[.int .i64 m'.b,.int .i64 m'.a,.slice M K L] 62))):=z0.o.self (Ch.of_below (a8 _ _));have T:c6 (MB (G.alloc (Obj.cells #[.int .i64 m'.b,.int .i64 m'.a,.slice M K L] 62)) G.heap.size m'.b m'.a (.slice M K L)):=A9 G _ _ _;have v0:c6 (Kv (G.alloc (Obj.cells #[.int .i64 m'.b,.int .i64 m'.a,.slice M K L] 62)) (.slice M K L) m'.k):=r0.o.below (a8 _ _);have I0:=b9 z0.o.size;generalize G.heap.size=T5 at T I0⊢;generalize G.alloc (Obj.cells #[.int .i64 m'.b,.int .i64 m'.a,.slice M K L] 62)=w2 at t y0 T v0⊢;clear f0 z0 r0;have p0:c6 (∀x,w.heap.size≤x→ ¬(A x∨A' x)):=fun x u q=>by have:=c1.o x q;omega
 go_wp2_with fail;obtain⟨⟨S,i,f⟩,X,j,c⟩:=t.o;have Q:c6 (i6 P X=false):=by rw[C3 c];exact l.o.sh
 refine(VV j Q.o (by have h1:=c.rd;have h2:=HN.o;omega)).mono ?_;unfold ZR;rw[J3 c,l.o.mrk];rintro e F ⟨f1,rfl,F0,Y,v⟩;have d0:=b9 (t.o.ref U.o Y (c.trans J5) v);have R0:=b9 (y0.o.self (Lg v));have t0:=b9 (z9 F0);have N0:=b9 (pJ v0.o v (fun x u q=>p0.o x (X0.o x u) (.inr q)));have M0:=b9 (T.o.ch v (fun q=>p0.o T5 I0.o (.inr q)));obtain⟨J,H,I,rfl⟩:=F2 t0.o;clear i f j c F0 Y v Q t y0 T v0;go_upto_region 3 with fail
 have D:c6 (PN A A' sp tp dv xv k P S0 (n+1+1) (F.alloc (Obj.cells #[.int .i64 m'.b,.int .i64 m'.a,.slice J H I] 62))):=d0.o.below (a8 _ _);have x0:c6 (Ch (fun x=>A x∨A' x) w (F.alloc (Obj.cells #[.int .i64 m'.b,.int .i64 m'.a,.slice J H I] 62))):=R0.o.self (Ch.of_below (a8 _ _));have R:c6 (MB (F.alloc (Obj.cells #[.int .i64 m'.b,.int .i64 m'.a,.slice J H I] 62)) F.heap.size m'.b m'.a (.slice J H I)):=A9 F _ _ _;have q0:c6 (MB (F.alloc (Obj.cells #[.int .i64 m'.b,.int .i64 m'.a,.slice J H I] 62)) T5 m'.b m'.a (.slice M K L)):=M0.o.keep (a8 _ _);have s0:c6 (Kv (F.alloc (Obj.cells #[.int .i64 m'.b,.int .i64 m'.a,.slice J H I] 62)) (.slice J H I) m'.k):=t0.o.below (a8 _ _);have E:c6 (Kv (F.alloc (Obj.cells #[.int .i64 m'.b,.int .i64 m'.a,.slice J H I] 62)) (.slice M K L) m'.k):=N0.o.below (a8 _ _);generalize F.heap.size=T7 at R⊢;generalize F.alloc (Obj.cells #[.int .i64 m'.b,.int .i64 m'.a,.slice J H I] 62)=w4 at D x0 R q0 s0 E⊢;clear d0 R0 M0 t0 N0;obtain⟨a0,a1,a2,_⟩:=q0.o;obtain⟨b0,b1,b2,_⟩:=R.o;go_wp2_with fail;refine(fC E.o s0.o m'.b m'.a).mono ?_;rintro e w5 ⟨rfl,m0⟩;have C:=b9 (D.o.below m0);have w0:=b9 (x0.o.self (Ch.of_below m0));clear m0 a0 a1 a2 b0 b1 b2 D x0 R q0 s0 E;go_wp2_with fail;obtain⟨⟨S,i,f⟩,X,j,c⟩:=C.o;have s:c6 (i6 P S=false):=by rw[C3 f];exact l.o.sh
 refine(gK i (Ls:=Ls) (fun _=>by rw[dR f];exact l.o.ce) L0.o.2.2 (by have h1:=f.rd;have h2:=HN.o;omega)).mono ?_;rintro e w6 ⟨S6,y,B0,j0,hcase⟩;rw[F5 s.o]at y;rcases hcase with ⟨q,_⟩|⟨_,ao,n0,d,rfl,d1,d2,d3,d4,_⟩
 ·rw[s.o]at q;cases q
 have z:=b9 (C.o.prog U.o y (f.trans B0) j0);have Q0:c6 (Ch (fun x=>A x∨A' x) w w6):=w0.o.self (Lh j0);have T0:c6 (cG Ls.flatten d):=d3;have W0:c6 (w.heap.size≤w5.heap.size):=w0.o.size;have O0:c6 (Cw w6 (.slice ao d.length n0) d):=Lf d1 d2 (fun q=>by obtain⟨g,h1,_,h3,h4⟩:=d4 q;exact⟨g,h1,h3,h4⟩)
 have Y0:c6 (d≠[]→ ∀x,(Value.slice ao d.length n0).ownBlock=some x→w.heap.size≤x):=fun q x u=>by
  obtain⟨g,h1,h2,_,_⟩:=d4 q;rw[h1]at u;have e:g=x:=Option.some.inj u;have:=W0.o;omega
 clear i f j c y B0 j0 d1 d2 d3 d4 s C w0;go_wp2_with fail;obtain⟨⟨S,i,f⟩,X,j,c⟩:=z.o;have Q:c6 (i6 P X=false):=by rw[C3 c];exact l.o.sh
 have H0:c6 (C8 P X 6=some Ls):=by show _=_;rw[dR c];exact l.o.ce
 refine(JJ j Q.o (Ft H0.o L0.o) (by have h1:=c.rd;have h2:=HN.o;omega)).mono ?_;rintro e w7 ⟨X7,g1,cap7,d7,rfl,i0,D0,W,A0,O⟩;rw[ZO H0.o]at i0;have V0:=Am l.o.ok.2 i0 T0.o;subst V0;have c0:=b9 (z.o.ref U.o W (c.trans A0) O);have P0:=b9 (Q0.o.self (Lg O));have g0:=b9 (Jg D0)
 have h0:c6 (Cw w7 (.slice ao d7.length n0) d7):=by
  by_cases G0:d7=[]
  ·obtain⟨ao',cap',e,q1,q2,_⟩:=O0.o;exact⟨ao',cap',e,q1,q2,fun q=>absurd G0 q⟩
  ·exact Jh O0.o O (fun x u q=>p0.o x (Y0.o G0 x u) (.inr q))
 obtain⟨N,hN⟩:=c7 d7.length;rw[←hN]at g0 h0⊢;clear i f j c i0 D0 W A0 O z Q0 hN;go_wp2_with fail;refine(kV h0.o g0.o).mono ?_;rintro e w8 ⟨rfl,l0⟩;have Z:=b9 (c0.o.below l0);have Z0:=b9 (P0.o.self (Ch.of_below l0));clear l0 c0 P0;obtain⟨⟨S,i,f⟩,X,j,c⟩:=Z.o;have J0:=b9 i;have K0:=b9 j;clear i f j c;go_wp2_with fail;refine B4 (jV J0.o) ?_;go_wp2_with fail;refine B4 (oY K0.o) ?_;go_wp2_with fail;refine B4 (gJ J0.o) ?_;go_wp2_with fail;refine B4 (lR K0.o) ?_;go_wp2_with fail;go_ret;exact⟨by simp,Z.o.mono (by omega),Z0.o⟩
end
section
theorem aS{A D:n9}{w w':d9}(hc:Ch D w w')(hd: ∀x,D x→A x):Ch A w w':=⟨hc.os,hc.tape,hc.output,hc.size,fun y hy hn=>hc.block y hy (fun q=>hn (hd y q))⟩
abbrev Kf:TypeId:=89
abbrev Ke:TypeId:=91
abbrev lB(b:Nat):Value:= .pointer (some ⟨b,0,none⟩)
structure Gc(T:TypeId)(Sx:Jp):Prop where
 lt: ∀{A:n9}{w:d9}{v dv:Value}{k:Int}{P:Bo}{S:Dk}{x:Nat},Sx A w v dv k P S→A x→x<w.heap.size
 ptr: ∀{A:n9}{w:d9}{v dv:Value}{k:Int}{P:Bo}{S:Dk},Sx A w v dv k P S→ ∃sp,v=lB sp∧sp<w.heap.size∧ ¬A sp
 high: ∀{A E:n9}{w w':d9}{sp:Nat}{dv:Value}{k:Int}{P:Bo}{S:Dk},Sx A w (lB sp) dv k P S→Ch E w w'→(∀x,A x→ ¬E x)→ ¬E sp→Sx A w' (lB sp) dv k P S
 disk: ∀{A:n9}{w:d9}{v dv:Value}{k:Int}{P:Bo}{S:Dk},Sx A w v dv k P S→ ∃D,I9 T D w dv S∧(∀x,D x→A x)∧ ∀w' S',I9 T D w' dv S'→Ch D w w'→S'.bl.length=S.bl.length→Sx A w' v dv k P S'
theorem cJ:Gc Kf ST:=⟨fun h hx=>h.lt hx,fun h=>h.ptr,fun h hc hA hs=>h.high hc hA hs,fun {A w v dv k P S} h=>by
 obtain⟨sp,bv,e,h1,h2,h3,h4⟩:=h;obtain⟨D,d1,d2,d3⟩:=h3.disk;have hl:=(Array.getElem?_eq_some_iff.1 h1).1;refine⟨D,d1,d2,fun w' S' hd hc hb=>⟨sp,bv,e,by rw[hc.block sp hl (fun q=>h2 (d2 _ q))];exact h1,h2,?_,h4⟩⟩;have h5:=d3 D w' S' hd (fun x hx=> .inl hx) hc hb;have e2:(fun x=>A x∨D x)=A:=by funext x;exact propext ⟨fun q=>q.elim id (d2 x),.inl⟩
 rw[e2]at h5;exact h5⟩
theorem cI:Gc Ke RT:=⟨fun h hx=>h.lt hx,fun h=>h.ptr,fun h hc hA hs=>h.high hc hA hs,fun {A w v dv k P S} h=>by
 obtain⟨sp,bv,e,h1,h2,h3,h4⟩:=h;obtain⟨D,d1,d2,d3⟩:=h3.disk;have hl:=(Array.getElem?_eq_some_iff.1 h1).1;refine⟨D,d1,d2,fun w' S' hd hc hb=>⟨sp,bv,e,by rw[hc.block sp hl (fun q=>h2 (d2 _ q))];exact h1,h2,?_,h4⟩⟩;have h5:=d3 D w' S' hd (fun x hx=> .inl hx) hc hb;have e2:(fun x=>A x∨D x)=A:=by funext x;exact propext ⟨fun q=>q.elim id (d2 x),.inl⟩
 rw[e2]at h5;exact h5⟩
def Ms(T:TypeId)(Sx:Jp)(X:n9)(w:d9)(dv:Value)(k:Int)(v:Value):Option Bo→Dk→Prop
 |none,S=>v= .pointer none∧I9 T X w dv S
 |some P,S=> ∃A sp,v=lB sp∧Sx A w v dv k P S∧ ∀x,X x↔A x∨x=sp
structure UH(T:TypeId)(Sx:Jp)(X:n9)(w:d9)(sb:Nat)(k:Int)(v:Value)(o:Option Bo)(S:Dk)(n:Nat):Prop where
 ex: ∃S',F0 n S S'∧Ms T Sx X w (lB sb) k v o S'
def IJ(T:TypeId)(Sx:Jp)(X:n9)(w:d9)(sb:Nat)(k:Int)(v':Value)(o':Option Bo)(S':Dk)(n':Nat)(w':d9):Prop:= ∃X':n9,UH T Sx X' w' sb k v' o' S' n'∧Ch X w w'∧ ∀x,X' x→X x∨w.heap.size≤x
section

variable{T:TypeId}{Sx:Jp}{X E:n9}{w w':d9}{sb n n' j:Nat}{k:Int}{v v':Value}{o o':Option Bo}{S S':Dk}

theorem Ms.lt(hk:Gc T Sx){dv:Value}(h:Ms T Sx X w dv k v o S){x:Nat}(hx:X x):x<w.heap.size:=by
 cases o with
 |none=>exact h.2.lt hx
 |some P=>
  obtain⟨A,sp,e,a,c⟩:=h;rcases(c x).1 hx with q|rfl
  ·exact hk.lt a q
  ·obtain⟨sp',e',b,_⟩:=hk.ptr a;rw[e]at e'
   cases e'
   exact b
theorem Ms.high(hk:Gc T Sx){dv:Value}(h:Ms T Sx X w dv k v o S)(hc:Ch E w w')(hE: ∀x,X x→ ¬E x):Ms T Sx X w' dv k v o S:=by
 cases o with
 |none=>exact⟨h.1,h.2.ch hc hE⟩
 |some P=>
  obtain⟨A,sp,rfl,c,a⟩:=h;exact⟨A,sp,rfl,hk.high c hc (fun x b=>hE x ((a x).2 (.inl b))) (hE sp ((a sp).2 (.inr rfl))),a⟩
theorem UH.lt(hk:Gc T Sx)(h:UH T Sx X w sb k v o S n){x:Nat}(hx:X x):x<w.heap.size:=by
 obtain⟨S',_,h⟩:=h.ex;exact h.lt hk hx
theorem UH.high(hk:Gc T Sx)(h:UH T Sx X w sb k v o S n)(hc:Ch E w w')(hE: ∀x,X x→ ¬E x):UH T Sx X w' sb k v o S n:=by
 obtain⟨S',a,h⟩:=h.ex;exact⟨S',a,h.high hk hc hE⟩
theorem UH.disk(hk:Gc T Sx)(h:UH T Sx X w sb k v o S n): ∃(D:n9) (S1:Dk),I9 T D w (lB sb) S1∧F0 n S S1∧ ∀(S2 S3:Dk) (w':d9),I9 T D w' (lB sb) S2→Ch D w w'→S2.bl.length=S1.bl.length→F0 n' S3 S2→IJ T Sx X w sb k v o S3 n' w':=by
 obtain⟨S1,c,h⟩:=h.ex
 cases o with
 |none=>exact⟨X,S1,h.2,c,fun S2 S3 w' hd b d a=>⟨X,⟨S2,a,h.1,hd⟩,b,fun _ q=> .inl q⟩⟩
 |some P=>
  obtain⟨A,sp,rfl,g,e⟩:=h;obtain⟨D,l,j,i⟩:=hk.disk g;exact⟨D,S1,l,c,fun S2 S3 w' hd b d a=>⟨X,⟨S2,a,A,sp,rfl,i w' S2 hd b d,e⟩,aS b (fun x f=>(e x).2 (.inl (j x f))),fun _ q=> .inl q⟩⟩
theorem PG{A:n9}{sp:Nat}{P:Bo}{S1:Dk}{E:Option Int}{L:List (Int × f7)}{e:Ending}(h:tM Sx A w (lB sp) (lB sb) k P S1 E L e w')(hr:F0 n S S1)(hX: ∀x,X x↔A x∨x=sp):
  e= .returned (.int .i64 (nW E L (some P) S).1)∧IJ T Sx X w sb k (lB sp) (nW E L (some P) S).2.1 (nW E L (some P) S).2.2 (n+8) w':=by
 have i: ∀x,A x→X x:=fun x j=>(hX x).2 (.inl j);have b:=C3 (P:=P) hr;unfold nW;rcases h with ⟨a,S',rfl,g,f,d⟩|⟨a,c,S',l,rfl,g,f,d⟩|⟨a,l,S',A',f,rfl,g,m,d⟩
 ·rw[b]at a;simp only[a,if_true];exact⟨trivial,X,⟨S',hr.trans f,A,sp,rfl,g,hX⟩,aS d i,fun _ q=> .inl q⟩
 ·rw[b]at a;simp only[a,l,Bool.false_eq_true,if_false];exact⟨trivial,X,⟨S',hr.trans f,A,sp,rfl,g,hX⟩,aS d i,fun _ q=> .inl q⟩
 ·rw[b]at a;obtain⟨r,p,o⟩:=Ba (P:=P) (hr.trans f) L;simp only[a,l,Bool.false_eq_true,if_false];rw[r,←p];refine⟨rfl,fun x=>A' x∨x=sp,⟨_,o,A',sp,rfl,g,fun _=>Iff.rfl⟩,aS d i,fun x j=>?_⟩;rcases j with q|q
  ·rcases m x q with q|q
   ·exact .inl (i x q)
   ·exact .inr q
  ·exact .inl ((hX x).2 (.inr q))
end

structure V3(wz:d9)(K:n9)(sb rb:Nat)(k:Int)(v v2:Value)(o o2:Option Bo)(S S2:Dk)(n n2:Nat)(w:d9):Prop where
 ex: ∃X Y:n9,UH Kf ST X w sb k v o S n∧UH Ke RT Y w rb k v2 o2 S2 n2∧(∀x,X x→wz.heap.size≤x∧ ¬K x∧ ¬Y x)∧ ∀x,Y x→wz.heap.size≤x∧ ¬K x
 cz:Ch (fun x=>wz.heap.size≤x) wz w
 kl: ∀x,K x→x<w.heap.size
section

variable{wz w w':d9}{K K':n9}{sb rb n n2 j:Nat}{k:Int}{v v2:Value}{o o2:Option Bo}{S S2:Dk}

theorem V3.below(h:V3 wz K sb rb k v v2 o o2 S S2 n n2 w)(hb:f8 w w'):V3 wz K sb rb k v v2 o o2 S S2 n n2 w':=by
 obtain⟨X,Y,e,d,c,b⟩:=h.ex;exact⟨⟨X,Y,e.high cJ (E:=fun _=>False) (Ch.of_below hb) (fun _ _ q=>q),d.high cI (E:=fun _=>False) (Ch.of_below hb) (fun _ _ q=>q),c,b⟩,h.cz.self (Ch.of_below hb),fun x a=>Nat.lt_of_lt_of_le (h.kl x a) hb.size⟩
theorem V3.more(h:V3 wz K sb rb k v v2 o o2 S S2 n n2 w)(hb:f8 w w'):V3 wz (fun x=>K x∨(w.heap.size≤x∧x<w'.heap.size)) sb rb k v v2 o o2 S S2 n n2 w':=by
 have c:=h.below hb;obtain⟨X,Y,f,e,b,d⟩:=h.ex;refine⟨⟨X,Y,f.high cJ (E:=fun _=>False) (Ch.of_below hb) (fun _ _ q=>q),e.high cI (E:=fun _=>False) (Ch.of_below hb) (fun _ _ q=>q),fun x a=>⟨(b x a).1,?_,(b x a).2.2⟩,fun x a=>⟨(d x a).1,?_⟩⟩,c.cz,fun x a=>?_⟩
 ·rintro(q|q)
  ·exact(b x a).2.1 q
  ·have:=f.lt cJ a;omega
 ·rintro(q|q)
  ·exact(d x a).2 q
  ·have:=e.lt cI a;omega
 ·rcases a with q|q
  ·exact c.kl x q
  ·exact q.2
theorem V3.less(h:V3 wz K sb rb k v v2 o o2 S S2 n n2 w)(hk: ∀x,K' x→K x):V3 wz K' sb rb k v v2 o o2 S S2 n n2 w:=by
 obtain⟨X,Y,e,d,b,c⟩:=h.ex;exact⟨⟨X,Y,e,d,fun x a=>⟨(b x a).1,fun q=>(b x a).2.1 (hk x q),(b x a).2.2⟩,fun x a=>⟨(c x a).1,fun q=>(c x a).2 (hk x q)⟩⟩,h.cz,fun x a=>h.kl x (hk x a)⟩
theorem V3.left(h:V3 wz K sb rb k v v2 o o2 S S2 n n2 w): ∃X:n9,UH Kf ST X w sb k v o S n∧(∀x,X x→wz.heap.size≤x)∧ ∀{v':Value}{o':Option Bo}{S':Dk}{n':Nat}{w':d9},IJ Kf ST X w sb k v' o' S' n' w'→V3 wz K sb rb k v' v2 o' o2 S' S2 n' n2 w'∧Ch (fun x=>wz.heap.size≤x∧ ¬K x) w w':=by
 obtain⟨X,Y,i,f,c,g⟩:=h.ex;refine⟨X,i,fun x a=>(c x a).1,fun {v' o' S' n' w'} ⟨X',l,d,j⟩=>?_⟩;have e:=aS d (fun x a=>(⟨(c x a).1,(c x a).2.1⟩:wz.heap.size≤x∧ ¬K x));refine⟨⟨⟨X',Y,l,f.high cI d (fun x b a=>(c x a).2.2 b),fun x a=>?_,g⟩,h.cz.trans e (fun x a=> .inl a.1),fun x a=>Nat.lt_of_lt_of_le (h.kl x a) d.size⟩,e⟩;rcases j x a with q|q
 ·exact c x q
 ·exact⟨Nat.le_trans h.cz.size q,fun b=>by have:=h.kl x b;omega,fun b=>by have:=f.lt cI b;omega⟩
theorem V3.right(h:V3 wz K sb rb k v v2 o o2 S S2 n n2 w): ∃Y:n9,UH Ke RT Y w rb k v2 o2 S2 n2∧(∀x,Y x→wz.heap.size≤x)∧ ∀{v':Value}{o':Option Bo}{S':Dk}{n':Nat}{w':d9},IJ Ke RT Y w rb k v' o' S' n' w'→V3 wz K sb rb k v v' o o' S S' n n' w'∧Ch (fun x=>wz.heap.size≤x∧ ¬K x) w w':=by
 obtain⟨X,Y,g,l,c,d⟩:=h.ex;refine⟨Y,l,fun x a=>(d x a).1,fun {v' o' S' n' w'} ⟨Y',m,e,i⟩=>?_⟩;have f:=aS e d;refine⟨⟨⟨X,Y',g.high cJ e (fun x a b=>(c x a).2.2 b),m,fun x a=>⟨(c x a).1,(c x a).2.1,fun b=>?_⟩,fun x b=>?_⟩,h.cz.trans f (fun x a=> .inl a.1),fun x a=>Nat.lt_of_lt_of_le (h.kl x a) e.size⟩,f⟩
 ·rcases i x b with q|q
  ·exact(c x a).2.2 q
  ·have:=g.lt cJ a;omega
 ·rcases i x b with q|q
  ·exact d x q
  ·exact⟨Nat.le_trans h.cz.size q,fun j=>by have:=h.kl x j;omega⟩
end
end
section
section

variable{k c c':Int}{n:Nat}{P P0:Bo}{m m':Mk}{Ls Ls':List (List Cl)}{S S' S0:Dk}{o o1 o2:Option Bo}

theorem An{k:Int}{S:Dk}{c:Int}{P:Bo}{m:Mk}{Ls:List (List Cl)}(h:uH k S c)(h':iJ k S P m Ls):False:=by
 rcases h with ⟨h,_⟩|⟨_,h,_⟩|⟨_,_,_,h⟩
 ·rw[h'.1]at h;cases h
 ·exact h h'.2.1
 ·exact h _ _ _ h'
theorem Fq(g:Gk k m Ls):Ev k m Ls:=by
 refine⟨fun c e=>?_,Dn g.gd.pok.1 g.lk⟩;have a:=EH g.gd.pok.1 e;unfold oS kY;rw[g.fit c a,g.ne c a];rcases g.bes c a with q|⟨d,b⟩
 ·simp[q]
 ·simp[d,b]
theorem VD(h:Iw P S (D2 m Ls))(g:Gk k m Ls):iJ k S P m Ls:=by
 have a:=Bp h;refine⟨g.kn,?_,?_,h.n8,qD g.gd h,mU g.gd h,Fq g⟩
 ·unfold fR;rw[if_neg (by rw[h.dn];simp),if_neg (by rw[a];simp)]
 ·unfold pT;rw[if_neg (by rw[h.dn];simp)];exact a
theorem Fg(h:S.down=true):fR S=80:=by unfold fR;rw[if_pos h]
theorem LF(h: ∀b∈S.bl,b=[]): ∀j,O1 S j=none:=by
 intro j
 induction j with
 |zero=>rfl
 |succ j a=>
  unfold O1;rw[a]
  have c:M6 (dI S j) (j:Int)=[]:=by
   unfold M6
   split
   ·have d:=(qA S j).bl;rw[d];unfold bk;rw[List.getD_eq_getElem?_getD]
    cases e:S.bl[(j:Int).toNat]? with
    |none=>rfl
    |some b=>exact h b (List.mem_of_getElem? e)
   ·rfl
  rw[c];rfl
theorem DF(h: ∀b∈S.bl,b=[])(hd:S.down=false):fR S=90:=by
 unfold fR;rw[if_neg (by rw[hd];simp),if_pos (LF h 2)]
def Jr(k:Int)(S:Dk)(c:Int)(o:Option Bo):Prop:=(o=none∧uH k S c)∨ ∃P m Ls,o=some P∧c=0∧iJ k S P m Ls
theorem jJ.di(h:jJ k m Ls o S):jJ k m Ls none S:=by
 cases o with
 |none=>exact h
 |some P=>obtain⟨b,a,_⟩:=h;exact .inr (.inl ⟨b,a⟩)
theorem DL{S1:Dk}(h:Jr k S1 c o1)(hk:s9 k=false):o1=none∧c=1:=by
 rcases h with ⟨e,q⟩|⟨P,m,Ls,_,_,q⟩
 ·rcases q with ⟨_,q⟩|⟨q,_⟩|⟨q,_⟩
  ·exact⟨e,q⟩
  ·rw[hk]at q;cases q
  ·rw[hk]at q;cases q
 ·rw[q.1]at hk;cases hk
theorem NW{S1:Dk}(h:Jr k S1 c o1)(hk:s9 k=true)(hi:fR S1≠0):o1=none∧c=fR S1:=by
 rcases h with ⟨e,q⟩|⟨P,m,Ls,_,_,q⟩
 ·rcases q with ⟨q,_⟩|⟨_,_,q⟩|⟨_,q,_⟩
  ·rw[hk]at q;cases q
  ·exact⟨e,q⟩
  ·exact absurd q hi
 ·exact absurd q.2.1 hi
theorem NQ{S1:Dk}(h:Jr k S1 c o1)(hy:iJ k S1 P m Ls):o1=some P∧c=0:=by
 rcases h with ⟨e,q⟩|⟨P',m',Ls',e,a,q⟩
 ·exact(An q hy).elim
 ·exact⟨by rw[e,(Ha q hy).1],a⟩
theorem Bm{S1 S2:Dk}{n1 n2:Nat}(h:jJ k m Ls o S)(r1:F0 n1 S S1)(r2:F0 n2 S S2)(h1:Jr k S1 c o1)(h2:Jr k S2 c' o2):c'=c∧o2=o1∧jJ k m Ls o1 S:=by
 have hd:=h.di
 cases b:s9 k
 ·obtain⟨g,f⟩:=DL h1 b;obtain⟨e,d⟩:=DL h2 b;rw[g,f,e,d];exact⟨rfl,rfl,.inl b⟩
 ·cases a:S.down
  ·rcases hd with q|⟨P,q⟩|q
   ·rw[b]at q;cases q
   ·obtain⟨g,f⟩:=NQ h1 (VD ((q.up a).rdd r1) q.gk);obtain⟨e,d⟩:=NQ h2 (VD ((q.up a).rdd r2) q.gk);rw[g,f,e,d];exact⟨rfl,rfl,P,q,.inl rfl⟩
   ·have j:=DF (S:=S1) (by rw[r1.bl];exact q) (by rw[r1.dn];exact a);have i:=DF (S:=S2) (by rw[r2.bl];exact q) (by rw[r2.dn];exact a);obtain⟨g,f⟩:=NW h1 b (by rw[j];decide);obtain⟨e,d⟩:=NW h2 b (by rw[i];decide);rw[g,f,e,d,j,i];exact⟨rfl,rfl,.inr (.inr q)⟩
  ·have j:=Fg (S:=S1) (by rw[r1.dn];exact a);have i:=Fg (S:=S2) (by rw[r2.dn];exact a);obtain⟨g,f⟩:=NW h1 b (by rw[j];decide);obtain⟨e,d⟩:=NW h2 b (by rw[i];decide);rw[g,f,e,d,j,i];exact⟨rfl,rfl,hd⟩
def fH(m:Nat):Dk:=mR (List.replicate m [])
theorem Lb{m:Nat}(h:16≤m):l7 (fH m) 1 []=0∧l7 (i7 (fH m) 1 []) 0 (k9 1 (R3 7))=0∧i7 (i7 (fH m) 1 []) 0 (k9 1 (R3 7))=M7 (M7 (fH m) 1 []) 0 (k9 1 (R3 7)):=by
 have c:(fH m).bl.length=m:=List.length_replicate;have a:l7 (fH m) ((1:Nat):Int) []=0∧i7 (fH m) ((1:Nat):Int) []=M7 (fH m) 1 []:=lC rfl (by rw[c];omega) (by show¬(-1:Int)=0;decide) (by simp);have b:l7 (M7 (fH m) 1 []) ((0:Nat):Int) (k9 1 (R3 7))=0∧i7 (M7 (fH m) 1 []) ((0:Nat):Int) (k9 1 (R3 7))=M7 (M7 (fH m) 1 []) 0 (k9 1 (R3 7)):=lC rfl (by show 0<((fH m).bl.set 1 []).length;rw[List.length_set,c];omega) (by show¬bB (-1:Int)=0;decide) (by decide);have d:((1:Nat):Int)=1:=rfl;have e:((0:Nat):Int)=0:=rfl;rw[d]at a;rw[e]at b;rw[a.2];exact⟨a.1,b⟩
theorem Dl{m:Nat}(h:16≤m):F7 (fH m) 7=(0,some Fu,M7 (M7 (fH m) 1 []) 0 (k9 1 (R3 7))):=by
 have d:(fH m).bl.length=m:=List.length_replicate;obtain⟨c,b,a⟩:=Lb h;unfold F7;rw[if_neg (by decide),if_neg (by rw[d];omega),if_neg (by rw[c];simp),if_neg (by show¬l7 (i7 (fH m) 1 []) 0 (k9 1 (R3 7))≠0;rw[b];simp)];show(_,_,i7 (i7 (fH m) 1 []) 0 (k9 1 (R3 7)))=_;rw[a];rfl
theorem Le{m:Nat}(h:16≤m)(h64:m≤64):Iw Fu (M7 (M7 (fH m) 1 []) 0 (k9 1 (R3 7))) (List.replicate 7 []):=by
 have c:(fH m).bl.length=m:=List.length_replicate;have b:(M7 (fH m) 1 []).bl.length=m:=by show((fH m).bl.set 1 []).length=m;rw[List.length_set,c]
 have a:(M7 (M7 (fH m) 1 []) 0 (k9 1 (R3 7))).bl.length=m:=by show((M7 (fH m) 1 []).bl.set 0 _).length=m;rw[List.length_set,b]
 refine⟨wV (by omega) (by omega) (by rw[a];show 2+2*7≤m;omega),rfl,rfl,by rw[a];exact h64,rfl,rfl,?_,fun g t d=>?_,fun p f=> .inl ⟨wU 7 p,MG 7 p⟩⟩
 ·show bk ((M7 (fH m) 1 []).bl.set 0 _) 0=_;rw[cF (by rw[b];omega),if_pos rfl];rfl
 ·have e:bk (M7 (M7 (fH m) 1 []) 0 (k9 1 (R3 7))).bl (1-Fu.home)=[]:=by
   show bk (((fH m).bl.set 1 []).set 0 _) 1=[];rw[cF (by rw[List.length_set,c];omega),if_neg (by decide),cF (by rw[c];omega),if_pos rfl]
  rw[e]at d;have:m8 [] (M7 (M7 (fH m) 1 []) 0 (k9 1 (R3 7))).bl.length=none:=rfl;rw[this]at d
  cases d
theorem Nc(k:Int){m:Nat}(h64:m≤64): ∃m2 Ls2,jJ k m2 Ls2 (L8 k (fH m)).2.1 (L8 k (fH m)).2.2∧(L8 k (fH m)).2.2.wr≤100∧(L8 k (fH m)).2.2.rd≤100:=by
 have c: ∀b∈(fH m).bl,b=[]:=fun b g=>List.eq_of_mem_replicate g;unfold L8
 cases d:s9 k
 ·rw[if_pos rfl];exact⟨C1,rV,.inl d,by show(0:Nat)≤100;omega,by show(0:Nat)≤100;omega⟩
 rw[if_neg (by simp)];by_cases h:16≤m
 ·rw[Dl h];have f:=Le h h64;have j:UB 7 [((0:Int),(J1 C1).1)]:=⟨fun p a=>by simp at a;subst a;simp,by simp,fun p a=>by simp at a;subst a;exact kO _⟩;rcases yP f j (by simp) (by decide)with ⟨P,S,e,i,x,w,v,u,t,s,r⟩|⟨S',e,_,_,q,_⟩
  ·simp only[e];rw[if_neg (by simp)];have l:uD [((0:Int),(J1 C1).1)]≤[((0:Int),(J1 C1).1)].length:=List.length_filter_le _ _;simp only[List.length_cons,List.length_nil]at l;have o:(M7 (M7 (fH m) 1 []) 0 (k9 1 (R3 7))).wr=2:=rfl;have n:(M7 (M7 (fH m) 1 []) 0 (k9 1 (R3 7))).rd=0:=rfl;exact⟨C1,rV,⟨P,OY i (Fi d),.inl rfl⟩,by show S.wr≤100;omega,by show S.rd≤100;omega⟩
  ·exact absurd rfl q
 ·have e:F7 (fH m) 7=(92,none,fH m):=by
   unfold F7;rw[if_neg (by decide),if_pos (by show((List.replicate m ([]:f7)).length:Int)<_;rw[List.length_replicate];omega)]
  rw[e];exact⟨C1,rV,.inr (.inr c),by show(0:Nat)≤100;omega,by show(0:Nat)≤100;omega⟩
end
end
section
section

variable{T:TypeId}{Sx:Jp}{X E K:n9}{wz w w':d9}{sb rb n n2 j:Nat}{k b a:Int}{v v2 kv tv:Value}{o o2:Option Bo}{P:Bo}{S S' S2:Dk}{m:Mk}{Ls:List (List Cl)}{ks:f7}{l:List Pr}

theorem UH.mono(h:UH T Sx X w sb k v o S n)(hj:n≤j):UH T Sx X w sb k v o S j:=by
 obtain⟨S',b,a⟩:=h.ex;exact⟨S',b.mono hj,a⟩
theorem UH.stay(hk:Gc T Sx)(h:UH T Sx X w sb k v o S n)(hb:f8 w w')(hj:n≤j):IJ T Sx X w sb k v o S j w':=⟨X,(h.mono hj).high hk (E:=fun _=>False) (Ch.of_below hb) (fun _ _ q=>q),Ch.of_below hb,fun _ q=> .inl q⟩
theorem V3.kvs(h:V3 wz K sb rb k v v2 o o2 S S2 n n2 w)(hk:Kv wz kv ks):Kv w kv ks:=cY hk h.cz (fun q x hx e=>by have:=mS hk q hx;omega)
theorem V3.qvs(h:V3 wz K sb rb k v v2 o o2 S S2 n n2 w)(hq:Qv wz tv l):Qv w tv l:=uY hq h.cz (fun q x hx e=>by have:=NM hq q hx;omega)
theorem jJ.gk(h:jJ k m Ls (some P) S):Gk k m Ls:=by obtain⟨b,a,_⟩:=h;exact a.gk
def gA(wz:d9)(K:n9)(sb rb:Nat)(k:Int)(v v2:Value)(o o2:Option Bo)(S S2:Dk)(n n2:Nat)(w w':d9):Prop:=V3 wz K sb rb k v v2 o o2 S S2 n n2 w'∧Ch (fun x=>wz.heap.size≤x∧ ¬K x) w w'
theorem UW(h:V3 wz K sb rb k v v2 o o2 S S2 n n2 w)(hn:jJ k m Ls o S)(hb:S.rd+n<1000000000∧S.wr<1000000000)(hk:Kv wz kv ks)(hok:B9 ks)(b a:Int):
  Calls Tryz.prog 25 #[v,.int .i64 b,.int .i64 a,kv] w fun e w'=>e= .returned (.int .i64 (nW (M0 m b a ks) (dF Ls m b a ks) o S).1)∧
   gA wz K sb rb k v v2 (nW (M0 m b a ks) (dF Ls m b a ks) o S).2.1 o2 (nW (M0 m b a ks) (dF Ls m b a ks) o S).2.2 S2 (n+8) n2 w w':=by
 have f:=h.kvs hk;obtain⟨X,g,r,i⟩:=h.left;obtain⟨S',c,d⟩:=id g.ex
 cases o with
 |none=>
  obtain⟨rfl,hd⟩:=d;refine(JC w b a kv).mono ?_;rintro e w' ⟨rfl,hb⟩;exact⟨rfl,i (g.stay cJ hb (by omega))⟩
 |some P=>
  obtain⟨A,sp,rfl,s,j⟩:=d;refine(QQ s (fun q=>(hn.rd c q).1) (fun q=>(hn.rd c q).2.1) (by have:=c.rd;omega) (by rw[c.wr];exact hb.2) f hok (fun q x l e=>?_) b a).mono ?_
  ·have z:=mS hk q l;have y:=r x ((j x).2 (.inl e));omega
  ·intro e w' p;obtain⟨u,t⟩:=PG p c j;exact⟨u,i t⟩
theorem QD(h:V3 wz K sb rb k v v2 o o2 S S2 n n2 w)(hn:jJ k m Ls o2 S2)(hb:S2.rd+n2<1000000000∧S2.wr<1000000000)(hk:Kv wz kv ks)(hok:B9 ks)(hb63:b≤9223372036854775807)(a:Int):
  Calls Tryz.prog 50 #[v2,.int .i64 b,.int .i64 a,kv] w fun e w'=>e= .returned (.int .i64 (nW (M0 m b a ks) (dF Ls m b a ks) o2 S2).1)∧
   gA wz K sb rb k v v2 o (nW (M0 m b a ks) (dF Ls m b a ks) o2 S2).2.1 S (nW (M0 m b a ks) (dF Ls m b a ks) o2 S2).2.2 n (n2+8) w w':=by
 have f:=h.kvs hk;obtain⟨X,g,r,i⟩:=h.right;obtain⟨S',c,d⟩:=id g.ex
 cases o2 with
 |none=>
  obtain⟨rfl,hd⟩:=d;refine(KF b a).mono ?_;rintro e w' ⟨rfl,rfl⟩;exact⟨rfl,i (g.stay cI (Below.refl _ _) (by omega))⟩
 |some P=>
  obtain⟨A,sp,rfl,s,j⟩:=d;refine(RP s (fun q=>(hn.rd c q).1) (fun q=>(hn.rd c q).2.1) hn.gk (by have:=c.rd;omega) (by rw[c.wr];exact hb.2) f hok (fun q x l e=>?_) hb63 (fun q=>⟨_,(ZI hn.gk q hok).gd⟩)).mono ?_
  ·have z:=mS hk q l;have y:=r x ((j x).2 (.inl e));omega
  ·intro e w' p;obtain⟨u,t⟩:=PG p c j;exact⟨u,i t⟩
theorem UX(h:V3 wz K sb rb k v v2 o o2 S S2 n n2 w)(hn:jJ k m Ls o S)(hb:S.rd+n<1000000000∧S.wr<1000000000)(hq:Qv wz tv l)(b a:Int):
  Calls Tryz.prog 26 #[v,.int .i64 b,.int .i64 a,tv] w fun e w'=>e= .returned (.int .i64 (nW (eK m k b a Ls l) (qH k b Ls l) o S).1)∧
   gA wz K sb rb k v v2 (nW (eK m k b a Ls l) (qH k b Ls l) o S).2.1 o2 (nW (eK m k b a Ls l) (qH k b Ls l) o S).2.2 S2 (n+8) n2 w w':=by
 have f:=h.qvs hq;obtain⟨X,g,s,i⟩:=h.left;obtain⟨S',c,d⟩:=id g.ex
 cases o with
 |none=>
  obtain⟨rfl,hd⟩:=d;refine(JD w b a tv).mono ?_;rintro e w' ⟨rfl,hb⟩;exact⟨rfl,i (g.stay cJ hb (by omega))⟩
 |some P=>
  obtain⟨A,sp,rfl,t,j⟩:=d;refine(QR t (fun q=>(hn.rd c q).1) (fun q=>(hn.rd c q).2.1) (by have:=c.rd;omega) (by rw[c.wr];exact hb.2) f (fun q x p e=>?_) b a).mono ?_
  ·have B:=NM hq q p;have z:=s x ((j x).2 (.inl e));omega
  ·intro e w' r;obtain⟨y,u⟩:=PG r c j;exact⟨y,i u⟩
theorem QE(h:V3 wz K sb rb k v v2 o o2 S S2 n n2 w)(hn:jJ k m Ls o2 S2)(hb:S2.rd+n2<1000000000∧S2.wr<1000000000)(hq:Qv wz tv l)(b a:Int):
  Calls Tryz.prog 51 #[v2,.int .i64 b,.int .i64 a,tv] w fun e w'=>e= .returned (.int .i64 (nW (eK m k b a Ls l) (qH k b Ls l) o2 S2).1)∧
   gA wz K sb rb k v v2 o (nW (eK m k b a Ls l) (qH k b Ls l) o2 S2).2.1 S (nW (eK m k b a Ls l) (qH k b Ls l) o2 S2).2.2 n (n2+8) w w':=by
 have f:=h.qvs hq;obtain⟨X,g,s,i⟩:=h.right;obtain⟨S',c,d⟩:=id g.ex
 cases o2 with
 |none=>
  obtain⟨rfl,hd⟩:=d;refine(VN b a).mono ?_;rintro e w' ⟨rfl,rfl⟩;exact⟨rfl,i (g.stay cI (Below.refl _ _) (by omega))⟩
 |some P=>
  obtain⟨A,sp,rfl,t,j⟩:=d;refine(RR t (fun q=>(hn.rd c q).1) (fun q=>(hn.rd c q).2.1) hn.gk (by have:=c.rd;omega) (by rw[c.wr];exact hb.2) f (fun q x p e=>?_) b a).mono ?_
  ·have B:=NM hq q p;have z:=s x ((j x).2 (.inl e));omega
  ·intro e w' r;obtain⟨y,u⟩:=PG r c j;exact⟨y,i u⟩
def AJ(Ls:List (List Cl))(key:Nat)(q:Int)(o:Option Bo)(S:Dk):Vl × Int × Option Bo:=
 match o with
 |none=>(K0,2,none)
 |some P=>if i6 P S=true then(K0,80,some (J6 P))else(G7 Ls key q,0,some P)
theorem US(h:V3 wz K sb rb k v v2 o o2 S S2 n n2 w)(hn:jJ k m Ls o S)(hb:S.rd+n<1000000000)(key:Nat)(q:Int):
  Calls Tryz.prog 28 #[v,.int .u64 key,.int .i64 q] w fun e w'=>e= .returned (.tuple #[.agg #[.bool (AJ Ls key q o S).1.h,.int .u64 (AJ Ls key q o S).1.b],.int .i64 (AJ Ls key q o S).2.1])∧
   gA wz K sb rb k v v2 (AJ Ls key q o S).2.2 o2 S S2 (n+8) n2 w w':=by
 obtain⟨X,s,C,l⟩:=h.left;obtain⟨S',f,i⟩:=id s.ex
 cases o with
 |none=>
  obtain⟨rfl,hd⟩:=i;refine(IZ w key q).mono ?_;rintro e w' ⟨rfl,hb⟩;exact⟨rfl,l (s.stay cJ hb (by omega))⟩
 |some P=>
  obtain⟨A,sp,rfl,B,p⟩:=i;have g:=C3 (P:=P) f;refine(rN B (Ls:=Ls) (fun q=>(hn.rd f q).2.1) (by have:=f.rd;omega) key q).mono ?_;rintro e w' ⟨c,V,u,rfl,z,d,j,r⟩;have t:=aS r (fun x y=>(p x).2 (.inl y));unfold AJ;rcases z with ⟨a,rfl,rfl⟩|⟨a,rfl,rfl⟩
  ·unfold fW at d;rw[if_pos a]at d;rw[g]at a;simp only[a,if_true];exact⟨rfl,l ⟨X,⟨u,(f.trans j).mono (by omega),A,sp,rfl,d,p⟩,t,fun _ q=> .inl q⟩⟩
  ·rw[F5 a]at d;rw[g]at a;simp only[a,Bool.false_eq_true,if_false];exact⟨rfl,l ⟨X,⟨u,(f.trans j).mono (by omega),A,sp,rfl,d,p⟩,t,fun _ q=> .inl q⟩⟩
theorem QA(h:V3 wz K sb rb k v v2 o o2 S S2 n n2 w)(hn:jJ k m Ls o2 S2)(hb:S2.rd+n2<1000000000)(key:Nat)(q:Int):
  Calls Tryz.prog 52 #[v2,.int .u64 key,.int .i64 q] w fun e w'=>e= .returned (.tuple #[.agg #[.bool (AJ Ls key q o2 S2).1.h,.int .u64 (AJ Ls key q o2 S2).1.b],.int .i64 (AJ Ls key q o2 S2).2.1])∧
   gA wz K sb rb k v v2 o (AJ Ls key q o2 S2).2.2 S S2 n (n2+8) w w':=by
 obtain⟨X,r,y,l⟩:=h.right;obtain⟨S',f,g⟩:=id r.ex
 cases o2 with
 |none=>
  obtain⟨rfl,hd⟩:=g;refine(JK w key q).mono ?_;rintro e w' ⟨rfl,hb⟩;exact⟨rfl,l (r.stay cI hb (by omega))⟩
 |some P=>
  obtain⟨A,sp,rfl,s,i⟩:=g;have c:=C3 (P:=P) f;unfold AJ
  cases hsh:i6 P S'
  ·have t:=(hn.rd f hsh).2.1;rw[c]at hsh;simp only[hsh,Bool.false_eq_true,if_false];refine(QX s (by rw[c];exact hsh) (by have:=f.rd;omega) key q).mono ?_;unfold PO;rw[WA t];rintro e w' ⟨u,rfl,a,p,d⟩;exact⟨rfl,l ⟨X,⟨u,(f.trans p).mono (by omega),A,sp,rfl,a,i⟩,aS d (fun x j=>(i x).2 (.inl j)),fun _ q=> .inl q⟩⟩
  ·refine(BO s hsh key q).mono ?_;rw[c]at hsh;simp only[hsh,if_true];rintro e w' ⟨rfl,a,d⟩;exact⟨rfl,l ⟨X,⟨S',f.mono (by omega),A,sp,rfl,a,i⟩,aS d (fun x j=>(i x).2 (.inl j)),fun _ q=> .inl q⟩⟩
theorem Mw(h:jJ k m Ls o S)(key:Nat)(q:Int):jJ k m Ls (AJ Ls key q o S).2.2 S:=by
 unfold AJ
 cases o with
 |none=>exact h
 |some P=>
  simp only
  split
  ·exact h.over
  ·exact h
def usF(o:Option Bo):Int:=match o with|none=>0|some P=>Z9 P.tab
def enF(o:Option Bo):Bool:=match o with|none=>false|some P=>P.over
theorem MY(h:V3 wz K sb rb k v v2 o o2 S S2 n n2 w):Calls Tryz.prog 33 #[v] w fun e w'=>e= .returned (.int .i64 (usF o))∧w'=w:=by
 obtain⟨X,b,_,_⟩:=h.left;obtain⟨S',d,a⟩:=id b.ex
 cases o with
 |none=>obtain⟨rfl,_⟩:=a;exact uO w
 |some P=>obtain⟨A,sp,rfl,c,_⟩:=a;exact jV c
theorem AQ(h:V3 wz K sb rb k v v2 o o2 S S2 n n2 w):Calls Tryz.prog 53 #[v2] w fun e w'=>e= .returned (.int .i64 (usF o2))∧w'=w:=by
 obtain⟨X,b,_,_⟩:=h.right;obtain⟨S',d,a⟩:=id b.ex
 cases o2 with
 |none=>obtain⟨rfl,_⟩:=a;exact rF w
 |some P=>obtain⟨A,sp,rfl,c,_⟩:=a;exact oY c
theorem AS(h:V3 wz K sb rb k v v2 o o2 S S2 n n2 w):Calls Tryz.prog 34 #[v] w fun e w'=>e= .returned (.bool (enF o))∧w'=w:=by
 obtain⟨X,b,_,_⟩:=h.left;obtain⟨S',d,a⟩:=id b.ex
 cases o with
 |none=>obtain⟨rfl,_⟩:=a;exact rE w
 |some P=>obtain⟨A,sp,rfl,c,_⟩:=a;exact gJ c
theorem uM(h:V3 wz K sb rb k v v2 o o2 S S2 n n2 w):Calls Tryz.prog 54 #[v2] w fun e w'=>e= .returned (.bool (enF o2))∧w'=w:=by
 obtain⟨X,b,_,_⟩:=h.right;obtain⟨S',d,a⟩:=id b.ex
 cases o2 with
 |none=>obtain⟨rfl,_⟩:=a;exact oZ w
 |some P=>obtain⟨A,sp,rfl,c,_⟩:=a;exact lR c
theorem NK(h:F0 n S S'):F0 n (mG S) (mG S'):=by obtain⟨r,rfl,b,a⟩:=h;exact⟨r,rfl,b,a⟩
theorem WC(h:F0 n S S'):F0 n (WZ S) (WZ S'):=by obtain⟨r,rfl,b,a⟩:=h;exact⟨r,rfl,b,a⟩
theorem NL(h:F0 n S S')(c:Int):F0 n (jI S c) (jI S' c):=by obtain⟨r,rfl,b,a⟩:=h;exact⟨r,rfl,b,a⟩
theorem Gn(h:V3 wz K sb rb k v v2 o o2 S S2 n n2 w):Calls Tryz.prog 12 #[lB sb] w fun e w'=>e= .returned (.tuple #[])∧gA wz K sb rb k v v2 o o2 (mG S) S2 n n2 w w':=by
 obtain⟨X,a,_,c⟩:=h.left;obtain⟨D,i,hd,b,d⟩:=a.disk cJ;refine(DG hd).mono ?_;rintro e w' ⟨rfl,g,f⟩;exact⟨rfl,c (d _ _ _ g f rfl (NK b))⟩
theorem Kh(h:V3 wz K sb rb k v v2 o o2 S S2 n n2 w):Calls Tryz.prog 14 #[lB sb] w fun e w'=>e= .returned (.tuple #[])∧gA wz K sb rb k v v2 o o2 (WZ S) S2 n n2 w w':=by
 obtain⟨X,a,_,c⟩:=h.left;obtain⟨D,i,hd,b,d⟩:=a.disk cJ;refine(Cb hd).mono ?_;rintro e w' ⟨rfl,g,f⟩;exact⟨rfl,c (d _ _ _ g f rfl (WC b))⟩
theorem Gp(h:V3 wz K sb rb k v v2 o o2 S S2 n n2 w){c:Int}(hc:c<9223372036854775808):Calls Tryz.prog 10 #[lB sb,.int .i64 c] w fun e w'=>e= .returned (.tuple #[])∧gA wz K sb rb k v v2 o o2 (jI S c) S2 n n2 w w':=by
 obtain⟨X,a,_,d⟩:=h.left;obtain⟨D,j,hd,b,f⟩:=a.disk cJ;refine(YT hd hc).mono ?_;rintro e w' ⟨rfl,i,g⟩;exact⟨rfl,d (f _ _ _ i g rfl (NL b c))⟩
theorem Ag(h:V3 wz K sb rb k v v2 o o2 S S2 n n2 w):Calls Tryz.prog 13 #[lB rb] w fun e w'=>e= .returned (.tuple #[])∧gA wz K sb rb k v v2 o o2 S (mG S2) n n2 w w':=by
 obtain⟨X,a,_,c⟩:=h.right;obtain⟨D,i,hd,b,d⟩:=a.disk cI;refine(uU hd).mono ?_;rintro e w' ⟨rfl,g,f⟩;exact⟨rfl,c (d _ _ _ g f rfl (NK b))⟩
theorem Gm(h:V3 wz K sb rb k v v2 o o2 S S2 n n2 w):Calls Tryz.prog 15 #[lB rb] w fun e w'=>e= .returned (.tuple #[])∧gA wz K sb rb k v v2 o o2 S (WZ S2) n n2 w w':=by
 obtain⟨X,a,_,c⟩:=h.right;obtain⟨D,i,hd,b,d⟩:=a.disk cI;refine(VT hd).mono ?_;rintro e w' ⟨rfl,g,f⟩;exact⟨rfl,c (d _ _ _ g f rfl (WC b))⟩
theorem Ah(h:V3 wz K sb rb k v v2 o o2 S S2 n n2 w){c:Int}(hc:c<9223372036854775808):Calls Tryz.prog 11 #[lB rb,.int .i64 c] w fun e w'=>e= .returned (.tuple #[])∧gA wz K sb rb k v v2 o o2 S (jI S2 c) n n2 w w':=by
 obtain⟨X,a,_,d⟩:=h.right;obtain⟨D,j,hd,b,f⟩:=a.disk cI;refine(RN hd hc).mono ?_;rintro e w' ⟨rfl,i,g⟩;exact⟨rfl,d (f _ _ _ i g rfl (NL b c))⟩
theorem PZ(h:V3 wz K sb rb k v v2 o o2 S S2 n n2 w):Calls Tryz.prog 18 #[lB sb] w fun e w'=>e= .returned (.int .i64 S.wr)∧w'=w:=by
 obtain⟨X,a,_,_⟩:=h.left;obtain⟨D,c,hd,b,_⟩:=a.disk (n':=0) cJ;rw[←b.wr];exact AL hd
theorem IT(h:V3 wz K sb rb k v v2 o o2 S S2 n n2 w):Calls Tryz.prog 19 #[lB rb] w fun e w'=>e= .returned (.int .i64 S2.wr)∧w'=w:=by
 obtain⟨X,a,_,_⟩:=h.right;obtain⟨D,c,hd,b,_⟩:=a.disk (n':=0) cI;rw[←b.wr];exact xO hd
theorem UV(h:V3 wz K sb rb k v v2 o o2 S S2 n n2 w):Calls Tryz.prog 21 #[lB sb] w fun e w'=> ∃ao c,e= .returned (.slice ao S.bl.length c)∧PS w' (.slice ao S.bl.length c) S.bl∧f8 w w':=by
 obtain⟨X,d,_,_⟩:=h.left;obtain⟨D,j,hd,f,_⟩:=d.disk (n':=0) cJ;refine(LD hd).mono ?_;rintro e w' ⟨g,c,rfl,a,_,i⟩;have b:=a.pv hd.good.byt;rw[f.bl]at b⊢;exact⟨_,c,rfl,b,i⟩
theorem QC(h:V3 wz K sb rb k v v2 o o2 S S2 n n2 w):Calls Tryz.prog 22 #[lB rb] w fun e w'=> ∃ao c,e= .returned (.slice ao S2.bl.length c)∧PS w' (.slice ao S2.bl.length c) S2.bl∧f8 w w':=by
 obtain⟨X,d,_,_⟩:=h.right;obtain⟨D,j,hd,f,_⟩:=d.disk (n':=0) cI;refine(CC hd).mono ?_;rintro e w' ⟨g,c,rfl,a,_,i⟩;have b:=a.pv hd.good.byt;rw[f.bl]at b⊢;exact⟨_,c,rfl,b,i⟩
theorem Aj(h:V3 wz K sb rb k v v2 o o2 S S2 n n2 w)(hb:S.rd+n<1000000000):Calls Tryz.prog 6 #[lB sb,.int .i64 k] w fun e w'=> ∃c v' o' S1,e= .returned (.tuple #[v',.int .i64 c])∧F0 n S S1∧Jr k S1 c o'∧gA wz K sb rb k v' v2 o' o2 S S2 (n+9) n2 w w':=by
 obtain⟨X,y,_,s⟩:=h.left
 obtain⟨D,S1,hd,a,i,_⟩: ∃D S1,I9 Kf D w (lB sb) S1∧F0 n S S1∧(∀x,D x→X x)∧True:=by
  obtain⟨S1,a,d⟩:=id y.ex
  cases o with
  |none=>exact⟨X,S1,d.2,a,fun _ q=>q,trivial⟩
  |some P=>
   obtain⟨A,sp,rfl,C,B⟩:=d;obtain⟨D,F,E,_⟩:=cJ.disk C;exact⟨D,S1,F,a,fun x b=>(B x).2 (.inl (E x b)),trivial⟩
 refine(QO hd (by have:=a.rd;omega) k).mono ?_;rintro e w' ⟨t,f,z,hcase⟩;have g:=aS z i;rcases hcase with ⟨c,D',rfl,p,r,b⟩|⟨A',sp,P,m,Ls,rfl,u,l,j,b⟩
 ·exact⟨c,_,none,S1,rfl,a,.inl ⟨rfl,p⟩,s ⟨D',⟨t,a.trans f,rfl,r⟩,g,fun x q=>(b x q).imp (i x) id⟩⟩
 ·refine⟨0,_,some P,S1,rfl,a,.inr ⟨P,m,Ls,rfl,rfl,u⟩,s ⟨fun x=>A' x∨x=sp,⟨t,a.trans f,A',sp,rfl,j,fun _=>Iff.rfl⟩,g,fun x q=>?_⟩⟩;rcases q with q|rfl
  ·exact(b x q).imp (i x) id
  ·exact .inr l
theorem UR(h:V3 wz K sb rb k v v2 o o2 S S2 n n2 w)(hb:S2.rd+n2<1000000000):Calls Tryz.prog 16 #[lB rb,.int .i64 k] w fun e w'=> ∃c v' o' S1,e= .returned (.tuple #[v',.int .i64 c])∧F0 n2 S2 S1∧Jr k S1 c o'∧gA wz K sb rb k v v' o o' S S2 n (n2+9) w w':=by
 obtain⟨X,y,_,s⟩:=h.right
 obtain⟨D,S1,hd,a,i,_⟩: ∃D S1,I9 Ke D w (lB rb) S1∧F0 n2 S2 S1∧(∀x,D x→X x)∧True:=by
  obtain⟨S1,a,d⟩:=id y.ex
  cases o2 with
  |none=>exact⟨X,S1,d.2,a,fun _ q=>q,trivial⟩
  |some P=>
   obtain⟨A,sp,rfl,C,B⟩:=d;obtain⟨D,F,E,_⟩:=cI.disk C;exact⟨D,S1,F,a,fun x b=>(B x).2 (.inl (E x b)),trivial⟩
 refine(JI hd (by have:=a.rd;omega) k).mono ?_;rintro e w' ⟨t,f,z,hcase⟩;have g:=aS z i;rcases hcase with ⟨c,D',rfl,p,r,b⟩|⟨A',sp,P,m,Ls,rfl,u,l,j,b⟩
 ·exact⟨c,_,none,S1,rfl,a,.inl ⟨rfl,p⟩,s ⟨D',⟨t,a.trans f,rfl,r⟩,g,fun x q=>(b x q).imp (i x) id⟩⟩
 ·refine⟨0,_,some P,S1,rfl,a,.inr ⟨P,m,Ls,rfl,rfl,u⟩,s ⟨fun x=>A' x∨x=sp,⟨t,a.trans f,A',sp,rfl,j,fun _=>Iff.rfl⟩,g,fun x q=>?_⟩⟩;rcases q with q|rfl
  ·exact(b x q).imp (i x) id
  ·exact .inr l
theorem QF(h:V3 wz K sb rb k (.pointer none) v2 none o2 S S2 0 n2 w)(hS: ∀S',F0 0 S S'→S'=S)(hwr:S.wr<1000):Calls Tryz.prog 5 #[lB sb,.int .i64 k] w fun e w'=> ∃v',e= .returned (.tuple #[v',.int .i64 (L8 k S).1])∧gA wz K sb rb k v' v2 (L8 k S).2.1 o2 (L8 k S).2.2 S2 0 n2 w w':=by
 obtain⟨X,i,_,l⟩:=h.left;obtain⟨o,j,_,hd⟩:=id i.ex;obtain rfl:=hS _ j;refine(lP hd k (by omega)).mono ?_;rintro e w' ⟨v',rfl,n,m,g⟩;refine⟨v',rfl,l ?_⟩
 cases f:(L8 k o).2.1 with
 |none=>
  obtain⟨rfl,D',d,a⟩:=n f;exact⟨D',⟨_,F0.refl _,rfl,d⟩,g,a⟩
 |some P=>
  obtain⟨A',sp,rfl,c,b,a⟩:=m P f;refine⟨fun x=>A' x∨x=sp,⟨_,F0.refl _,A',sp,rfl,b,fun _=>Iff.rfl⟩,g,fun x q=>?_⟩;rcases q with q|rfl
  ·exact a x q
  ·exact .inr c
theorem IU(h:V3 wz K sb rb k v (.pointer none) o none S S2 n 0 w)(hS: ∀S',F0 0 S2 S'→S'=S2)(hwr:S2.wr<1000):Calls Tryz.prog 9 #[lB rb,.int .i64 k] w fun e w'=> ∃v',e= .returned (.tuple #[v',.int .i64 (L8 k S2).1])∧gA wz K sb rb k v v' o (L8 k S2).2.1 S (L8 k S2).2.2 n 0 w w':=by
 obtain⟨X,i,_,l⟩:=h.right;obtain⟨r,j,_,hd⟩:=id i.ex;obtain rfl:=hS _ j;refine(tU hd k (by omega)).mono ?_;rintro e w' ⟨v',rfl,p,m,g⟩;refine⟨v',rfl,l ?_⟩
 cases f:(L8 k r).2.1 with
 |none=>
  obtain⟨rfl,D',d,a⟩:=p f;exact⟨D',⟨_,F0.refl _,rfl,d⟩,g,a⟩
 |some P=>
  obtain⟨A',sp,rfl,c,b,a⟩:=m P f;refine⟨fun x=>A' x∨x=sp,⟨_,F0.refl _,A',sp,rfl,b,fun _=>Iff.rfl⟩,g,fun x q=>?_⟩;rcases q with q|rfl
  ·exact a x q
  ·exact .inr c
end
end
end Go.Proofs.YtfhoilcbhmeofaaGreat
