/- StoreExact: the walk. -/
import Derived.Test.YtfhoilcbhmeofaaGreatB29
import Derived.Deep.CutRange
set_option maxRecDepth 100000
set_option maxHeartbeats 16000000
namespace Go.Proofs.YtfhoilcbhmeofaaGreat
open Go.RowKit
section
theorem N8{p:Prop}(h:p):c6 p:=h
section

variable{X E K:n9}{wz w w':d9}{sb rb n n2 j:Nat}{k b a:Int}{v v2 kv tv:Value}{o o2:Option Bo}{P:Bo}{S S' S2:Dk}{m:Mk}{Ls:List (List Cl)}{ks:f7}{l:List Pr}

theorem IV(h:V3 wz K sb rb k v v2 (some P) o2 S S2 n n2 w)(hs:i6 P S=true)(hb:S.rd+n<1000000000):Calls Tryz.prog 29 #[v] w fun e w'=> ∃ka kn kc,e= .returned (.tuple #[.agg #[.int .i64 0,.int .i64 0,.slice ka kn kc],.int .i64 80])∧Kv w' (.slice ka kn kc) []∧gA wz K sb rb k v v2 (some (J6 P)) o2 S S2 (n+1) n2 w w':=by
 obtain⟨X,hd,B,s⟩:=h.left;obtain⟨S',f,A,sp,rfl,u,l⟩:=id hd.ex;have a:=C3 (P:=P) f;rw[hs]at a;refine(X6 u (by have:=f.rd;omega)).mono ?_;rintro e w' ⟨c,m',ov,z,rfl,j,hcase,b,g,i⟩
 have t:c=80∧m'=C1:=by
  rcases hcase with ⟨o,_,m⟩|⟨_,d,_⟩|⟨_,d,_⟩
  ·exact⟨o,m⟩
  ·rw[a]at d;cases d
  ·rw[a]at d;cases d
 obtain⟨rfl,rfl⟩:=t;unfold fW at b;rw[if_pos a]at b;obtain⟨ka,kc,y⟩:=y9 j;have r:=z9 j;subst y;exact⟨_,_,_,rfl,r,s ⟨X,⟨z,f.trans g,A,sp,rfl,b,l⟩,aS i (fun x p=>(l x).2 (.inl p)),fun _ q=> .inl q⟩⟩
theorem AR(h:V3 wz K sb rb k v v2 o (some P) S S2 n n2 w)(hs:i6 P S2=true):Calls Tryz.prog 57 #[v2] w fun e w'=>e= .returned (.tuple #[.agg #[.int .i64 0,.int .i64 0,.slice none 0 0],.int .i64 80])∧gA wz K sb rb k v v2 o (some (J6 P)) S S2 n n2 w w':=by
 obtain⟨X,hd,j,g⟩:=h.right;obtain⟨S',c,A,sp,rfl,i,d⟩:=id hd.ex;refine(JU i (by rw[C3 c];exact hs)).mono ?_;rintro e w' ⟨rfl,a,b⟩;exact⟨rfl,g ⟨X,⟨S',c,A,sp,rfl,a,d⟩,aS b (fun x f=>(d x).2 (.inl f)),fun _ q=> .inl q⟩⟩
theorem AT(h:V3 wz K sb rb k v v2 (some P) o2 S S2 n n2 w)(hs:i6 P S=true)(hb:S.rd+n<1000000000):Calls Tryz.prog 30 #[v] w fun e w'=>e= .returned (.tuple #[.slice none 0 0,.int .i64 80])∧gA wz K sb rb k v v2 (some (J6 P)) o2 S S2 (n+6) n2 w w':=by
 obtain⟨X,hd,p,l⟩:=h.left;obtain⟨S',c,A,sp,rfl,m,g⟩:=id hd.ex;have a:=C3 (P:=P) c;rw[hs]at a;refine(gK m (Ls:=[]) (fun q=>by rw[a]at q;cases q) (fun i _=>by simp[B3]) (by have:=c.rd;omega)).mono ?_;rintro e w' ⟨o,b,d,f,hcase⟩;unfold fW at b;rw[if_pos a]at b;rcases hcase with ⟨_,rfl⟩|⟨q,_⟩
 ·exact⟨rfl,l ⟨X,⟨o,c.trans d,A,sp,rfl,b,g⟩,aS f (fun x j=>(g x).2 (.inl j)),fun _ q=> .inl q⟩⟩
 ·rw[a]at q;cases q
theorem xC(h:V3 wz K sb rb k v v2 o (some P) S S2 n n2 w)(hs:i6 P S2=true):Calls Tryz.prog 58 #[v2] w fun e w'=>e= .returned (.tuple #[.slice none 0 0,.int .i64 80])∧gA wz K sb rb k v v2 o (some (J6 P)) S S2 n n2 w w':=by
 obtain⟨X,hd,j,g⟩:=h.right;obtain⟨S',c,A,sp,rfl,i,d⟩:=id hd.ex;refine(CO i (by rw[C3 c];exact hs)).mono ?_;rintro e w' ⟨rfl,a,b⟩;exact⟨rfl,g ⟨X,⟨S',c,A,sp,rfl,a,d⟩,aS b (fun x f=>(d x).2 (.inl f)),fun _ q=> .inl q⟩⟩
theorem V3.ptrA(h:V3 wz K sb rb k v v2 (some P) o2 S S2 n n2 w): ∃sp,v=lB sp:=by
 obtain⟨X,hd,_,_⟩:=h.left;obtain⟨S',_,A,sp,e,_⟩:=id hd.ex;exact⟨sp,e⟩
theorem V3.ptrB(h:V3 wz K sb rb k v v2 o (some P) S S2 n n2 w): ∃sp,v2=lB sp:=by
 obtain⟨X,hd,_,_⟩:=h.right;obtain⟨S',_,A,sp,e,_⟩:=id hd.ex;exact⟨sp,e⟩
theorem V3.nilA(h:V3 wz K sb rb k v v2 none o2 S S2 n n2 w):v= .pointer none:=by
 obtain⟨X,hd,_,_⟩:=h.left;obtain⟨S',_,e,_⟩:=id hd.ex;exact e
theorem V3.nilB(h:V3 wz K sb rb k v v2 o none S S2 n n2 w):v2= .pointer none:=by
 obtain⟨X,hd,_,_⟩:=h.right;obtain⟨S',_,e,_⟩:=id hd.ex;exact e
theorem V3.lay(h:V3 wz K sb rb k v v2 o o2 S S2 n n2 w)(ob:Obj): ∃KK:n9,V3 wz KK sb rb k v v2 o o2 S S2 n n2 (w.alloc ob)∧KK w.heap.size∧ ∀x,K x→KK x:=
 ⟨_,h.more (a8 w ob),.inr ⟨Nat.le_refl _,by rw[g8];omega⟩,fun _ hx=> .inl hx⟩
theorem Cx{v:Value}(h:Kv w v []):Kv w' v []:=by
 obtain⟨g,a,e,f,d,c,_⟩:=h;exact⟨g,a,e,f,d,c,fun i b=>absurd b (by simp[ib])⟩
theorem QI(h:V3 wz K sb rb k v v2 (some P) (some P) S S n n2 w)(hs:i6 P S=true)(hb:S.rd+n+1<1000000000):Calls Tryz.prog 23 #[v,v2] w fun e w'=>e= .returned (.bool true)∧gA wz K sb rb k v v2 (some (J6 P)) (some (J6 P)) S S (n+7) n2 w w':=by
 obtain⟨sp,rfl⟩:=h.ptrA;obtain⟨tp,rfl⟩:=h.ptrB;have HT:=N8 h;have HS:=N8 hs;have I:c6 (i6 (J6 P) S=true):=rfl;have HB:=N8 hb;clear h hs hb;go_in;go_wp2_with fail;refine(IV HT.o HS.o (by have:=HB.o;omega)).mono ?_;rintro e O ⟨s,p,r,rfl,D,A,G⟩;have l:=N8 (G.self (Ch.of_below (a8 O (Obj.cells #[.int .i64 0,.int .i64 0,.slice s p r] 62))));obtain⟨KK,t,B,C⟩:=A.lay (Obj.cells #[.int .i64 0,.int .i64 0,.slice s p r] 62);have i:=N8 t;have J:=N8 B;have M:=N8 C;have b:=b9 (A9 O 0 0 (.slice s p r));have U:=N8 D;clear t B C D A G;go_upto_region 2 with fail
 generalize O.heap.size=T5 at b J⊢;generalize O.alloc (Obj.cells #[.int .i64 0,.int .i64 0,.slice s p r] 62)=w2 at l i b⊢;go_wp2_with fail;refine(AR i.o HS.o).mono ?_;rintro e m ⟨rfl,z,c⟩;have N:=N8 ((l.o.trans c (fun x hx=> .inl ⟨hx.1,fun q=>hx.2 (M.o x q)⟩)).self (Ch.of_below (a8 m (Obj.cells #[.int .i64 0,.int .i64 0,.slice none 0 0] 62))));have H:=N8 (z.below (a8 m (Obj.cells #[.int .i64 0,.int .i64 0,.slice none 0 0] 62)));have j:=b9 (A9 m 0 0 (.slice none 0 0));have L:c6 (MB (m.alloc (Obj.cells #[.int .i64 0,.int .i64 0,.slice none 0 0] 62)) T5 0 0 (.slice s p r)):=(b.o.ch c (fun q=>q.2 J.o)).keep (a8 _ _);clear z c l i b;go_upto_region 3 with fail
 generalize m.heap.size=T7 at j⊢;generalize m.alloc (Obj.cells #[.int .i64 0,.int .i64 0,.slice none 0 0] 62)=w4 at N H j L⊢;obtain⟨a0,a1,a2,_⟩:=L.o;obtain⟨b0,b1,b2,_⟩:=j.o;go_wp2_with fail;refine(fC (ks:=[]) (Cx U.o) (Sv.nil _ _) 0 0).mono ?_;rintro e w5 ⟨rfl,g⟩;have T:=N8 ((H.o.below g).less M.o);have Z:=N8 (N.o.self (Ch.of_below g));clear g a0 a1 a2 b0 b1 b2;go_wp2_with fail;refine(AT T.o I.o (by have:=HB.o;omega)).mono ?_;rintro e w6 ⟨rfl,y,F⟩;have R:=N8 y;have Y:=N8 (Z.o.self F);clear y F;go_wp2_with fail;refine(xC R.o I.o).mono ?_;rintro e w7 ⟨rfl,u,E⟩;have Q:=N8 u;have X:=N8 (Y.o.self E);clear u E;go_wp2_with fail;refine(kV (d:=[]) ⟨none,0,rfl,Nat.le_refl _,by simp[maxLen],fun q=>absurd rfl q⟩ ⟨none,0,rfl,Nat.le_refl _,by simp[maxLen],fun q=>absurd rfl q⟩).mono ?_;rintro e w8 ⟨rfl,f⟩;have a:=N8 (Q.o.below f);have W:=N8 (X.o.self (Ch.of_below f));clear f;go_wp2_with fail;refine B4 (MY a.o) ?_;go_wp2_with fail;refine B4 (AQ a.o) ?_;go_wp2_with fail;refine B4 (AS a.o) ?_;go_wp2_with fail;refine B4 (uM a.o) ?_;go_wp2_with fail;go_ret;exact⟨by simp,a.o,W.o⟩
def Kj(o:Option Bo)(S:Dk):Option Bo:=match o with|none=>none|some P=>if i6 P S=true then some (J6 P)else some P
theorem Mu(h:jJ k m Ls o S):jJ k m Ls (Kj o S) S:=by
 unfold Kj
 cases o with
 |none=>exact h
 |some P=>
  simp only
  split
  ·exact h.over
  ·exact h
theorem MZ(h:V3 wz K sb rb k v v2 o o S S n n w)(hn:jJ k m Ls o S)(hb:S.rd+n+100<1000000000):Calls Tryz.prog 23 #[v,v2] w fun e w'=>e= .returned (.bool true)∧gA wz K sb rb k v v2 (Kj o S) (Kj o S) S S (n+14) (n+14) w w':=by
 unfold Kj
 cases o with
 |none=>
  obtain rfl:=h.nilA;obtain rfl:=h.nilB;refine(UZ w).mono ?_;rintro e w' ⟨rfl,c⟩;obtain⟨X,Y,p,l,a,d⟩:=(h.below c).ex;exact⟨rfl,⟨⟨X,Y,p.mono (by omega),l.mono (by omega),a,d⟩,(h.below c).cz,(h.below c).kl⟩,Ch.of_below c⟩
 |some P=>
  simp only
  cases u:i6 P S
  ·rw[if_neg (by simp)];obtain⟨X,Y,p,l,a,d⟩:=h.ex;obtain⟨N,D,A,sp,rfl,I,f⟩:=p.ex;obtain⟨M,C,B,tp,rfl,F,j⟩:=l.ex;have fx:Fx A B wz.heap.size sp tp:=⟨fun x b G=>(a x ((f x).2 (.inl b))).2.2 ((j x).2 (.inl G)),fun q=>(a tp ((f tp).2 (.inl q))).2.2 ((j tp).2 (.inr rfl)),fun q=>(a sp ((f sp).2 (.inr rfl))).2.2 ((j sp).2 (.inl q)),fun x b=>b.elim (fun q=>(a x ((f x).2 (.inl q))).1) (fun q=>(d x ((j x).2 (.inl q))).1)⟩;obtain⟨i,g⟩:=hn.open u;refine(QH (n:=n) ⟨⟨N,I,D⟩,M,F,C⟩ fx ⟨qD g.gd i,mU g.gd i,Fq g,u⟩ (by omega)).mono ?_;rintro e w' ⟨rfl,⟨⟨L,H,z⟩,J,E,y⟩,r⟩;have s:=aS r (fun x b=>b.elim (fun q=>⟨(a x ((f x).2 (.inl q))).1,(a x ((f x).2 (.inl q))).2.1⟩) (fun q=>d x ((j x).2 (.inl q))));exact⟨rfl,⟨⟨X,Y,⟨L,z,A,sp,rfl,H,f⟩,⟨J,y,B,tp,rfl,E,j⟩,a,d⟩,h.cz.trans s (fun x b=> .inl b.1),fun x b=>Nat.lt_of_lt_of_le (h.kl x b) r.size⟩,s⟩
  ·rw[if_pos rfl];refine(QI h u (by omega)).mono ?_;rintro e w' ⟨rfl,t,s⟩;obtain⟨X,Y,p,l,a,d⟩:=t.ex;exact⟨rfl,⟨⟨X,Y,p.mono (by omega),l.mono (by omega),a,d⟩,t.cz,t.kl⟩,s⟩
end
end
section
structure Ox where
 k:Int
 b:Int
 a:Int
 key:Nat
 ks:f7
 t:List Pr
section

variable{X E K KK:n9}{wz w w0 w' w2:d9}{sb rb n n2 j j2:Nat}{k b a:Int}{v v2 kv tv u u2:Value}{o o2 p p2:Option Bo}{P:Bo}{S S' S2 S3:Dk}{m:Mk}{Ls:List (List Cl)}{ks:f7}{l:List Pr}

theorem V3.mono(h:V3 wz K sb rb k v v2 o o2 S S2 n n2 w)(h1:n≤j)(h2:n2≤j2):V3 wz K sb rb k v v2 o o2 S S2 j j2 w:=by
 obtain⟨X,Y,d,c,b,a⟩:=h.ex;exact⟨⟨X,Y,d.mono h1,c.mono h2,b,a⟩,h.cz,h.kl⟩
theorem bI{c:Obj}{b:Nat}(h:w.heap[b]?=some c)(hb:f8 w w'):w'.heap[b]?=some c:=by
 rw[hb.block b (Array.getElem?_eq_some_iff.1 h).1];exact h
theorem gA.blk{c:Obj}{b:Nat}(h:gA wz K sb rb k v v2 o o2 S S2 n n2 w w')(hb:w.heap[b]?=some c)(hk:K b):w'.heap[b]?=some c:=by
 rw[h.2.block b (Array.getElem?_eq_some_iff.1 hb).1 (fun q=>q.2 hk)];exact hb
theorem gA.back(h:gA wz KK sb rb k v v2 o o2 S S2 n n2 w0 w')(hk: ∀x,K x→KK x)(hc:Ch (fun x=>wz.heap.size≤x∧ ¬K x) w w0)(h1:n≤j)(h2:n2≤j2):gA wz K sb rb k v v2 o o2 S S2 j j2 w w':=
 ⟨(h.1.less hk).mono h1 h2,hc.trans h.2 (fun x hx=> .inl ⟨hx.1,fun q=>hx.2 (hk x q)⟩)⟩
theorem gA.next(h:Ch (fun x=>wz.heap.size≤x∧ ¬K x) w w0)(h':gA wz K sb rb k v v2 o o2 S S2 n n2 w0 w'):Ch (fun x=>wz.heap.size≤x∧ ¬K x) w w':=h.self h'.2
def Ng(wz:d9)(K:n9)(sb rb:Nat)(k:Int)(v v2:Value)(S:Dk)(n:Nat)(w:d9)(e:Ending)(w':d9):Prop:=
 e= .returned (.bool true)∧ ∃m' Ls' o' S',jJ k m' Ls' o' S'∧gA wz K sb rb k v v2 o' o' S' S' (n+20) (n+20) w w'∧S'.wr≤S.wr+8∧S'.rd=S.rd
theorem JV{x:Ox}(h:V3 wz K sb rb k v v2 o o S S n n w)(hn:jJ k m Ls o S)(hb:S.rd+n+200<1000000000∧S.wr<1000000000)(hk:Kv wz kv x.ks)(hok:B9 x.ks)(hq:Qv wz tv x.t)(hb63:x.b≤9223372036854775807):
  Calls Tryz.prog 17 #[v,v2,.agg #[.int .i64 x.k,.int .i64 x.b,.int .i64 x.a,.int .u64 x.key,kv,tv]] w (Ng wz K sb rb k v v2 S n w):=by
 obtain⟨y,s,u,rfl⟩:=F2 hk;obtain⟨p,tn,l,rfl⟩: ∃a b c,tv= .slice a b c:=by obtain⟨⟨p,l,e,_⟩,_⟩:=hq;exact⟨p,_,l,e⟩
 have t0:=b9 hq.2;have HN:=N8 hn;have p0:=N8 hb;have HK:=N8 hk;have W:=N8 hok;have HQ:=N8 hq;have w0:=N8 hb63;obtain⟨KK,b0,f0,g0⟩:=h.lay (Obj.cells #[.int .i64 x.k,.int .i64 x.b,.int .i64 x.a,.int .u64 x.key,.slice y s u,.slice p tn l] 41);have HT:=N8 b0;have D:=N8 f0;have L:=N8 g0;have i:c6 ((w.alloc (Obj.cells #[.int .i64 x.k,.int .i64 x.b,.int .i64 x.a,.int .u64 x.key,.slice y s u,.slice p tn l] 41)).heap[w.heap.size]?=some (.cells #[.int .i64 x.k,.int .i64 x.b,.int .i64 x.a,.int .u64 x.key,.slice y s u,.slice p tn l] 41 (0,0))):=heap_alloc_new w _;have HC:c6 (Ch (fun x=>wz.heap.size≤x∧ ¬K x) w (w.alloc (Obj.cells #[.int .i64 x.k,.int .i64 x.b,.int .i64 x.a,.int .u64 x.key,.slice y s u,.slice p tn l] 41))):=Ch.of_below (a8 _ _);clear h hn hb hk hok hq hb63 b0 f0 g0;go_in;go_upto_region 1 with fail
 obtain⟨g,i0⟩:=c7 w.heap.size;rw[←i0]at D i⊢;clear i0;generalize w.alloc (Obj.cells #[.int .i64 x.k,.int .i64 x.b,.int .i64 x.a,.int .u64 x.key,.slice y s u,.slice p tn l] 41)=C at HT i HC⊢;have n0: ∀wx:d9,wx.heap[g]?=some (.cells #[.int .i64 x.k,.int .i64 x.b,.int .i64 x.a,.int .u64 x.key,.slice y s u,.slice p tn l] 41 (0,0))→wx.cell? ⟨g,0,none⟩=some (.int .i64 x.k):=fun wx h=>by rw[cell_of_row wx g 0 _ _ (0,0) h];rfl
 have n1: ∀wx:d9,wx.heap[g]?=some (.cells #[.int .i64 x.k,.int .i64 x.b,.int .i64 x.a,.int .u64 x.key,.slice y s u,.slice p tn l] 41 (0,0))→wx.cell? ⟨g,1,none⟩=some (.int .i64 x.b):=fun wx h=>by rw[cell_of_row wx g 1 _ _ (0,0) h];rfl
 have n2: ∀wx:d9,wx.heap[g]?=some (.cells #[.int .i64 x.k,.int .i64 x.b,.int .i64 x.a,.int .u64 x.key,.slice y s u,.slice p tn l] 41 (0,0))→wx.cell? ⟨g,2,none⟩=some (.int .i64 x.a):=fun wx h=>by rw[cell_of_row wx g 2 _ _ (0,0) h];rfl
 have Z: ∀wx:d9,wx.heap[g]?=some (.cells #[.int .i64 x.k,.int .i64 x.b,.int .i64 x.a,.int .u64 x.key,.slice y s u,.slice p tn l] 41 (0,0))→wx.cell? ⟨g,3,none⟩=some (.int .u64 x.key):=fun wx h=>by rw[cell_of_row wx g 3 _ _ (0,0) h];rfl
 have n4: ∀wx:d9,wx.heap[g]?=some (.cells #[.int .i64 x.k,.int .i64 x.b,.int .i64 x.a,.int .u64 x.key,.slice y s u,.slice p tn l] 41 (0,0))→wx.cell? ⟨g,4,none⟩=some (.slice y s u):=fun wx h=>by rw[cell_of_row wx g 4 _ _ (0,0) h];rfl
 have n5: ∀wx:d9,wx.heap[g]?=some (.cells #[.int .i64 x.k,.int .i64 x.b,.int .i64 x.a,.int .u64 x.key,.slice y s u,.slice p tn l] 41 (0,0))→wx.cell? ⟨g,5,none⟩=some (.slice p tn l):=fun wx h=>by rw[cell_of_row wx g 5 _ _ (0,0) h];rfl
 have c0:=n0 C i.o;have j:c6 (S.rd+n<1000000000∧S.wr<1000000000):=by have h:=p0.o;exact⟨by omega,h.2⟩
 by_cases H:x.k=1
 ·have b1:(x.k==1)=true:=by rw[H];decide
  have b2:(x.k==2)=false:=by rw[H];decide
  have b3:(x.k==3)=false:=by rw[H];decide
  have b4:(x.k==4)=false:=by rw[H];decide
  obtain⟨cv,I⟩:=c7 ((nW (M0 m x.b x.a x.ks) (dF Ls m x.b x.a x.ks) o S).1);have r:=N8 I;clear I;go_wp2_with fail;refine wp_region_noPanic ?_;refine wp_region_held_drew (S:=(fun wx:d9=>wx.heap[g]?=some (.cells #[.int .i64 x.k,.int .i64 x.b,.int .i64 x.a,.int .u64 x.key,.slice y s u,.slice p tn l] 41 (0,0)))) (by kernel_rfl) ?_ fun d=>?_
  ·exact(bI i.o (d8 C 1))
  refine g6 0 15 rfl d ?_;refine g6 1 16 rfl d ?_;refine g6 2 17 rfl d ?_;refine g6 3 18 rfl d ?_;refine g6 4 19 rfl d ?_;refine g6 5 20 rfl d ?_;refine g6 6 21 rfl d ?_;refine g6 8 23 rfl d ?_;refine g6 9 24 rfl d ?_;refine g6 10 25 rfl d ?_;refine g6 11 26 rfl d ?_;refine g6 12 27 rfl d ?_;refine g6 13 28 rfl d ?_;refine g6 14 29 rfl d ?_;refine C7 7 22 rfl fun K E=>?_;go_simp;refine(UW (HT.o.below (d8 C 1)) HN.o j.o HK.o W.o x.b x.a).mono ?_;rw[←r.o];rintro e N ⟨rfl,f⟩;have B:=N8 f;have A:=b9 (f.blk (bI i.o (d8 C 1)) D.o);clear f;refine E.out _ _ ?_ fun d=>?_
  ·exact A.o
  clear E K;try simp only[Act.put,zz]
  refine C7 15 30 rfl fun K E=>?_;go_simp;refine(QD B.o.1 HN.o j.o HK.o W.o w0.o x.a).mono ?_;rw[←r.o];rintro e w4 ⟨rfl,z⟩;have J:=N8 z;have X:=b9 (z.blk A.o D.o);clear z;refine E.out _ _ ?_ fun d=>?_
  ·exact X.o
  clear E K;try simp only[Act.put,zz]
  refine g6 16 31 rfl d ?_;refine g6 17 6 rfl d ?_;refine wpAnyH_done (by kernel_rfl) ?_ _;refine NoPanic.normal ?_;go_wp2_with fail;go_ret;obtain⟨m2,R,g1,g2,g3⟩:=Lj (b:=x.b) (a:=x.a) HN.o W.o;exact⟨rfl,m2,R,_,_,g1,(gA.back (K:=K) ⟨J.o.1,(gA.next (gA.next (K:=KK) (Ch.of_below (d8 C 1)) B.o) J.o)⟩ L.o HC.o (by omega) (by omega)),g2,g3⟩
 by_cases G:x.k=2
 ·have b1:(x.k==1)=false:=by rw[G];decide
  have b2:(x.k==2)=true:=by rw[G];decide
  have b3:(x.k==3)=false:=by rw[G];decide
  have b4:(x.k==4)=false:=by rw[G];decide
  obtain⟨cv,I⟩:=c7 ((nW (eK m k x.b x.a Ls x.t) (qH k x.b Ls x.t) o S).1);have r:=N8 I;clear I;go_wp2_with fail;refine wp_region_noPanic ?_;refine wp_region_held_drew (S:=(fun wx:d9=>wx.heap[g]?=some (.cells #[.int .i64 x.k,.int .i64 x.b,.int .i64 x.a,.int .u64 x.key,.slice y s u,.slice p tn l] 41 (0,0)))) (by kernel_rfl) ?_ fun d=>?_
  ·exact(bI i.o (d8 C 1))
  refine g6 0 34 rfl d ?_;refine g6 1 35 rfl d ?_;refine g6 2 36 rfl d ?_;refine g6 3 37 rfl d ?_;refine g6 4 38 rfl d ?_;refine g6 5 39 rfl d ?_;refine g6 6 40 rfl d ?_;refine g6 8 42 rfl d ?_;refine g6 9 43 rfl d ?_;refine g6 10 44 rfl d ?_;refine g6 11 45 rfl d ?_;refine g6 12 46 rfl d ?_;refine g6 13 47 rfl d ?_;refine g6 14 48 rfl d ?_;refine C7 7 41 rfl fun K E=>?_;go_simp;refine(UX (HT.o.below (d8 C 1)) HN.o j.o HQ.o x.b x.a).mono ?_;rw[←r.o];rintro e N ⟨rfl,f⟩;have B:=N8 f;have A:=b9 (f.blk (bI i.o (d8 C 1)) D.o);clear f;refine E.out _ _ ?_ fun d=>?_
  ·exact A.o
  clear E K;try simp only[Act.put,zz]
  refine C7 15 49 rfl fun K E=>?_;go_simp;refine(QE B.o.1 HN.o j.o HQ.o x.b x.a).mono ?_;rw[←r.o];rintro e w4 ⟨rfl,z⟩;have J:=N8 z;have X:=b9 (z.blk A.o D.o);clear z;refine E.out _ _ ?_ fun d=>?_
  ·exact X.o
  clear E K;try simp only[Act.put,zz]
  refine g6 16 50 rfl d ?_;refine g6 17 6 rfl d ?_;refine wpAnyH_done (by kernel_rfl) ?_ _;refine NoPanic.normal ?_;go_wp2_with fail;go_ret;obtain⟨m2,R,g1,g2,g3⟩:=Nd (b:=x.b) (a:=x.a) HN.o t0.o;exact⟨rfl,m2,R,_,_,g1,(gA.back (K:=K) ⟨J.o.1,(gA.next (gA.next (K:=KK) (Ch.of_below (d8 C 1)) B.o) J.o)⟩ L.o HC.o (by omega) (by omega)),g2,g3⟩
 by_cases q:x.k=3
 ·have b1:(x.k==1)=false:=by rw[q];decide
  have b2:(x.k==2)=false:=by rw[q];decide
  have b3:(x.k==3)=true:=by rw[q];decide
  have b4:(x.k==4)=false:=by rw[q];decide
  obtain⟨V,hV⟩:=c7 ((AJ Ls x.key x.b o S).1);obtain⟨c,hc⟩:=c7 ((AJ Ls x.key x.b o S).2.1);have HV:=N8 hV;have r:=N8 hc;have c1:=n1 C i.o;have c3:=Z C i.o;have x0:=N8 n1;have A:=N8 Z;clear hV hc n0 n1 n2 Z n4 n5;go_wp2_with fail;refine(US HT.o HN.o j.o.1 x.key x.b).mono ?_;rw[←HV.o,←r.o];rintro e N ⟨rfl,f⟩;have h0:=f.blk i.o D.o;obtain⟨K3,d0,q,P⟩:=f.1.lay (Obj.cells #[.bool V.h,.int .u64 V.b] 55);have j0:=N8 d0;have m0:=N8 q;have v0:=N8 P;have o0:c6 (Ch (fun x=>wz.heap.size≤x∧ ¬KK x) C (N.alloc (Obj.cells #[.bool V.h,.int .u64 V.b] 55))):=f.2.self (Ch.of_below (a8 _ _));have Y:c6 ((N.alloc (Obj.cells #[.bool V.h,.int .u64 V.b] 55)).heap[g]?=some (.cells #[.int .i64 x.k,.int .i64 x.b,.int .i64 x.a,.int .u64 x.key,.slice y s u,.slice p tn l] 41 (0,0))):=bI h0 (a8 _ _);have U:c6 ((N.alloc (Obj.cells #[.bool V.h,.int .u64 V.b] 55)).heap[N.heap.size]?=some (Obj.cells #[.bool V.h,.int .u64 V.b] 55)):=heap_alloc_new N _;clear f h0 d0 q P c0 c1 c3;go_upto_region 8 with fail
  generalize N.heap.size=T7 at m0 U⊢;generalize N.alloc (Obj.cells #[.bool V.h,.int .u64 V.b] 55)=w4 at j0 o0 Y U⊢;have c1:=x0.o w4 Y.o;have c3:=A.o w4 Y.o;go_wp2_with fail;refine(QA j0.o HN.o j.o.1 x.key x.b).mono ?_;rw[←HV.o,←r.o];rintro e M ⟨rfl,Q⟩;have a0:=Q.blk U.o m0.o;have l0:=N8 Q;have T:c6 ((M.alloc (Obj.cells #[.bool V.h,.int .u64 V.b] 55)).heap[T7]?=some (Obj.cells #[.bool V.h,.int .u64 V.b] 55)):=bI a0 (a8 _ _);have O:c6 ((M.alloc (Obj.cells #[.bool V.h,.int .u64 V.b] 55)).heap[M.heap.size]?=some (Obj.cells #[.bool V.h,.int .u64 V.b] 55)):=heap_alloc_new M _;have q0:c6 (f8 M (M.alloc (Obj.cells #[.bool V.h,.int .u64 V.b] 55))):=a8 _ _;clear Q a0 c1 c3;go_upto_region 9 with fail
  generalize M.heap.size=T9 at O⊢
  have k0:c6 (gA wz K sb rb k v v2 (AJ Ls x.key x.b o S).2.2 (AJ Ls x.key x.b o S).2.2 S S (n+20) (n+20) w (M.alloc (Obj.cells #[.bool V.h,.int .u64 V.b] 55))):=by
   have h1:gA wz KK sb rb k v v2 (AJ Ls x.key x.b o S).2.2 (AJ Ls x.key x.b o S).2.2 S S (n+8) (n+8) C (M.alloc (Obj.cells #[.bool V.h,.int .u64 V.b] 55)):=gA.back (K:=KK) ⟨l0.o.1.below q0.o,l0.o.2.self (Ch.of_below q0.o)⟩ v0.o o0.o (by omega) (by omega);exact h1.back L.o HC.o (by omega) (by omega)
  generalize M.alloc (Obj.cells #[.bool V.h,.int .u64 V.b] 55)=w6 at T O k0⊢;have r0:w6.cell? ⟨T7,0,none⟩=some (.bool V.h):=by rw[cell_of_row w6 T7 0 _ _ (0,0) T.o];rfl
  have r1:w6.cell? ⟨T7,1,none⟩=some (.int .u64 V.b):=by rw[cell_of_row w6 T7 1 _ _ (0,0) T.o];rfl
  have s0:w6.cell? ⟨T9,0,none⟩=some (.bool V.h):=by rw[cell_of_row w6 T9 0 _ _ (0,0) O.o];rfl
  have s1:w6.cell? ⟨T9,1,none⟩=some (.int .u64 V.b):=by rw[cell_of_row w6 T9 1 _ _ (0,0) O.o];rfl
  have hq:=zP V;have y0:=bH;go_wp2_with fail;go_ret;exact⟨rfl,m,Ls,_,_,Mw HN.o x.key x.b,k0.o,by omega,rfl⟩
 by_cases F:x.k=4
 ·have b1:(x.k==1)=false:=by rw[F];decide
  have b2:(x.k==2)=false:=by rw[F];decide
  have b3:(x.k==3)=false:=by rw[F];decide
  have b4:(x.k==4)=true:=by rw[F];decide
  clear n0 n1 n2 Z n4 n5;go_wp2_with fail;refine(MZ HT.o HN.o (by have:=p0.o;omega)).mono ?_;rintro e N ⟨rfl,f⟩;have B:=N8 f;clear f;go_wp2_with fail;go_ret;exact⟨rfl,m,Ls,_,_,Mu HN.o,B.o.back L.o HC.o (by omega) (by omega),by omega,rfl⟩
 have b1:=beq_eq_false_iff_ne.2 H;have b2:=beq_eq_false_iff_ne.2 G;have b3:=beq_eq_false_iff_ne.2 q;have b4:=beq_eq_false_iff_ne.2 F;clear n0 n1 n2 Z n4 n5;go_wp2_with fail;refine B4 (MY HT.o) ?_;go_wp2_with fail;refine B4 (AQ HT.o) ?_;go_wp2_with fail;refine B4 (AS HT.o) ?_;go_wp2_with fail;refine B4 (uM HT.o) ?_;go_wp2_with fail;go_ret;exact⟨by simp,m,Ls,o,S,HN.o,gA.back (K:=K) ⟨HT.o,Ch.refl _ _⟩ L.o HC.o (by omega) (by omega),by omega,rfl⟩
end
end
section
def UI:Ox:=⟨0,0,0,0,[],[]⟩
def SA(l:List Ox)(i:Nat):Ox:=l.getD i UI
def Scx(w:d9)(v:Value)(l:List Ox):Prop:= ∃ao cap,v= .slice ao l.length cap∧l.length≤cap∧cap≤maxLen∧ ∀i,i<l.length→ ∃b off kv tv,ao=some ⟨b,off,none⟩∧w.cell? ⟨b,off+i*6,none⟩=some (.int .i64 (SA l i).k)∧w.cell? ⟨b,off+i*6+1,none⟩=some (.int .i64 (SA l i).b)∧
 w.cell? ⟨b,off+i*6+2,none⟩=some (.int .i64 (SA l i).a)∧w.cell? ⟨b,off+i*6+3,none⟩=some (.int .u64 (SA l i).key)∧w.cell? ⟨b,off+i*6+4,none⟩=some kv∧w.cell? ⟨b,off+i*6+5,none⟩=some tv∧
 Kv w kv (SA l i).ks∧B9 (SA l i).ks∧Qv w tv (SA l i).t∧ -9223372036854775808≤(SA l i).b∧(SA l i).b<9223372036854775808
structure Nl(wz:d9)(K:n9)(sb rb:Nat)(k:Int)(i:Nat)(v v2:Value)(w:d9):Prop where
 ex: ∃m Ls o S n,V3 wz K sb rb k v v2 o o S S n n w∧jJ k m Ls o S∧S.wr≤100+8*i∧S.rd≤100∧n≤100+60*i
section

variable{wz w1 w2 w3 w:d9}{K:n9}{sb rb i:Nat}{k:Int}{v v2:Value}{S S':Dk}

theorem CM(h:F0 0 S S'):S'=S:=by
 obtain⟨r,rfl,b,a⟩:=h;obtain rfl:r=S.rd:=by omega
 rfl
theorem UQ{D F:n9}(hB:f8 wz w1)(hd:I9 Kf D w2 (lB sb) S)(hx: ∀x,D x→w1.heap.size≤x)(hb:f8 w1 w2)(hd2:I9 Ke F w3 (lB rb) S)(hx2: ∀x,F x→w2.heap.size≤x)(hb2:f8 w2 w3):V3 wz (fun _=>False) sb rb k (.pointer none) (.pointer none) none none S S 0 0 w3:=by
 have a:f8 wz w3:=a9 (a9 hB hb) hb2;refine⟨⟨D,F,⟨S,F0.refl _,rfl,hd.below hb2⟩,⟨S,F0.refl _,rfl,hd2⟩,fun x h=>⟨Nat.le_trans hB.size (hx x h),fun q=>q,fun b=>?_⟩,fun x h=>⟨Nat.le_trans hB.size (Nat.le_trans hb.size (hx2 x h)),fun q=>q⟩⟩,Ch.of_below a,fun x q=>q.elim⟩;have d:=hd.lt h;have c:=hx2 x b;omega
theorem V3.bel{o o2:Option Bo}{S2:Dk}{n n2:Nat}(h:V3 wz K sb rb k v v2 o o2 S S2 n n2 w):f8 wz w:=h.cz.to_below (Nat.le_refl _) (fun _ q=>q)
theorem V3.form{o:Option Bo}{S2:Dk}{n n2:Nat}(h:V3 wz K sb rb k v v2 o o S S2 n n2 w):(v= .pointer none∧v2= .pointer none)∨ ∃a b,v= .pointer (some ⟨a,0,none⟩)∧v2= .pointer (some ⟨b,0,none⟩):=by
 cases o with
 |none=>exact .inl ⟨h.nilA,h.nilB⟩
 |some P=>
  obtain⟨a,e⟩:=h.ptrA;obtain⟨b,c⟩:=h.ptrB;exact .inr ⟨a,b,e,c⟩
end

theorem xI(k:Int)(w:d9):Calls Tryz.prog 5 #[.pointer none,.int .i64 k] w fun e w'=>e= .returned (.tuple #[.pointer none,.int .i64 2])∧w'=w:=by
 go_in;go_wp2_with fail;refine B4 (lL k w) ?_;go_wp2_with fail;go_ret2;exact⟨rfl,rfl⟩
theorem IY(k:Int)(w:d9):Calls Tryz.prog 6 #[.pointer none,.int .i64 k] w fun e w'=>e= .returned (.tuple #[.pointer none,.int .i64 2])∧w'=w:=by
 go_in;go_wp2_with fail;refine B4 (lL k w) ?_;go_wp2_with fail;go_ret2;exact⟨rfl,rfl⟩
end
section
open Go.ChangeShapes Go.WideShapes Go.ChangeAt Go.RowKit

theorem MA:Tryz.prog.cellsOf 57=3:=by kernel_rfl
theorem ME:Tryz.prog.cellsOf 4=1:=by kernel_rfl
theorem ZB:Tryz.prog.cellsOf 41=6:=by kernel_rfl
theorem MD:Tryz.prog.cellsOf 38=1:=by kernel_rfl
theorem GM:Tryz.prog.cellsOf 39=1:=by kernel_rfl
section

variable{H:Type}{enc:TypeId × Value→H}{W:d9}{sp:Nat→Bool}{held:Bool}{base:Nat}

theorem AU{P:Program}{t:TypeId}{f0 f1:Field}{fuel:Nat}{cs:List Value}{x:DataW H × List MemPlace}(ht:P.underlying t=some (.struct #[f0,f1]))(h:DataW.trod enc P W base sp held fuel t cs=some x):
  ∃y0 y1 n,DataW.trod enc P W base sp held n f0.type ((cs.drop f0.offset).take (P.cellsOf f0.type))=some y0∧DataW.trod enc P W base sp held n f1.type ((cs.drop f1.offset).take (P.cellsOf f1.type))=some y1:=by
 obtain⟨xs,n,_,_,_,a,b⟩:=DataW.trod_struct ht h
 match xs,a with
 |[y0,y1],_=>exact⟨y0,y1,n,by simpa using b 0 f0 rfl,by simpa using b 1 f1 rfl⟩
theorem UY{P:Program}{t:TypeId}{f0 f1 f2 f3 f4 f5:Field}{fuel:Nat}{cs:List Value}{x:DataW H × List MemPlace}(ht:P.underlying t=some (.struct #[f0,f1,f2,f3,f4,f5]))(h:DataW.trod enc P W base sp held fuel t cs=some x):
  ∃y0 y1 y2 y3 y4 y5 n,DataW.trod enc P W base sp held n f0.type ((cs.drop f0.offset).take (P.cellsOf f0.type))=some y0∧DataW.trod enc P W base sp held n f1.type ((cs.drop f1.offset).take (P.cellsOf f1.type))=some y1∧DataW.trod enc P W base sp held n f2.type ((cs.drop f2.offset).take (P.cellsOf f2.type))=some y2∧
   DataW.trod enc P W base sp held n f3.type ((cs.drop f3.offset).take (P.cellsOf f3.type))=some y3∧DataW.trod enc P W base sp held n f4.type ((cs.drop f4.offset).take (P.cellsOf f4.type))=some y4∧DataW.trod enc P W base sp held n f5.type ((cs.drop f5.offset).take (P.cellsOf f5.type))=some y5:=by
 obtain⟨xs,n,_,_,_,b,a⟩:=DataW.trod_struct ht h
 match xs,b with
 |[y0,y1,y2,y3,y4,y5],_=>exact⟨y0,y1,y2,y3,y4,y5,n,by simpa using a 0 f0 rfl,by simpa using a 1 f1 rfl,by simpa using a 2 f2 rfl,by simpa using a 3 f3 rfl,by simpa using a 4 f4 rfl,by simpa using a 5 f5 rfl⟩
theorem TU{n:Nat}{v:Value}{x:DataW H × List MemPlace}(h:DataW.trod enc Tryz.prog W base sp held n 4 [v]=some x): ∃b:Bool,v= .bool b:=by
 cases n with
 |zero=>simp[DataW.trod]at h
 |succ n=>
  simp only[DataW.trod,Tryz.underlying4]at h
  cases v<;>simp at h
  exact⟨_,rfl⟩
theorem sY{n:Nat}{cs:List Value}{x:DataW H × List MemPlace}(hl:cs.length=2)(h:DataW.trod enc Tryz.prog W base sp held n 55 cs=some x):
  ∃v:Vl,cs=[.bool v.h,.int .u64 v.b]∧v.ok:=by
 obtain⟨i,f,m,d,c⟩:=AU Tryz.underlying55 h
 match cs,hl with
 |[a,b],_=>
  simp only[ME,jG,List.drop_zero,List.drop_succ_cons,List.take_succ_cons,List.take_zero]at d c;obtain⟨g,rfl⟩:=TU d;obtain⟨u,rfl,e⟩:=nL c;exact⟨⟨g,u⟩,rfl,e⟩
theorem uF{n:Nat}{cs:List Value}{x:DataW H × List MemPlace}(hl:cs.length=3)(h:DataW.trod enc Tryz.prog W base sp held n 57 cs=some x):
  ∃p:Pr,cs=[.int .u64 p.k,.bool p.v.h,.int .u64 p.v.b]∧p.ok:=by
 obtain⟨l,j,m,f,e⟩:=AU Tryz.underlying57 h
 match cs,hl with
 |[a,b,c],_=>
  simp only[jG,GL,List.drop_zero,List.drop_succ_cons,List.take_succ_cons,List.take_zero]at f e;obtain⟨k,rfl,i⟩:=nL f;obtain⟨v,d,g⟩:=sY rfl e;simp only[List.cons.injEq,and_true]at d;obtain⟨rfl,rfl⟩:=d;exact⟨⟨k,v⟩,rfl,i,g⟩
end

theorem Eb{H:Type}{enc:TypeId × Value→H}{W:d9}{cs:List Value}{fuel:Nat}{y:DataW H × List MemPlace}(hf:DataW.trod enc Tryz.prog W 0 (fun _=>true) true fuel 39 cs=some y):
  ∃(v:Value) (l:List Pr),cs=[v]∧Qv W v l∧((y.1= .nil∧l=[])∨ ∃elems spare,y.1= .slice elems spare∧elems.length=l.length):=by
 rcases Go.Deep.open_slice Tryz.underlying39 hf with ⟨e,j⟩|⟨a,len,u,m,n,D,Pl,e,_,I,G,t,j,f⟩
 ·subst e;exact⟨_,[],rfl,⟨⟨none,0,rfl,by simp,by simp[maxLen],by simp,fun i d=>by simp at d⟩,by simp⟩,.inl ⟨by rw[j],rfl⟩⟩
 ·subst e;simp only[if_true]at t
  have each: ∀i,∃o:Pr,i<len→(W.cell? (a.add (i*3))=some (.int .u64 o.k)∧W.cell? (a.add (i*3+1))=some (.bool o.v.h)∧W.cell? (a.add (i*3+2))=some (.int .u64 o.v.b))∧o.ok:=by
   intro i;by_cases d:i<len
   ·obtain⟨cs',x,J⟩:=f i (by omega);rw[MA]at x;obtain⟨_,g,c⟩:=World.cells?_some x;obtain⟨o,rfl,s⟩:=uF g J;have F:=c 0 (by omega);have E:=c 1 (by omega);have C:=c 2 (by omega);rw[Go.Deep.add_add]at F E C;exact⟨o,fun _=>⟨⟨by simpa using F,by simpa using E,by simpa using C⟩,s⟩⟩
   ·exact⟨⟨0,⟨false,0⟩⟩,fun h=>absurd h d⟩
  obtain⟨X,p⟩: ∃X:Nat→Pr,∀i,i<len→(W.cell? (a.add (i*3))=some (.int .u64 (X i).k)∧W.cell? (a.add (i*3+1))=some (.bool (X i).v.h)∧W.cell? (a.add (i*3+2))=some (.int .u64 (X i).v.b))∧(X i).ok:=⟨fun i=>(each i).choose,fun i=>(each i).choose_spec⟩;clear each f;refine⟨_,(List.range len).map X,rfl,⟨⟨some a,u,by simp,by simpa using I,G,by simp,?_⟩,?_⟩,.inr ⟨_,_,by rw[j],by simp⟩⟩
  ·intro i d;simp at d;obtain⟨⟨K,_,_⟩,_⟩:=p 0 (by omega);obtain⟨⟨B,A,z⟩,_⟩:=p i d;obtain⟨b,q,spot⟩:=a;have r:spot=none:=by simpa[Addr.add]using World.cell?_spot K
   subst r;rw[WideShapes.add_plain]at B A z;exact⟨b,q,rfl,by simpa using B,by simpa[Nat.add_assoc]using A,by simpa[Nat.add_assoc]using z⟩
  ·intro o w;simp only[List.mem_map,List.mem_range]at w;obtain⟨i,d,rfl⟩:=w;exact(p i d).2
theorem GN{H:Type}{enc:TypeId × Value→H}{W:d9}{cs:List Value}{fuel:Nat}{y:DataW H × List MemPlace}(hl:cs.length=6)(hf:DataW.trod enc Tryz.prog W 0 (fun _=>true) true fuel 41 cs=some y):
  ∃(kv tv:Value) (x:Ox),cs=[.int .i64 x.k,.int .i64 x.b,.int .i64 x.a,.int .u64 x.key,kv,tv]∧Kv W kv x.ks∧B9 x.ks∧Qv W tv x.t∧ -9223372036854775808≤x.b∧x.b<9223372036854775808:=by
 obtain⟨z,w,v,u,s,r,m,j,i,h,g,f,e⟩:=UY Tryz.underlying41 hf
 match cs,hl with
 |[c0,C,B,A,q,p],_=>
  simp only[TS,jG,MD,GM,List.drop_zero,List.drop_succ_cons,List.take_succ_cons,List.take_zero]at j i h g f e;obtain⟨k,rfl,_⟩:=sZ Tryz.underlying3 j;obtain⟨b,rfl,d⟩:=sZ Tryz.underlying3 i;obtain⟨a,rfl,_⟩:=sZ Tryz.underlying3 h;obtain⟨key,rfl,_⟩:=nL g;obtain⟨kv,ks,n,c,_⟩:=Ec f;obtain⟨tv,t,l,o,_⟩:=Eb e;simp only[List.cons.injEq,and_true]at n l;subst n l;exact⟨q,p,⟨k,b,a,key,ks,t⟩,rfl,c.1,c.2,o,d.1,d.2⟩
theorem WV{H:Type}{enc:TypeId × Value→H}{W:d9}{v:Value}{d:DataW H}{p:List MemPlace}{base:Nat}
  (hv:Value.okWide Tryz.prog W .any base 22 v) (h:DataW.Trod enc Tryz.prog W 0 (fun _=>true) true 22 v d p):
  ∃l:List Ox,Scx W v l:=by
 obtain⟨ao,len0,cap0,rfl⟩:=okWide_slice Tryz.underlying22 hv;obtain⟨fuel,T⟩:=h;rcases Go.Deep.open_slice Tryz.underlying22 T with ⟨e,P⟩|⟨a,len,Z,m,n,D,Pl,e,_,S,R,u,P,g⟩
 ·simp[Value.cells]at e;obtain⟨rfl,rfl,rfl⟩:=e;exact⟨[],none,0,rfl,by simp,by simp[maxLen],fun i f=>by simp at f⟩
 ·simp[Value.cells]at e;obtain⟨rfl,rfl,rfl⟩:=e;simp only[if_true]at u
  have each: ∀i,∃o:(Value × Value) × Ox,i<len0→W.cell? (a.add (i*6))=some (.int .i64 o.2.k)∧W.cell? (a.add (i*6+1))=some (.int .i64 o.2.b)∧W.cell? (a.add (i*6+2))=some (.int .i64 o.2.a)∧W.cell? (a.add (i*6+3))=some (.int .u64 o.2.key)∧W.cell? (a.add (i*6+4))=some o.1.1∧W.cell? (a.add (i*6+5))=some o.1.2∧
    Kv W o.1.1 o.2.ks∧B9 o.2.ks∧Qv W o.1.2 o.2.t∧ -9223372036854775808≤o.2.b∧o.2.b<9223372036854775808:=by
   intro i;by_cases f:i<len0
   ·obtain⟨cs',y,U⟩:=g i (by omega);rw[ZB]at y;obtain⟨_,j,c⟩:=World.cells?_some y;obtain⟨O,N,x,rfl,q⟩:=GN j U;have M:=c 0 (by omega);have L:=c 1 (by omega);have K:=c 2 (by omega);have J:=c 3 (by omega);have I:=c 4 (by omega);have G:=c 5 (by omega);rw[Go.Deep.add_add]at M L K J I G;exact⟨⟨⟨O,N⟩,x⟩,fun _=>⟨by simpa using M,by simpa using L,by simpa using K,by simpa using J,by simpa using I,by simpa using G,q⟩⟩
   ·exact⟨⟨⟨undef,undef⟩,UI⟩,fun h=>absurd h f⟩
  obtain⟨X,w⟩:=Classical.axiomOfChoice each;clear each g;refine⟨(List.range len0).map (fun i=>(X i).2),some a,cap0,by simp,by simpa using S,R,?_⟩;intro i f;simp at f;obtain⟨Y,_⟩:=w 0 (by omega);obtain⟨F,E,C,B,A,z,q⟩:=w i f;obtain⟨b,r,spot⟩:=a;have s:spot=none:=by simpa[Addr.add]using World.cell?_spot Y
  subst s;rw[WideShapes.add_plain]at F E C B A z;have Q:SA ((List.range len0).map (fun i=>(X i).2)) i=(X i).2:=by unfold SA;rw[List.getD_eq_getElem?_getD];simp[f]
  rw[Q];exact⟨b,r,(X i).1.1,(X i).1.2,rfl,F,by simpa[Nat.add_assoc]using E,by simpa[Nat.add_assoc]using C,by simpa[Nat.add_assoc]using B,by simpa[Nat.add_assoc]using A,by simpa[Nat.add_assoc]using z,q⟩
end
theorem VU{n:Int}{w:d9}(hp:n<1∨64<n):Calls Tryz.prog 8 #[.int .i64 n] w fun e w'=>e= .returned (.tuple #[.pointer none,.int .i64 1])∧w'=w:=by
 by_cases b:n<1
 ·clear hp;go_in;go_wp2_with fail;go_ret2;exact⟨rfl,rfl⟩
 ·have a:64<n:=by omega
  clear hp;go_in;go_wp2_with fail;go_ret2;exact⟨rfl,rfl⟩
theorem RG{n:Nat}{w:d9}(h1:1≤n)(h64:n≤64):Calls Tryz.prog 8 #[.int .i64 n] w fun e w'=>Nw 91 w (List.replicate n []) e w':=by
 have b:=oF h64;obtain⟨Z,a⟩:=c7 (madeCells #[.slice none 0 0] (n*1));rw[←a]at b;have HG:c6 (Gr (fun x=>w.heap.size≤x) (w.alloc (.cells Z 75)) w.heap.size n (List.replicate n [])):=yY _ w h64 a;have HK:c6 ((mR (List.replicate n [])).ok):=XC h1 h64;have d:(1:Int)≤n:=by omega
 have c:(n:Int)≤64:=by omega
 clear a h1 h64;go_in;go_wp2_with fail;go_ret2;have:=XG (T:=91) HK.o HG.o (Nat.le_refl _) (a8 w _);rw[List.length_replicate]at this;simpa[go_sem]using this
theorem pS{w:d9}{v:Value}{l:List Ox}(n k:Int)(hv:Scx w v l):Calls Tryz.prog 3 #[.int .i64 n,.int .i64 k,v] w fun e w'=>e= .returned (.bool true)∧f8 w w':=by
 have HV:=b9 hv;obtain⟨va,vc,rfl,H1,T,_⟩:=hv;obtain⟨N,hN⟩:=c7 l.length;have S1:=N8 hN;have W1:(N:Int)≤9223372036854775807:=by unfold maxLen at T;omega
 rw[←hN];clear hN H1 T;go_in;go_wp2_with fail;refine(IA w).mono ?_;rintro e w1 ⟨rfl,k1⟩;have x1:=b9 k1;clear k1;go_wp2_with fail;refine B4 (xI k w1) ?_;go_wp2_with fail;refine B4 (IY k w1) ?_;by_cases g0:n<1∨64<n
 ·have s0:=b9 g0;clear g0;go_wp2_with fail;refine B4 (Cg s0.o) ?_;go_wp2_with fail;refine B4 (VU s0.o) ?_;go_wp2_with fail;go_ret;exact⟨rfl,x1.o⟩
 obtain⟨q,rfl,U0,p0⟩: ∃q:Nat,n=(q:Int)∧1≤q∧q≤64:=⟨n.toNat,by omega,by omega,by omega⟩;have HM:c6 (1≤q∧q≤64):=⟨U0,p0⟩;clear g0 U0 p0;go_wp2_with fail;refine(DN HM.o.1 HM.o.2).mono ?_;rintro e w2 ⟨dv,D0,rfl,hD,j1,I0⟩;obtain⟨sb,_,_,rfl,_⟩:=id hD;have s1:=N8 hD;have v1:=N8 j1;have l1:=N8 I0;clear hD j1 I0;go_wp2_with fail;refine(RG HM.o.1 HM.o.2).mono ?_;rintro e w3 ⟨xv,D1,rfl,hD,i1,H0⟩;obtain⟨rb,_,_,rfl,_⟩:=id hD;have p1:c6 (V3 w (fun _=>False) sb rb k (.pointer none) (.pointer none) none none (fH q) (fH q) 0 0 w3):=UQ x1.o s1.o l1.o v1.o hD H0 i1;have G0:c6 (∀z:Int,(z !=z)=false):=fun z=>by simp
 clear hD i1 H0 s1 v1 l1;go_wp2_with fail;refine(QF p1.o (fun _ h=>CM h) (by show(0:Nat)<1000;decide)).mono ?_;rintro e w4 ⟨B1,rfl,R,_⟩;obtain⟨fi,z0⟩:=c7 ((L8 k (fH q)).1);rw[←z0];have r1:=N8 z0;have y:=N8 R;clear z0 R;go_wp2_with fail;refine(IU y.o (fun _ h=>CM h) (by show(0:Nat)<1000;decide)).mono ?_;rw[←r1.o];rintro e C ⟨A1,rfl,v0,_⟩;have f:=N8 v0
 have t1:c6 (Nl w (fun _=>False) sb rb k 0 B1 A1 C):=by
  obtain⟨m2,C0,g1,g2,g3⟩:=Nc k HM.o.2;exact⟨m2,C0,_,_,0,v0,g1,by omega,g3,by omega⟩
 clear v0 p1 y r1;go_upto_region 13 with fail
 go_cut [76] (fun bv wx=>bv= .bool false∧wx=C)
 case first=>
  have R0:=G0.o;rcases f.o.form with ⟨rfl,rfl⟩|⟨jb,kb,rfl,rfl⟩
  ·go_wp2_with fail;go_meet;exact⟨rfl,rfl⟩
  ·go_wp2_with fail;go_meet;exact⟨rfl,rfl⟩
 case rest=>
 obtain⟨rfl,rfl⟩:=hcut;clear f HM;go_upto_region 15 with fail
 go_wp2_with fail;go_loopw [13,14,15] (fun jv kv iv wr=> ∃i:Nat,iv= .int .i64 i∧i≤N∧i≤1000∧Nl w (fun _=>False) sb rb k i jv kv wr) (fun _ _ iv _=>N-(intOf iv).toNat)
 case atStart=>exact⟨0,rfl,Nat.zero_le _,Nat.zero_le _,t1.o⟩
 case round=>
  clear t1;obtain⟨i,rfl,X1,z1,Z0⟩:=hrel;have o0:=N8 Z0;clear Z0;by_cases G1:i<N∧i<1000
  ·obtain⟨a0,b0⟩:=G1;have U1:(i:Int)<(N:Int):=by omega
   have T1:(i:Int)<1000:=by omega
   have V1:=decide_eq_true a0;have l0:c6 (i<N∧i<1000):=⟨a0,b0⟩;have V0:i<l.length:=by have:=S1.o;omega
   obtain⟨ao,J1,e0,_,_,i0⟩:=HV.o;simp only[Value.slice.injEq]at e0;obtain⟨tb,toff,pv,cv,e1,m0,m1,m2,m3,m4,m5,hp,w0,hc,f1,B0⟩:=i0 i V0;obtain rfl:va=some ⟨tb,toff,none⟩:=e0.1.trans e1;clear e0 i0 e1;obtain⟨Q,P,rfl,_⟩:=O7 hp;obtain⟨O,M,rfl⟩: ∃a c,cv= .slice a (SA l i).t.length c:=by obtain⟨⟨O,M,e,_⟩,_⟩:=hc;exact⟨O,M,e⟩
   generalize SA l i=x at m0 m1 m2 m3 m4 m5 hp w0 hc f1 B0;obtain⟨L,X0⟩:=c7 x.ks.length;obtain⟨tn,K0⟩:=c7 x.t.length;rw[←X0]at hp m4;rw[←K0]at hc m5;clear X0 K0;have HP:=N8 hp;have Q1:=N8 w0;have HC:=N8 hc;have h0:=N8 B0;have B:c6 (f8 w wr):=by obtain⟨_,_,_,_,_,h,_⟩:=o0.o;exact h.bel
   have y0:=(B.o.cell (p:=⟨tb,toff+i*6,none⟩) (c8 m0)).trans m0;have y1:=(B.o.cell (p:=⟨tb,toff+i*6+1,none⟩) (c8 m1)).trans m1;have y2:=(B.o.cell (p:=⟨tb,toff+i*6+2,none⟩) (c8 m2)).trans m2;have y3:=(B.o.cell (p:=⟨tb,toff+i*6+3,none⟩) (c8 m3)).trans m3;have y4:=(B.o.cell (p:=⟨tb,toff+i*6+4,none⟩) (c8 m4)).trans m4;have y5:=(B.o.cell (p:=⟨tb,toff+i*6+5,none⟩) (c8 m5)).trans m5;clear m0 m1 m2 m3 m4 m5 hp w0 hc f1 B0 V0;obtain⟨m,Ls,o,S,r,ht,F,J,K,hr⟩:=o0.o;obtain⟨KK,t0,x0,_⟩:=ht.lay (Obj.cells #[.int .i64 x.k,.int .i64 x.b,.int .i64 x.a,.int .u64 x.key,.slice Q L P,.slice O tn M] 41);obtain⟨w4,j0⟩:=c7 (wr.alloc (Obj.cells #[.int .i64 x.k,.int .i64 x.b,.int .i64 x.a,.int .u64 x.key,.slice Q L P,.slice O tn M] 41));obtain⟨u,k0⟩:=c7 wr.heap.size;rw[←j0]at t0;rw[←k0]at x0;have o1:=N8 j0;have q0:=N8 k0;have D:c6 (w4.heap[u]?=some (.cells #[.int .i64 x.k,.int .i64 x.b,.int .i64 x.a,.int .u64 x.key,.slice Q L P,.slice O tn M] 41 (0,0))):=by show _=_;rw[j0,k0];exact heap_alloc_new wr _
   have y:=N8 t0;have H:=N8 x0;have A:=N8 F;have d:c6 (S.wr≤100+8*i∧S.rd≤100∧r≤100+60*i∧i<1000):=⟨J,K,hr,b0⟩;have F0:c6 (S.rd+r<1000000000):=by show _<_;omega
   have n0: ∀wx:d9,wx.heap[u]?=some (.cells #[.int .i64 x.k,.int .i64 x.b,.int .i64 x.a,.int .u64 x.key,.slice Q L P,.slice O tn M] 41 (0,0))→wx.cell? ⟨u,0,none⟩=some (.int .i64 x.k):=fun wx h=>by rw[cell_of_row wx u 0 _ _ (0,0) h];rfl
   have n1: ∀wx:d9,wx.heap[u]?=some (.cells #[.int .i64 x.k,.int .i64 x.b,.int .i64 x.a,.int .u64 x.key,.slice Q L P,.slice O tn M] 41 (0,0))→wx.cell? ⟨u,1,none⟩=some (.int .i64 x.b):=fun wx h=>by rw[cell_of_row wx u 1 _ _ (0,0) h];rfl
   have n4: ∀wx:d9,wx.heap[u]?=some (.cells #[.int .i64 x.k,.int .i64 x.b,.int .i64 x.a,.int .u64 x.key,.slice Q L P,.slice O tn M] 41 (0,0))→wx.cell? ⟨u,4,none⟩=some (.slice Q L P):=fun wx h=>by rw[cell_of_row wx u 4 _ _ (0,0) h];rfl
   have n5: ∀wx:d9,wx.heap[u]?=some (.cells #[.int .i64 x.k,.int .i64 x.b,.int .i64 x.a,.int .u64 x.key,.slice Q L P,.slice O tn M] 41 (0,0))→wx.cell? ⟨u,5,none⟩=some (.slice O tn M):=fun wx h=>by rw[cell_of_row wx u 5 _ _ (0,0) h];rfl
   have c0:=n0 w4 D.o;have c1:=n1 w4 D.o;have c4:=n4 w4 D.o;have c5:=n5 w4 D.o;have q1:=N8 n1;clear j0 k0 t0 x0 ht F J K hr n0 n1 n4 n5 a0 b0;go_upto_region 19 with fail
   rw[←o1.o,←q0.o];clear y0 y1 y2 y3 y4 y5;by_cases Y0:4096<L
   ·have f0:(L:Int)>4096:=by omega
    go_wp2_with fail;go_ret;exact⟨rfl,y.o.bel⟩
   have f0: ¬(L:Int)>4096:=by omega
   by_cases R:4096<tn
   ·have Z:(tn:Int)>4096:=by omega
    go_wp2_with fail;go_ret;exact⟨rfl,y.o.bel⟩
   have Z: ¬(tn:Int)>4096:=by omega
   go_upto_block 2 with fail;go_cut [8,10,13,14]from 85 to 160 (fun _ _ jv kv wx=>(∃m Ls o S r,V3 w KK sb rb k jv kv o o S S r r wx∧jJ k m Ls o S∧S.wr≤100+8*i∧S.rd≤100∧r≤100+60*i+10)∧wx.heap[u]?=some (.cells #[.int .i64 x.k,.int .i64 x.b,.int .i64 x.a,.int .u64 x.key,.slice Q L P,.slice O tn M] 41 (0,0)))
   case first=>
    clear c4 c5 Y0 f0 R Z;by_cases Y:x.k=5
    ·have b5:(x.k==5)=true:=by rw[Y];decide
     have b6:(x.k==6)=false:=by rw[Y];decide
     have b7:(x.k==7)=false:=by rw[Y];decide
     have b8:(x.k==8)=false:=by rw[Y];decide
     go_wp2_with fail;refine(Gp y.o h0.o).mono ?_;rintro e C ⟨rfl,j⟩;have I:=b9 (j.blk D.o H.o);have c1:=q1.o C I.o;have f:=N8 j.1;clear j;go_wp2_with fail;refine(Ah f.o h0.o).mono ?_;rintro e w6 ⟨rfl,g⟩;have E:=b9 (g.blk I.o H.o);have s:=N8 g.1;clear g;go_wp2_with fail;go_meet;exact⟨⟨m,Ls,o,jI S x.b,r,s.o,A.o.turn rfl,d.o.1,d.o.2.1,by have:=d.o;omega⟩,E.o⟩
    by_cases X:x.k=6
    ·have b5:(x.k==5)=false:=by rw[X];decide
     have b6:(x.k==6)=true:=by rw[X];decide
     have b7:(x.k==7)=false:=by rw[X];decide
     have b8:(x.k==8)=false:=by rw[X];decide
     go_wp2_with fail;refine(Gn y.o).mono ?_;rintro e C ⟨rfl,j⟩;have I:=b9 (j.blk D.o H.o);have f:=N8 j.1;clear j;go_wp2_with fail;refine(Ag f.o).mono ?_;rintro e w6 ⟨rfl,g⟩;have E:=b9 (g.blk I.o H.o);have s:=N8 g.1;clear g;go_wp2_with fail;go_meet;exact⟨⟨m,Ls,o,mG S,r,s.o,A.o.turn rfl,d.o.1,d.o.2.1,by have:=d.o;omega⟩,E.o⟩
    by_cases W:x.k=7
    ·have b5:(x.k==5)=false:=by rw[W];decide
     have b6:(x.k==6)=false:=by rw[W];decide
     have b7:(x.k==7)=true:=by rw[W];decide
     have b8:(x.k==8)=false:=by rw[W];decide
     go_wp2_with fail;refine(Kh y.o).mono ?_;rintro e C ⟨rfl,j⟩;have I:=b9 (j.blk D.o H.o);have f:=N8 j.1;clear j;go_wp2_with fail;refine(Gm f.o).mono ?_;rintro e w6 ⟨rfl,g⟩;have E:=b9 (g.blk I.o H.o);have s:=N8 g.1;clear g;go_wp2_with fail;go_meet;exact⟨⟨m,Ls,o,WZ S,r,s.o,A.o.turn rfl,d.o.1,d.o.2.1,by have:=d.o;omega⟩,E.o⟩
    by_cases U:x.k=8
    ·have b5:(x.k==5)=false:=by rw[U];decide
     have b6:(x.k==6)=false:=by rw[U];decide
     have b7:(x.k==7)=false:=by rw[U];decide
     have b8:(x.k==8)=true:=by rw[U];decide
     go_wp2_with fail;refine(Aj y.o F0.o).mono ?_;rintro e C ⟨cc,v5,o5,S5,rfl,M0,Q0,j⟩;have I:=b9 (j.blk D.o H.o);have f:=N8 j.1;have R1:=N8 Q0;have M1:=N8 M0;clear j Q0 M0;go_wp2_with fail;refine(UR f.o F0.o).mono ?_;rintro e w6 ⟨Z1,v6,o6,S6,rfl,L0,P0,g⟩;obtain⟨rfl,rfl,S0⟩:=Bm A.o M1.o L0 R1.o P0;have E:=b9 (g.blk I.o H.o);have s:=N8 g.1;have r0:c6 ((∃m Ls o S r,V3 w KK sb rb k v5 v6 o o S S r r w6∧jJ k m Ls o S∧S.wr≤100+8*i∧S.rd≤100∧r≤100+60*i+10)∧w6.heap[u]?=some (.cells #[.int .i64 x.k,.int .i64 x.b,.int .i64 x.a,.int .u64 x.key,.slice Q L P,.slice O tn M] 41 (0,0))):=⟨⟨m,Ls,_,S,r+9,s.o,S0,d.o.1,d.o.2.1,by have:=d.o;omega⟩,E.o⟩;clear g P0 L0 S0;have R0:=G0.o;rcases s.o.form with ⟨rfl,rfl⟩|⟨jb,kb,rfl,rfl⟩
     ·go_wp2_with fail;go_meet;exact r0.o
     ·go_wp2_with fail;go_meet;exact r0.o
    have b5:=beq_eq_false_iff_ne.2 Y;have b6:=beq_eq_false_iff_ne.2 X;have b7:=beq_eq_false_iff_ne.2 W;have b8:=beq_eq_false_iff_ne.2 U;go_wp2_with fail;go_meet;exact⟨⟨m,Ls,o,S,r,y.o,A.o,d.o.1,d.o.2.1,by have:=d.o;omega⟩,D.o⟩
   case rest=>
    clear o0 y D q1 c0 c1 c4 c5 o1 q0 A d F0 Y0 f0 R Z B;obtain⟨⟨m,Ls,o,S,r,ht,F,J,K,hr⟩,G⟩:=hcut;obtain⟨C,J0⟩:=c7 wc;rw[←J0]at ht G⊢;have f:=N8 ht;have A:=N8 F;have d:c6 (S.wr≤100+8*i∧S.rd≤100∧r≤100+60*i+10):=⟨J,K,hr⟩;have d0:C.cell? ⟨u,0,none⟩=some (.int .i64 x.k):=by rw[cell_of_row C u 0 _ _ (0,0) G];rfl
    have d1:C.cell? ⟨u,1,none⟩=some (.int .i64 x.b):=by rw[cell_of_row C u 1 _ _ (0,0) G];rfl
    have d2:C.cell? ⟨u,2,none⟩=some (.int .i64 x.a):=by rw[cell_of_row C u 2 _ _ (0,0) G];rfl
    have d3:C.cell? ⟨u,3,none⟩=some (.int .u64 x.key):=by rw[cell_of_row C u 3 _ _ (0,0) G];rfl
    have d4:C.cell? ⟨u,4,none⟩=some (.slice Q L P):=by rw[cell_of_row C u 4 _ _ (0,0) G];rfl
    have d5:C.cell? ⟨u,5,none⟩=some (.slice O tn M):=by rw[cell_of_row C u 5 _ _ (0,0) G];rfl
    have R0:=G0.o;clear J0 ht F J K hr G;go_wp2_with fail;refine(JV (x:=x) f.o A.o (by have h1:=d.o;have h2:=l0.o;omega) HP.o Q1.o HC.o (by have:=h0.o;omega)).mono ?_;rintro e w6 ⟨rfl,m2,C0,o2,S2,T0,T,C1,F1⟩;have s:c6 (V3 w (fun _=>False) sb rb k _ _ o2 o2 S2 S2 (r+20) (r+20) w6):=T.1.less (fun _ q=>q.elim);have E:c6 (Nl w (fun _=>False) sb rb k (i+1) _ _ w6):=⟨m2,C0,o2,S2,r+20,s.o,T0,by have h1:=d.o;omega,by have h1:=d.o;omega,by have h1:=d.o;omega⟩;clear T0 T C1 F1 d0 d1 d2 d3 d4 d5 f A;go_wp2_with fail;refine B4 (PZ s.o) ?_;go_wp2_with fail;refine B4 (IT s.o) ?_;go_wp2_with fail;go_roundw
    case rel=>exact⟨i+1,by go_num,l0.o.1,l0.o.2,E.o⟩
    case measure=>have:=l0.o;simp[intOf];omega
  ·obtain⟨m,Ls,o,S,r,ht,F,J,K,hr⟩:=o0.o;have HT:=N8 ht;have A:=N8 F;have d:c6 (S.rd+r+100<1000000000):=by show _<_;omega
   clear ht F J K hr;go_upto_region 16 with fail
   go_cut [84] (fun bv wx=>bv= .bool false∧wx=wr)
   case first=>
    by_cases h1:i<N
    ·have I1:(i:Int)<(N:Int):=by omega
     have Y1: ¬(i:Int)<1000:=by omega
     go_wp2_with fail;go_meet;exact⟨rfl,rfl⟩
    ·have I1: ¬(i:Int)<(N:Int):=by omega
     go_wp2_with fail;go_meet;exact⟨rfl,rfl⟩
   case rest=>
   obtain⟨rfl,rfl⟩:=hcut;go_wp2_with fail;refine(UV HT.o).mono ?_;rintro e C ⟨ao,J1,rfl,O0,b1⟩;have f:=N8 (HT.o.below b1);have P1:=N8 O0;clear b1 O0;go_wp2_with fail;refine(QC f.o).mono ?_;rintro e w6 ⟨a2,cap2,rfl,N0,A0⟩;have s:=N8 (f.o.below A0);have O1:=N8 N0;have N1:=N8 (P1.o.below A0);clear A0 N0;go_wp2_with fail;refine(zF N1.o O1.o).mono ?_;rw[decide_eq_true rfl];rintro e w7 ⟨rfl,a1⟩;have L1:=N8 (s.o.below a1);clear a1;go_wp2_with fail;refine(MZ L1.o A.o d.o).mono ?_;rintro e w8 ⟨rfl,W0⟩;have K1:=N8 W0.1;clear W0;go_wp2_with fail;go_ret;exact⟨rfl,K1.o.bel⟩
end Go.Proofs.YtfhoilcbhmeofaaGreat
