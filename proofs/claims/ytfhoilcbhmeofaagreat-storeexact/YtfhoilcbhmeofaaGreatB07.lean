/- The reader's cell against the mathematics: its fault is the first, and without one its answer is the cell. -/
import Derived.Test.YtfhoilcbhmeofaaGreatB06
set_option maxRecDepth 100000
set_option maxHeartbeats 16000000
namespace Go.Proofs.YtfhoilcbhmeofaaGreat
open Go.RowKit
theorem IR(l r:f7):Wm.unw (l++r)=Wm.unw l+256^l.length*Wm.unw r:=by
 induction l with
 |nil=>simp[Wm.unw]
 |cons c l a=>
  simp only[List.cons_append,Wm.unw,a,List.length_cons,Nat.pow_succ];rw[Nat.mul_add,Nat.mul_comm (256^l.length) 256,Nat.mul_assoc];omega
theorem tQ{l:f7}{k c:Nat}(hk:k<l.length)(hc:l.getD k 0=c):Wm.unw (l.take (k+1))=Wm.unw (l.take k)+c*256^k:=by
 have e:l.getD k 0=l[k]:=by simp[List.getD,List.getElem?_eq_getElem hk]
 rw[List.take_succ_eq_append_getElem hk,IR,List.length_take,Nat.min_eq_left (by omega),←e,hc];simp[Wm.unw,Nat.mul_comm]
theorem Ae{x c k:Nat}(hx:x<256^k)(hk:k<8)(hc:c<256):
  bits .or .u64 (x:Int) (IntKind.u64.wrap ((c:Int)*2^(8*k)))=((x+c*256^k:Nat):Int):=by
 have a:(256:Nat)^k≤256^7:=Nat.pow_le_pow_right (by omega) (by omega);have f:c*256^k≤255*256^7:=Nat.mul_le_mul (by omega) a;have b:c*256^k<18446744073709551616:=Nat.lt_of_le_of_lt f (by decide);have d:x<18446744073709551616:=Nat.lt_of_lt_of_le (Nat.lt_of_lt_of_le hx a) (by decide)
 have e:(c:Int)*2^(8*k)=((c*256^k:Nat):Int):=by
  rw[←KM,Int.natCast_mul,Int.natCast_pow];rfl
 rw[e,p8 (by omega) (by generalize c*256^k=z at b⊢;omega),bits_or_u64_nat x _ d b];congr 1;rw[←KM]at hx⊢;rw[Nat.or_comm,Nat.mul_comm,←Nat.two_pow_add_eq_or_of_lt hx];omega
def t2(r:Nat × Nat):Value:= .tuple #[.int .u64 (r.1:Nat),.int .i64 (r.2:Nat)]
theorem AZ{l:f7}(h:l.length<8):Ending.returned (.tuple #[.int .u64 0,.int .i64 3])= .returned (t2 (Wm.takeW l)):=by
 unfold Wm.takeW;rw[if_pos h];rfl
theorem NC{l:f7}{a:Int}(h:8≤l.length)(ha:a=(Wm.unw (l.take 8):Nat)):Ending.returned (.tuple #[.int .u64 a,.int .i64 0])= .returned (t2 (Wm.takeW l)):=by
 unfold Wm.takeW;rw[if_neg (by omega),ha];rfl
theorem AW(l:f7)(ao:Option Addr)(cap:Nat)(w:d9)(h:l.length<8):
  Calls Tryz.prog 227 #[.slice ao l.length cap] w fun e w'=>e= .returned (t2 (Wm.takeW l))∧w'=w:=by
 have a:(l.length:Int)<8:=by omega
 go_in;go_wp2;go_ret2;exact⟨AZ h,rfl⟩
theorem IX(l:f7)(b off cap:Nat)(w:d9)(h8:8≤l.length)
  (hc: ∀i,i<l.length→w.cell? ⟨b,off+i,none⟩=some (.int .u8 ((l.getD i 0:Nat):Int))) (h256: ∀c∈l,c<256):
  Calls Tryz.prog 227 #[.slice (some ⟨b,off,none⟩) l.length cap] w fun e w'=>e= .returned (t2 (Wm.takeW l))∧w'=w:=by
 have HC:=b9 hc;have f:=b9 h256;have q: ¬(l.length:Int)<8:=by omega
 clear hc h256;go_in;go_wp2;go_loop [4,9] (fun xv iv=> ∃k x:Nat,xv= .int .u64 x∧iv= .int .i64 k∧k≤8∧x=Wm.unw (l.take k)) (fun _ iv=>8-(intOf iv).toNat)
 case atStart=>exact⟨0,0,rfl,rfl,by omega,rfl⟩
 case round=>
  obtain⟨k,x,rfl,rfl,t,m⟩:=hrel;have HX:=b9 m;clear m;by_cases p:(k:Int)<8
  ·have g:=HC.o k (by omega);obtain⟨c,a⟩: ∃c,l.getD k 0=c:=⟨_,rfl⟩;rw[a]at g;have HD:=b9 a;have h:c6 (c<256):=by show c<256;rw[←a];exact f.o _ (by simp[List.getD,List.getElem?_eq_getElem (show k<l.length by omega)])
   have r:(k:Int)<(l.length:Int):=by omega
   have s:(c:Int)<256:=by have:=h.o;omega
   have j:c6 (x<256^k):=by
    have n:=Wm.unw_lt (l.take k) (fun d hd=>f.o d (List.mem_of_mem_take hd));rw[←HX.o,List.length_take,Nat.min_eq_left (by omega)]at n;exact n
   clear a;go_wp2_with fail;go_round
   case rel=>exact⟨k+1,_,by rw[Ae j.o (by omega) h.o],by go_num,by omega,by rw[tQ (by omega) HD.o,HX.o]⟩
   case measure=>simp[intOf];omega
  ·obtain rfl:k=8:=by omega
   go_wp2_with fail;go_ret2;exact⟨NC h8 (by rw[HX.o]),rfl⟩
theorem qV{w:d9}{v:Value}{l:f7}(h:Bv w v l):
  Calls Tryz.prog 227 #[v] w fun e w'=>e= .returned (t2 (Wm.takeW l))∧w'=w:=by
 by_cases d:l.length<8
 ·obtain⟨⟨g,a,rfl,_⟩,_⟩:=h;rw[i8];exact AW l g a w d
 ·rcases N6 h with ⟨rfl,_⟩|⟨b,c,a,rfl,i,k,j,f⟩
  ·simp at d
  ·exact IX l b c a w (by omega) f h.2
theorem xR(l:f7)(ao:Option Addr)(cap:Nat)(w:d9)(h:l.length<8):
  Calls Tryz.prog 228 #[.slice ao l.length cap] w fun e w'=>e= .returned (t2 (Wm.takeW l))∧w'=w:=by
 have a:(l.length:Int)<8:=by omega
 go_in;go_wp2;go_ret2;exact⟨AZ h,rfl⟩
theorem LU{l:f7}{j c:Nat}(h8:8≤l.length)(hj:j<8)(hc:l.getD j 0=c):(l.take 8).drop j=c::(l.take 8).drop (j+1):=by
 refine jA (by rw[List.length_take];omega) ?_;rw[←hc];simp[List.getD,hj]
theorem Hd{x c:Nat}(hx:x*256+c<18446744073709551616):IntKind.u64.wrap (IntKind.u64.wrap ((x:Int)*256)+(c:Int))=((x*256+c:Nat):Int):=by
 rw[p8 (z:=(x:Int)*256) (by omega) (by omega),p8 (by omega) (by omega)];omega
theorem BN(l:f7)(b off cap:Nat)(w:d9)(h8:8≤l.length)
  (hc: ∀i,i<l.length→w.cell? ⟨b,off+i,none⟩=some (.int .u8 ((l.getD i 0:Nat):Int))) (h256: ∀c∈l,c<256):
  Calls Tryz.prog 228 #[.slice (some ⟨b,off,none⟩) l.length cap] w fun e w'=>e= .returned (t2 (Wm.takeW l))∧w'=w:=by
 have HC:=b9 hc;have f:=b9 h256;have r: ¬(l.length:Int)<8:=by omega
 clear hc h256;go_in;go_wp2;go_loop [4,5] (fun xv iv=> ∃k x:Nat,xv= .int .u64 x∧iv= .int .i64 ((k:Int)-1)∧k≤8∧x=Wm.unw ((l.take 8).drop k)) (fun _ iv=>(intOf iv+1).toNat)
 case atStart=>exact⟨8,0,rfl,rfl,by omega,by rw[List.drop_eq_nil_of_le (by rw[List.length_take];omega)];rfl⟩
 case round=>
  obtain⟨k,x,rfl,rfl,v,m⟩:=hrel;have HX:=b9 m;clear m;by_cases q:(1:Int)≤(k:Int)
  ·obtain⟨j,rfl⟩: ∃j,k=j+1:=⟨k-1,by omega⟩;have g:=HC.o j (by omega);obtain⟨c,a⟩: ∃c,l.getD j 0=c:=⟨_,rfl⟩;rw[a]at g;have s:(j:Int)<(l.length:Int):=by omega
   have u:(c:Int)<256:=by
    have:c<256:=by rw[←a];exact f.o _ (by simp[List.getD,List.getElem?_eq_getElem (show j<l.length by omega)])
    omega
   have t:((j+1:Nat):Int)-1=(j:Int):=by omega
   have HU:c6 (x*256+c=Wm.unw ((l.take 8).drop j)):=by
    have:=LU h8 (show j<8 by omega) a;show _=_;rw[this,Wm.unw,←HX.o];omega
   have h:c6 (x*256+c<18446744073709551616):=by
    have n:=Wm.unw_lt ((l.take 8).drop j) (fun d hd=>f.o d (List.mem_of_mem_take (List.mem_of_mem_drop hd)));rw[←HU.o,List.length_drop,List.length_take,Nat.min_eq_left (by omega)]at n;have p:(256:Nat)^(8-j)≤256^8:=Nat.pow_le_pow_right (by omega) (by omega);exact Nat.lt_of_lt_of_le n (Nat.le_trans p (by decide))
   clear a;go_wp2_with fail;go_round
   case rel=>exact⟨j,_,by rw[Hd h.o],by go_num,by omega,HU.o⟩
   case measure=>simp[intOf]
  ·obtain rfl:k=0:=by omega
   go_wp2_with fail;go_ret2;exact⟨NC h8 (by rw[HX.o];simp),rfl⟩
theorem gM{w:d9}{v:Value}{l:f7}(h:Bv w v l):
  Calls Tryz.prog 228 #[v] w fun e w'=>e= .returned (t2 (Wm.takeW l))∧w'=w:=by
 by_cases d:l.length<8
 ·obtain⟨⟨g,a,rfl,_⟩,_⟩:=h;rw[i8];exact xR l g a w d
 ·rcases N6 h with ⟨rfl,_⟩|⟨b,c,a,rfl,i,k,j,f⟩
  ·simp at d
  ·exact BN l b c a w (by omega) f h.2
def x7(l:List Cl):Option Nat:=l.getLast?.map Cl.k
theorem bY(q:List Cl)(c:Cl):x7 (q++[c])=some c.k:=by simp[x7]
theorem LO(n m k:Nat)(c:Cl)(b off cap:Nat)(w:d9)(hn:n=m+1)(hl:n≤cap)(hcap:cap≤maxLen)(h:CA w b (off+m*6) c):
  Calls Tryz.prog 187 #[.slice (some ⟨b,off,none⟩) n cap,.int .u64 k] w fun e w'=>e= .returned (.bool (N0 (some c.k) k))∧w'=w:=by
 unfold maxLen at hcap;have j:(n:Int)-1=(m:Int):=by omega
 have i:(m:Int)<(n:Int):=by omega
 have g:((n:Int)==0)=false:=by simp;omega
 have f:(n:Int)≤9223372036854775807:=by omega
 have l:=h.c0;clear hn hcap hl;by_cases d:c.k<k
 ·have e:N0 (some c.k) k=true:=by simp[N0,d]
  have a:(c.k:Int)<(k:Int):=by omega
  rw[e];go_in;go_wp2_with fail;go_ret;exact⟨rfl,rfl⟩
 ·have e:N0 (some c.k) k=false:=by simp[N0];omega
  have a: ¬(c.k:Int)<(k:Int):=by omega
  rw[e];go_in;go_wp2_with fail;go_ret;exact⟨rfl,rfl⟩
theorem zM(ao:Option Addr)(cap k:Nat)(w:d9):
  Calls Tryz.prog 187 #[.slice ao 0 cap,.int .u64 k] w fun e w'=>e= .returned (.bool true)∧w'=w:=by
 go_in;go_wp2_with fail;go_ret;exact⟨rfl,rfl⟩
theorem W2{w:d9}{v:Value}{l:List Cl}(h:Cv w v l)(k:Nat):
  Calls Tryz.prog 187 #[v,.int .u64 k] w fun e w'=>e= .returned (.bool (N0 (x7 l) k))∧w'=w:=by
 rcases B2 h with ⟨rfl,m,a,rfl⟩|⟨b,d,a,rfl,f,j,i,g⟩
 ·exact zM m a k w
 ·obtain⟨q,c,rfl⟩: ∃q c,l=q++[c]:=⟨l.dropLast,l.getLast (List.length_pos_iff.1 f),(List.dropLast_concat_getLast _).symm⟩;rw[bY];have:=g q.length (by simp);rw[List.getElem_append_right (Nat.le_refl _)]at this;simp only[Nat.sub_self,List.getElem_singleton]at this;exact LO _ q.length k c b d a w (by simp) j i this
theorem kC(v:Vl)(w:d9):
  Calls Tryz.prog 214 #[.agg #[.bool v.h,.int .u64 v.b]] w fun e w'=>e= .returned (.bool (N4 v))∧f8 w w':=by
 obtain⟨h,b⟩:=v
 cases h
 ·by_cases a:b=0
  ·subst a;go_in;go_wp2_with fail;go_ret;exact⟨rfl,a8 _ _⟩
  ·have e:N4 ⟨false,b⟩=false:=by simp[N4,a]
   have c:((b:Int)==0)=false:=by simp;omega
   rw[e];go_in;go_wp2_with fail;go_ret;exact⟨rfl,a8 _ _⟩
 ·go_in;go_wp2_with fail;go_ret;exact⟨rfl,a8 _ _⟩
theorem jK(c:Cl)(w:d9):
  Calls Tryz.prog 188 #[.agg #[.int .u64 c.k,.bool c.p.h,.int .u64 c.p.b,.bool c.c.h,.int .u64 c.c.b,.int .i64 c.n]] w fun e w'=>e= .returned (.bool (F6 c))∧f8 w w':=by
 have HC:c6 (CB (w.alloc (Obj.cells #[.int .u64 c.k,.bool c.p.h,.int .u64 c.p.b,.bool c.c.h,.int .u64 c.c.b,.int .i64 c.n] 132)) w.heap.size c):=B0 w c;have HB:c6 (f8 w (w.alloc (Obj.cells #[.int .u64 c.k,.bool c.p.h,.int .u64 c.p.b,.bool c.c.h,.int .u64 c.c.b,.int .i64 c.n] 132))):=a8 _ _;by_cases j:0≤c.n
 ·by_cases i:c.n≤1099511627776
  ·cases d:N4 c.p
   ·have e:F6 c=false:=by simp[F6,d]
    rw[e];clear e;go_in;go_wp2_with fail;refine(kC c.p _).mono ?_;rw[d];rintro e g ⟨rfl,a⟩;go_wp2_with fail;go_ret;exact⟨rfl,a9 HB.o a⟩
   ·have e:F6 c=N4 c.c:=by simp[F6,d,j,i]
    rw[e];clear e;go_in;go_wp2_with fail;refine(kC c.p _).mono ?_;rw[d];rintro e g ⟨rfl,a⟩;obtain⟨_,_,_,q,m,_,_⟩:=HC.o.keep a;go_wp2_with fail;refine(kC c.c _).mono ?_;rintro e l ⟨rfl,f⟩;go_wp2_with fail;go_ret;exact⟨rfl,a9 HB.o (a9 a f)⟩
  ·have e:F6 c=false:=by simp[F6];omega
   rw[e];go_in;go_wp2_with fail;go_ret;exact⟨rfl,HB.o⟩
 ·have e:F6 c=false:=by simp[F6];omega
  rw[e];go_in;go_wp2_with fail;go_ret;exact⟨rfl,HB.o⟩
theorem p9(v:Vl)(w:d9):
  Calls Tryz.prog 215 #[.agg #[.bool v.h,.int .u64 v.b]] w fun e w'=> ∃u,e= .returned u∧Bv w' u (N7 v)∧f8 w w':=by
 obtain⟨h,b⟩:=v
 cases h
 ·go_in;go_wp2_with fail;go_ret;exact⟨_,rfl,Bv.nil _,a8 _ _⟩
 ·go_in;go_wp2_with (go_at_call 233;refine(PV b _).mono ?_;rintro e f ⟨v,rfl,a,c⟩);go_ret;have d:=p7 a (Ez b);exact⟨v,rfl,by simpa[N7]using d,a9 (a8 _ _) c⟩
section
theorem k8(w:d9)(g i:Nat)(u:Value):Ch (fun x=>x=g) w (w.setCell ⟨g,i,none⟩ u):=Ch.of_grown (A7 w g i u) (fun x hx=>by cases hx;rfl)
theorem Ch.cell{D:n9}{w w':d9}{p:Addr}{u:Value}(h:Ch D w w')(hp:w.cell? p=some u)(hd: ¬D p.block):w'.cell? p=some u:=by
 have:=h.block p.block (c8 hp) hd;have e:w'.cell? p=w.cell? p:=by simp only[World.cell?,this]
 rw[e,hp]
theorem Bv.set{w:d9}{v:Value}{l:f7}(h:Bv w v l){p:Addr}{u:Value}(hp:w.cell? p=some u)(hu: ∀x,u≠ .int .u8 x)(u':Value):Bv (w.setCell p u') v l:=by
 obtain⟨⟨q,c,e,n,m,k,j⟩,g⟩:=h;refine⟨⟨q,c,e,n,m,k,fun i f=>?_⟩,g⟩;obtain⟨b,a,o,d⟩:=j i f;refine⟨b,a,o,?_⟩;rw[World.cell?_setCell_other _ _ _ _ (by rintro rfl;rw[d]at hp;exact hu _ (Option.some.inj hp).symm)];exact d
structure RD(M:Nat)(w:d9)(R:Nat)(v:Value)(l:f7)(f:Nat):Prop where
 c0:w.cell? ⟨R,0,none⟩=some v
 c1:w.cell? ⟨R,1,none⟩=some (.int .i64 f)
 z: ∀j,w.frozen? ⟨R,j,none⟩=false
 bv:Bv w v l
 m: ∀x,v.ownBlock=some x→x<M
theorem bT{ao:Option Addr}{n c n' c':Nat}:(Value.slice ao n c).ownBlock=(Value.slice ao n' c').ownBlock:=by rcases ao with _|⟨b,o,_|s⟩<;>rfl
theorem gY{ao:Option Addr}{k n c n' c':Nat}:(Value.slice (ao.map fun a=>a.add k) n c).ownBlock=(Value.slice ao n' c').ownBlock:=by
 cases ao with
 |none=>rfl
 |some a=>simp only[Option.map_some,Value.ownBlock,Addr.add];split<;>rfl
variable{M:Nat}

theorem GR{w:d9}{v:Value}{l:f7}(h:Bv w v l): ∀x,v≠ .int .u8 x:=by
 obtain⟨⟨b,a,rfl,_⟩,_⟩:=h;intro x e;cases e
theorem RD.set1{w:d9}{R:Nat}{v:Value}{l:f7}{f:Nat}(h:RD M w R v l f)(e:Nat):RD M (w.setCell ⟨R,1,none⟩ (.int .i64 e)) R v l e:=
 ⟨by rw[World.cell?_setCell_other _ _ _ _ (by rintro⟨⟩)];exact h.c0,by simp[go_sem,h.c1],fun j=>by simpa[go_sem]using h.z j,h.bv.set h.c1 (by intro x e;cases e) _,h.m⟩
theorem RD.set0{w:d9}{R:Nat}{v v':Value}{l l':f7}{f:Nat}(h:RD M w R v l f)(hb:Bv w v' l')(hm:v'.ownBlock=v.ownBlock):RD M (w.setCell ⟨R,0,none⟩ v') R v' l' f:=
 ⟨by simp[go_sem,h.c0],by rw[World.cell?_setCell_other _ _ _ _ (by rintro⟨⟩)];exact h.c1,fun j=>by simpa[go_sem]using h.z j,hb.set h.c0 (GR h.bv) _,fun x hx=>h.m x (by rw[←hm];exact hx)⟩
theorem RD.below{w w':d9}{R:Nat}{v:Value}{l:f7}{f:Nat}(h:RD M w R v l f)(hb:f8 w w'):RD M w' R v l f:=by
 have a:=c8 h.c0;exact⟨by rw[hb.cell (p:=⟨R,0,none⟩) a];exact h.c0,by rw[hb.cell (p:=⟨R,1,none⟩) a];exact h.c1,fun j=>by rw[hb.frozen (p:=⟨R,j,none⟩) a];exact h.z j,h.bv.below hb,h.m⟩
theorem RD.ch{D:n9}{w w':d9}{R:Nat}{v:Value}{l:f7}{f:Nat}(h:RD M w R v l f)(hc:Ch D w w')(hd: ¬D R)(hM: ∀x,D x→M≤x):RD M w' R v l f:=by
 have g: ∀j,w'.frozen? ⟨R,j,none⟩=w.frozen? ⟨R,j,none⟩:=fun j=>by
  have:=hc.block R (c8 h.c0) hd;simp only[World.frozen?,this]
 refine⟨hc.cell h.c0 hd,hc.cell h.c1 hd,fun j=>by rw[g j];exact h.z j,?_,h.m⟩;obtain⟨⟨u,c,e,s,r,q,p⟩,o⟩:=h.bv;refine⟨⟨u,c,e,s,r,q,fun i n=>?_⟩,o⟩;obtain⟨b,a,d,t⟩:=p i n;have y:=h.m b (by rw[e,d];rfl);exact⟨b,a,d,hc.cell t (fun k=>by have:=hM b k;omega)⟩
def G3(g:Bool)(e f:Nat):Nat:=if g=true∧f=0 then e else f
theorem Z6(e f:Nat):G3 false e f=f:=by simp[G3]
theorem aC(e:Nat):G3 true e 0=e:=by simp[G3]
theorem y7{g:Bool}{e f:Nat}(h:f≠0):G3 g e f=f:=by simp[G3,h]
theorem o8{w:d9}{R:Nat}{v:Value}{l:f7}{f:Nat}(h:RD M w R v l f)(g:Bool)(e:Nat):
  Calls Tryz.prog 162 #[.pointer (some ⟨R,0,none⟩),.bool g,.int .i64 e] w fun en w'=>en= .returned (.tuple #[])∧RD M w' R v l (G3 g e f)∧Ch (fun x=>x=R) w w':=by
 have HR:=b9 h;have d:=h.c1;have c:=h.z 1;clear h
 cases g
 ·rw[Z6];go_in;go_wp2_with fail;refine bodyPost_end (results_none rfl _ _ _) rfl ?_;exact⟨rfl,HR.o,Ch.refl _ _⟩
 ·by_cases a:f=0
  ·subst a;rw[aC];go_in;go_wp2_with fail;refine bodyPost_end (results_none rfl _ _ _) rfl ?_;exact⟨rfl,HR.o.set1 e,k8 _ _ _ _⟩
  ·rw[y7 a];have b:((f:Int)==0)=false:=by rw[beq_eq_false_iff_ne];omega
   go_in;go_wp2_with fail;refine bodyPost_end (results_none rfl _ _ _) rfl ?_;exact⟨rfl,HR.o,Ch.refl _ _⟩
theorem bD{w:d9}{v:Value}{l:f7}{ao:Option Addr}{cap:Nat}(h:Bv w v l)(hv:v= .slice ao l.length cap)(n:Nat)(hn:n≤l.length)(hc: ¬cap=n):Bv w (.slice (ao.map fun a=>a.add n) (l.length-n) (cap-n)) (l.drop n):=by
 subst hv;have:=h.cut n l.length hn (Nat.le_refl _) False (by simp[hc]);rw[List.take_of_length_le (by rw[List.length_drop];omega)]at this;simpa using this
theorem bC{w:d9}{ao:Option Addr}{l:f7}{p:Nat}(hp:l.length≤p):Bv w (.slice ao 0 0) (l.drop p):=by
 rw[List.drop_eq_nil_of_le hp];exact⟨⟨ao,0,rfl,Nat.le_refl _,by simp[maxLen],fun _=>rfl,fun i a=>by simp[ib]at a⟩,by simp⟩
theorem cU{w:d9}{ao:Option Addr}{n cap:Nat}{l:f7}(h:Bv w (.slice ao n cap) l):n=l.length∧l.length≤cap∧cap≤maxLen:=by
 obtain⟨⟨ao',cap',e,a,b,_⟩,_⟩:=h;rw[i8]at e a
 cases e
 exact⟨rfl,a,b⟩
theorem K7{r:Nat × Nat × Nat}{a b c:Nat}(h:r=(a,b,c)):t3 r= .tuple #[.int .u64 a,.int .i64 b,.int .i64 c]:=by subst h;rfl
theorem lK{r:Nat × Nat}{a b:Nat}(h:r=(a,b)):t2 r= .tuple #[.int .u64 a,.int .i64 b]:=by subst h;rfl
def M8(l:f7)(f:Nat):Nat:=G3 (decide ((Wm.take l).2.2≠0)) (Wm.take l).2.2 f
def B1(l:f7):f7:=l.drop (Wm.take l).2.1
theorem gZ{w:d9}{R:Nat}{v:Value}{l:f7}{f:Nat}(h:RD M w R v l f):
  Calls Tryz.prog 161 #[.pointer (some ⟨R,0,none⟩)] w fun e w'=>e= .returned (.int .u64 ((Wm.take l).1:Nat))∧(∃v',RD M w' R v' (B1 l) (M8 l f))∧Ch (fun x=>x=R) w w':=by
 have HR:=b9 h
 obtain⟨B,n,c,Q⟩: ∃a n q,v= .slice a n q:=by
  obtain⟨⟨B,c,e,_⟩,_⟩:=h.bv;exact⟨B,_,c,e⟩
 subst Q;obtain⟨S,t,s⟩:=cU h.bv;subst S;have L:=h.c0;have A:=b9 t;unfold maxLen at s;have a0:(c:Int)≤9223372036854775807:=by omega
 have Z:(l.length:Int)≤(c:Int):=by omega
 have T:=Wm.take_form l h.bv.2;clear h t s;rcases T with ⟨e,i,G⟩|⟨x,n,i,hx,E,r,D⟩
 ·have p:(Wm.take l).1=0:=by rw[i]
  have m:B1 l=l.drop 0:=by unfold B1;rw[i]
  have k:M8 l f=G3 true e f:=by
   unfold M8;rw[i];have:e≠0:=by omega
   simp[this]
  have HT:=b9 i;rw[p,m,k];have W:((e:Int) !=0)=true:=by rw[bne_iff_ne];omega
  clear p m k i G;go_in;go_wp2_with fail;refine(G9 HR.o.bv).mono ?_;rw[K7 HT.o];rintro C O ⟨rfl,rfl⟩;go_wp2_with fail;refine(o8 HR.o true e).mono ?_;rintro C J ⟨rfl,b,j⟩;have d:=b9 b;have g:=b9 j;have K:=b.c0;have N:=b.z 0;clear b j L;by_cases y:c=0
  ·have F:l.length=0:=by have:=A.o;omega
   have I:c6 (l.length≤0):=by show _≤_;omega
   subst y;rw[F]at K⊢;go_wp2_with fail;go_ret;exact⟨rfl,⟨_,d.o.set0 (bC I.o) (bT)⟩,g.o.self (k8 _ _ _ _)⟩
  ·go_wp2_with fail;go_ret;have P:Bv J (.slice (B.map fun a=>a.add 0) l.length c) (l.drop 0):=by simpa using bD d.o.bv rfl 0 (Nat.zero_le _) y
   first
    |exact⟨rfl,⟨_,d.o.set0 P gY⟩,g.o.self (k8 _ _ _ _)⟩
    |exact⟨rfl,⟨_,d.o.set0 (v':= .slice B l.length c) (by simpa using d.o.bv) bT⟩,g.o.self (k8 _ _ _ _)⟩
 ·have p:(Wm.take l).1=x:=by rw[i]
  have m:B1 l=l.drop n:=by unfold B1;rw[i]
  have k:M8 l f=G3 false 0 f:=by unfold M8;rw[i];rfl
  have HT:=b9 i;rw[p,m,k];have HN:=b9 r;have U:(n:Int)≤(l.length:Int):=by omega
  have X:(n:Int)≤(c:Int):=by omega
  clear p m k i D E r;go_in;go_wp2_with fail;refine(G9 HR.o.bv).mono ?_;rw[K7 HT.o];rintro C O ⟨rfl,rfl⟩;go_wp2_with fail;refine(o8 HR.o false 0).mono ?_;rintro C J ⟨rfl,b,j⟩;have d:=b9 b;have g:=b9 j;have K:=b.c0;have N:=b.z 0;clear b j L;by_cases u:c=n
  ·have Y:l.length=n:=by have:=A.o;have:=HN.o;omega
   have H:c6 (l.length≤n):=by show _≤_;omega
   subst u;go_wp2_with fail;go_ret;exact⟨rfl,⟨_,d.o.set0 (bC H.o) bT⟩,g.o.self (k8 _ _ _ _)⟩
  ·go_wp2_with fail;go_ret;exact⟨rfl,⟨_,d.o.set0 (bD d.o.bv rfl n HN.o u) gY⟩,g.o.self (k8 _ _ _ _)⟩
end
section
variable{M:Nat}

theorem Ch.frozen{D:n9}{w w':d9}{p:Addr}{u:Value}(h:Ch D w w')(hp:w.cell? p=some u)(hd: ¬D p.block){j:Nat}:w'.frozen? ⟨p.block,j,none⟩=w.frozen? ⟨p.block,j,none⟩:=by
 have:=h.block p.block (c8 hp) hd;simp only[World.frozen?,this]
structure wR(w:d9)(b:Nat)(v:Vl):Prop where
 c0:w.cell? ⟨b,0,none⟩=some (.bool v.h)
 c1:w.cell? ⟨b,1,none⟩=some (.int .u64 v.b)
 z: ∀j,w.frozen? ⟨b,j,none⟩=false
theorem iL(w:d9)(v:Vl):wR (w.alloc (Obj.cells #[.bool v.h,.int .u64 v.b] 55)) w.heap.size v:=by
 constructor<;>simp[go_sem]
theorem wR.ch{D:n9}{w w':d9}{b:Nat}{v:Vl}(h:wR w b v)(hc:Ch D w w')(hd: ¬D b):wR w' b v:=
 ⟨hc.cell h.c0 hd,hc.cell h.c1 hd,fun j=>by rw[hc.frozen h.c0 hd];exact h.z j⟩
theorem RD.setB{w:d9}{R B j:Nat}{v u:Value}{l:f7}{f:Nat}(h:RD M w R v l f)(hne:B≠R)(hp:w.cell? ⟨B,j,none⟩=some u)(hu: ∀x,u≠ .int .u8 x)(u':Value):RD M (w.setCell ⟨B,j,none⟩ u') R v l f:=
 ⟨by rw[World.cell?_setCell_other _ _ _ _ (by rintro⟨⟩;exact hne rfl)];exact h.c0,by rw[World.cell?_setCell_other _ _ _ _ (by rintro⟨⟩;exact hne rfl)];exact h.c1,fun k=>by simpa[go_sem]using h.z k,h.bv.set hp hu _,h.m⟩
theorem RD.setV{w:d9}{R B:Nat}{v:Value}{a:Vl}{l:f7}{f:Nat}(h:RD M w R v l f)(hv:wR w B a)(hne:B≠R)(y:Bool)(x:Int):RD M ((w.setCell ⟨B,0,none⟩ (.bool y)).setCell ⟨B,1,none⟩ (.int .u64 x)) R v l f:=
 (h.setB hne hv.c0 (by intro x e;cases e) _).setB hne (u:= .int .u64 a.b) (by rw[World.cell?_setCell_other _ _ _ _ (by rintro⟨⟩)];exact hv.c1) (by intro x e;cases e) _
theorem cT{w0 w:d9}{R B:Nat}(h:Ch (fun x=>x=R) w0 w)(hB:w0.heap.size≤B)(i j:Nat)(u v:Value):Ch (fun x=>x=R) w0 ((w.setCell ⟨B,i,none⟩ u).setCell ⟨B,j,none⟩ v):=
 (h.trans (k8 _ _ _ _) (fun x hx=>by subst hx;exact .inr hB)).trans (k8 _ _ _ _) (fun x hx=>by subst hx;exact .inr hB)
def LJ(l:f7):Nat:=l.headD 0
def YF(l:f7):f7:=l.drop 1
def zJ(l:f7)(f:Nat):Nat:=match l with
 |[]=>G3 true 3 f
 |c::_=>G3 (decide (3<c)) 4 f
def dL(t:Bool)(l:f7):Vl:=if t=true∧8≤l.length then⟨true,Wm.unw (l.take 8)⟩else K0
def aK(t:Bool)(l:f7):f7:=if t=true∧8≤l.length then l.drop 8 else l
def T0(t:Bool)(l:f7)(f:Nat):Nat:=if t=true∧l.length<8 then G3 true 3 f else f
theorem TJ{w:d9}{R:Nat}{v:Value}{l:f7}{f:Nat}(h:RD M w R v l f):
  Calls Tryz.prog 197 #[.pointer (some ⟨R,0,none⟩)] w fun e w'=>e= .returned (.int .u8 (LJ l:Nat))∧(∃v',RD M w' R v' (YF l) (zJ l f))∧Ch (fun x=>x=R) w w':=by
 have HR:=b9 h;have J:=h.c0;rcases N6 h.bv with ⟨rfl,S,k,rfl⟩|⟨b,A,k,rfl,E,H,G,F⟩
 ·clear h;go_in;go_wp2_with fail;refine(o8 HR.o true 3).mono ?_;rintro I D ⟨rfl,a,d⟩;go_wp2_with fail;go_ret;exact⟨rfl,⟨_,a⟩,d⟩
 ·have n:=h.bv.2;clear h
  cases l with
  |nil=>simp at E
  |cons c r=>
   have s:w.cell? ⟨b,A,none⟩=some (.int .u8 (c:Nat)):=by have h:=F 0 (by simp);rw[Nat.add_zero]at h;exact h
   have C:=n c (by simp);rw[List.length_cons]at*;unfold maxLen at G;have Q:(k:Int)≤9223372036854775807:=by omega
   have P:((r.length:Int)+1)≤(k:Int):=by omega
   have N:(0:Int)<(r.length:Int)+1:=by omega
   have t:=b9 H;have O:((r.length:Int)+1==0)=false:=by rw[beq_eq_false_iff_ne];omega
   clear H G F E n;have HX:c6 (zJ (c::r) f=G3 (decide (3<c)) 4 f):=rfl
   have main: ∀g:Bool,g=decide ((3:Int)<(c:Int))→Calls Tryz.prog 197 #[.pointer (some ⟨R,0,none⟩)] w fun e w'=>e= .returned (.int .u8 (c:Nat))∧(∃v',RD M w' R v' r (G3 g 4 f))∧Ch (fun x=>x=R) w w':=by
    intro g u
    cases g
    ·have B: ¬(3:Int)<(c:Int):=by simpa using u.symm
     clear u HX;go_in;go_wp2_with fail;refine(o8 HR.o false 4).mono ?_;rintro I D ⟨rfl,a,d⟩;have i:=b9 a;have m:=b9 d;have L:=a.c0;have K:=a.z 0;clear a d J s;by_cases j:k=1
     ·have q:r=[]:=List.eq_nil_of_length_eq_zero (by have:=t.o;omega);subst j q;go_wp2_with fail;go_ret;exact⟨rfl,⟨_,i.o.set0 (bC (l:=[]) (p:=0) (by simp)) rfl⟩,m.o.self (k8 _ _ _ _)⟩
     ·go_wp2_with fail;go_ret;have y:=bD i.o.bv rfl 1 (by simp) j;exact⟨rfl,⟨_,i.o.set0 (by simpa[Addr.add]using y) rfl⟩,m.o.self (k8 _ _ _ _)⟩
    ·have B:(3:Int)<(c:Int):=by simpa using u.symm
     clear u HX;go_in;go_wp2_with fail;refine(o8 HR.o true 4).mono ?_;rintro I D ⟨rfl,a,d⟩;have i:=b9 a;have m:=b9 d;have L:=a.c0;have K:=a.z 0;clear a d J s;by_cases j:k=1
     ·have q:r=[]:=List.eq_nil_of_length_eq_zero (by have:=t.o;omega);subst j q;go_wp2_with fail;go_ret;exact⟨rfl,⟨_,i.o.set0 (bC (l:=[]) (p:=0) (by simp)) rfl⟩,m.o.self (k8 _ _ _ _)⟩
     ·go_wp2_with fail;go_ret;have y:=bD i.o.bv rfl 1 (by simp) j;exact⟨rfl,⟨_,i.o.set0 (by simpa[Addr.add]using y) rfl⟩,m.o.self (k8 _ _ _ _)⟩
   rw[HX.o];exact main (decide (3<c)) (by congr 1;simp only[eq_iff_iff];omega)
theorem qQ{w:d9}{R:Nat}{v:Value}{l:f7}{f:Nat}(h:RD M w R v l f)(t:Bool):
  Calls Tryz.prog 198 #[.pointer (some ⟨R,0,none⟩),.bool t] w fun e w'=>e= .returned (.agg #[.bool (dL t l).h,.int .u64 (dL t l).b])∧(∃v',RD M w' R v' (aK t l) (T0 t l f))∧Ch (fun x=>x=R) w w':=by
 have P:=b9 (iL w K0);have s:c6 (w.heap.size≠R):=by have:=c8 h.c0;show _≠_;simp only at this;omega
 have r:c6 (RD M (w.alloc (Obj.cells #[.bool false,.int .u64 0] 55)) R v l f):=h.below (a8 _ _)
 cases t
 ·clear h;have C:dL false l=K0:=by unfold dL;rw[if_neg (by simp)]
  have B:aK false l=l:=by unfold aK;rw[if_neg (by simp)]
  have A:T0 false l f=f:=by unfold T0;rw[if_neg (by simp)]
  rw[C,B,A];go_in;go_wp2_with fail;refine bodyPost_ret (by simp[results,Tryz.results198,go_sem,K0]) rfl ⟨rfl,?_⟩;exact⟨⟨_,r.o⟩,Ch.of_below (a8 _ _)⟩
 ·obtain⟨I,n,d,hv⟩: ∃a n q,v= .slice a n q:=by
   obtain⟨⟨I,d,e,_⟩,_⟩:=h.bv;exact⟨I,_,d,e⟩
  subst hv;obtain⟨hn,K,J⟩:=cU h.bv;subst hn;clear h;have T:=b9 K;unfold maxLen at J;have b0:(d:Int)≤9223372036854775807:=by omega
  have a0:(l.length:Int)≤(d:Int):=by omega
  clear K J;have c0:=r.o.c0;by_cases H:l.length<8
  ·have C:dL true l=K0:=by unfold dL;rw[if_neg (by omega)]
   have B:aK true l=l:=by unfold aK;rw[if_neg (by omega)]
   have A:T0 true l f=G3 true 3 f:=by unfold T0;rw[if_pos ⟨rfl,H⟩]
   have HT:c6 (Wm.takeW l=(0,3)):=if_pos H;rw[C,B,A];clear C B A H;go_in;go_wp2_with fail;refine(qV r.o.bv).mono ?_;rw[lK HT.o];rintro Z k ⟨rfl,i⟩;have j:c6 (RD M k R (.slice I l.length d) l f):=by show RD _ _ _ _ _ _;rw[i];exact r.o
   have u:c6 (wR k w.heap.size K0):=by show wR _ _ _;rw[i];exact P.o
   have y:c6 (Ch (fun x=>x=R) w k):=by show Ch _ _ _;rw[i];exact Ch.of_below (a8 _ _)
   clear i c0;go_wp2_with fail;refine(o8 j.o true 3).mono ?_;rintro Z w2 ⟨rfl,O,D⟩;have m:=b9 O;have g:=b9 (u.o.ch D s.o);have p:=b9 (y.o.self D);obtain⟨G,F,yz⟩:=g.o;have Y:=yz 0;have W:=yz 1;clear O D;go_wp2_with fail;refine bodyPost_ret (by simp[results,Tryz.results198,go_sem,G,F,K0]) rfl ⟨rfl,?_⟩;exact⟨⟨_,m.o.setV g.o s.o _ _⟩,cT p.o (Nat.le_refl _) _ _ _ _⟩
  ·have C:dL true l=⟨true,Wm.unw (l.take 8)⟩:=by unfold dL;rw[if_pos ⟨rfl,by omega⟩]
   have B:aK true l=l.drop 8:=by unfold aK;rw[if_pos ⟨rfl,by omega⟩]
   have A:T0 true l f=f:=by unfold T0;rw[if_neg (by omega)]
   obtain⟨X,Q⟩: ∃X,Wm.unw (l.take 8)=X:=⟨_,rfl⟩;have HT:c6 (Wm.takeW l=(X,0)):=by show _=_;rw[←Q];exact if_neg H
   rw[C,B,A,Q];have S:c6 (8≤l.length):=by show _≤_;omega
   have f0:(8:Int)≤(l.length:Int):=by omega
   have g0:(8:Int)≤(d:Int):=by omega
   clear C B A H Q;go_in;go_wp2_with fail;refine(qV r.o.bv).mono ?_;rw[lK HT.o];rintro Z k ⟨rfl,i⟩;have j:c6 (RD M k R (.slice I l.length d) l f):=by show RD _ _ _ _ _ _;rw[i];exact r.o
   have u:c6 (wR k w.heap.size K0):=by show wR _ _ _;rw[i];exact P.o
   have y:c6 (Ch (fun x=>x=R) w k):=by show Ch _ _ _;rw[i];exact Ch.of_below (a8 _ _)
   clear i c0;have d0:=j.o.c0;have dz:=j.o.z 0
   obtain⟨b,c,rfl⟩: ∃b c,I=some ⟨b,c,none⟩:=by
    rcases N6 j.o.bv with ⟨h0,_⟩|⟨b,c,cap',e,_⟩
    ·have:=S.o;rw[h0]at this;simp at this
    ·cases e;exact⟨b,c,rfl⟩
   by_cases N:d=8
   ·have L:l.length=8:=by have:=T.o;have:=S.o;omega
    have U:c6 (l.length≤8):=by show _≤_;omega
    have E:c6 (Bv k (.slice (some ⟨b,c,none⟩) (l.length-8) 0) (l.drop 8)):=by show Bv _ _ _;rw[L];exact bC U.o
    subst N;clear L;go_upto_region 8 with fail
    have m:=b9 (j.o.set0 E.o rfl);have p:c6 (Ch (fun x=>x=R) w (k.setCell ⟨R,0,none⟩ (.slice (some ⟨b,c,none⟩) (l.length-8) 0))):=y.o.self (k8 _ _ _ _);have g:c6 (wR (k.setCell ⟨R,0,none⟩ (.slice (some ⟨b,c,none⟩) (l.length-8) 0)) w.heap.size K0):=u.o.ch (k8 _ _ _ _) s.o;generalize k.setCell ⟨R,0,none⟩ (.slice (some ⟨b,c,none⟩) (l.length-8) 0)=w3 at m p g⊢;obtain⟨G,F,yz⟩:=g.o;have Y:=yz 0;have W:=yz 1;clear d0 dz;go_wp2_with fail;refine bodyPost_ret (by simp[results,Tryz.results198,go_sem,G,F]) rfl ⟨rfl,?_⟩;exact⟨⟨_,m.o.setV g.o s.o _ _⟩,cT p.o (Nat.le_refl _) _ _ _ _⟩
   ·have E:c6 (Bv k (.slice (some ⟨b,c+8,none⟩) (l.length-8) (d-8)) (l.drop 8)):=by
     have:=bD j.o.bv rfl 8 S.o N;have e:(some (⟨b,c,none⟩:Addr)).map (fun a=>a.add 8)=some ⟨b,c+8,none⟩:=by simp[WideShapes.add_plain]
     rw[e]at this;exact this
    go_upto_region 8 with fail
    have m:=b9 (j.o.set0 E.o rfl);have p:c6 (Ch (fun x=>x=R) w (k.setCell ⟨R,0,none⟩ (.slice (some ⟨b,c+8,none⟩) (l.length-8) (d-8)))):=y.o.self (k8 _ _ _ _);have g:c6 (wR (k.setCell ⟨R,0,none⟩ (.slice (some ⟨b,c+8,none⟩) (l.length-8) (d-8))) w.heap.size K0):=u.o.ch (k8 _ _ _ _) s.o;generalize k.setCell ⟨R,0,none⟩ (.slice (some ⟨b,c+8,none⟩) (l.length-8) (d-8))=w3 at m p g⊢;obtain⟨G,F,yz⟩:=g.o;have Y:=yz 0;have W:=yz 1;clear d0 dz;go_wp2_with fail;refine bodyPost_ret (by simp[results,Tryz.results198,go_sem,G,F]) rfl ⟨rfl,?_⟩;exact⟨⟨_,m.o.setV g.o s.o _ _⟩,cT p.o (Nat.le_refl _) _ _ _ _⟩
end
section
variable{M:Nat}

theorem CB.ch{D:n9}{w w':d9}{b:Nat}{c:Cl}(h:CB w b c)(hc:Ch D w w')(hd: ¬D b):CB w' b c:=
 ⟨hc.cell h.c0 hd,hc.cell h.c1 hd,hc.cell h.c2 hd,hc.cell h.c3 hd,hc.cell h.c4 hd,hc.cell h.c5 hd,fun j=>by rw[hc.frozen h.c0 hd];exact h.z j⟩
theorem CB.setP{w:d9}{b:Nat}{c:Cl}(h:CB w b c)(v:Vl):CB ((w.setCell ⟨b,1,none⟩ (.bool v.h)).setCell ⟨b,2,none⟩ (.int .u64 v.b)) b ⟨c.k,v,c.c,c.n⟩:=by
 obtain⟨i,g,f,e,d,a,z⟩:=h;constructor<;>simp[go_sem, *]
theorem CB.setC{w:d9}{b:Nat}{c:Cl}(h:CB w b c)(v:Vl):CB ((w.setCell ⟨b,3,none⟩ (.bool v.h)).setCell ⟨b,4,none⟩ (.int .u64 v.b)) b ⟨c.k,c.p,v,c.n⟩:=by
 obtain⟨i,g,f,e,d,a,z⟩:=h;constructor<;>simp[go_sem, *]
theorem CB.setN{w:d9}{b:Nat}{c:Cl}(h:CB w b c)(n:Int):CB (w.setCell ⟨b,5,none⟩ (.int .i64 n)) b ⟨c.k,c.p,c.c,n⟩:=by
 obtain⟨i,g,f,e,d,a,z⟩:=h;constructor<;>simp[go_sem, *]
theorem RD.set2{w:d9}{R B i j:Nat}{v:Value}{l:f7}{f:Nat}{u1 u2:Value}(h:RD M w R v l f)(hne:B≠R)(h1:w.cell? ⟨B,i,none⟩=some u1)(h2:w.cell? ⟨B,j,none⟩=some u2)(hij:i≠j)(n1: ∀x,u1≠ .int .u8 x)(n2: ∀x,u2≠ .int .u8 x)(x y:Value):
  RD M ((w.setCell ⟨B,i,none⟩ x).setCell ⟨B,j,none⟩ y) R v l f:=
 (h.setB hne h1 n1 _).setB hne (by rw[World.cell?_setCell_other _ _ _ _ (by rintro⟨⟩;exact hij rfl)];exact h2) n2 _
theorem Lq(h:Nat)(hh:h<256):bits .and .u8 (h:Int) 1=((h%2:Nat):Int):=by
 have:=u8_and_nat h 1 hh (by omega);simpa[Nat.and_one_is_mod]using this
theorem Jo: ∀a:Fin 256,a.val&&&2=a.val/2%2*2:=by decide+kernel
theorem Lp(h:Nat)(hh:h<256):bits .and .u8 (h:Int) 2=((h/2%2*2:Nat):Int):=by
 have:=u8_and_nat h 2 hh (by omega);have e:=Jo ⟨h,hh⟩;simp only at e;rw[e]at this;simpa using this
def Eh(l:f7):Bool:=decide (LJ (B1 l)%2=1)
def Eg(l:f7):Bool:=decide (LJ (B1 l)/2%2=1)
def PF(l:f7):f7:=YF (B1 l)
def PE(l:f7):f7:=aK (Eh l) (PF l)
def jQ(l:f7):f7:=aK (Eg l) (PE l)
def tB(l:f7):Cl:=⟨(Wm.take l).1,dL (Eh l) (PF l),dL (Eg l) (PE l),IntKind.i64.wrap ((Wm.take (jQ l)).1:Nat)⟩
def AD(o:Option Nat)(l:f7)(f:Nat):Nat:=
 G3 (decide (1099511627776<(Wm.take (jQ l)).1)) 4 (M8 (jQ l) (T0 (Eg l) (PE l) (T0 (Eh l) (PF l) (zJ (B1 l) (G3 (!N0 o (Wm.take l).1) 7 (M8 l f))))))
theorem TT{w:d9}{R:Nat}{v va:Value}{l:f7}{f:Nat}{q:List Cl}(h:RD M w R v l f)(hq: ∀w',Ch (fun x=>x=R) w w'→Cv w' va q):
  Calls Tryz.prog 163 #[.pointer (some ⟨R,0,none⟩),va] w fun e w'=>e= .returned (.agg #[.int .u64 (tB l).k,.bool (tB l).p.h,.int .u64 (tB l).p.b,.bool (tB l).c.h,.int .u64 (tB l).c.b,.int .i64 (tB l).n])∧(∃v',RD M w' R v' (B1 (jQ l)) (AD (x7 q) l f))∧Ch (fun x=>x=R) w w':=by
 obtain⟨w0,b0⟩:=c7 (w.alloc (Obj.cells #[.int .u64 0,.bool false,.int .u64 0,.bool false,.int .u64 0,.int .i64 0] 132));have X0:c6 (f8 w w0):=by show Below _ _ _;rw[b0];exact a8 _ _
 have x1:c6 (CB w0 w.heap.size j9):=by show CB _ _ _;rw[b0];exact B0 w j9
 have H1:=b9 (h.below X0.o);have S0:c6 (R<w.heap.size):=c8 h.c0;have HQ:c6 (∀w',Ch (fun x=>x=R) w w'→Cv w' va q):=hq;have U:=h.bv.2;obtain⟨K,hK⟩:=c7 ((Wm.take l).1);obtain⟨l1,C⟩:=c7 (B1 l);obtain⟨H,hH⟩:=c7 (LJ l1)
 have L:H<256:=by
  rw[hH,C];unfold LJ B1
  cases hd:l.drop (Wm.take l).2.1 with
  |nil=>simp
  |cons a r=>simp;exact U a (List.mem_of_mem_drop (by rw[hd];simp))
 have b1:=Lq H L;have a1:=Lp H L;clear h hq U L;obtain⟨P,hP⟩: ∃P:Bool,P=decide (H%2=1):=⟨_,rfl⟩;obtain⟨Q,hQ⟩: ∃Q:Bool,Q=decide (H/2%2=1):=⟨_,rfl⟩
 have Z0:((((H%2:Nat):Int)) !=0)=P:=by
  rw[hP];by_cases hh:H%2=1
  ·rw[hh];rfl
  ·rw[show H%2=0 from by omega];rfl
 have Y0:((((H/2%2*2:Nat):Int)) !=0)=Q:=by
  rw[hQ];by_cases hh:H/2%2=1
  ·rw[hh];rfl
  ·rw[show H/2%2=0 from by omega];rfl
 obtain⟨A1,Q1⟩: ∃A1,bits .and .u8 (H:Int) 1=A1:=⟨_,rfl⟩;obtain⟨A2,P1⟩: ∃A2,bits .and .u8 (H:Int) 2=A2:=⟨_,rfl⟩;have S1:(A1 !=0)=P:=by rw[←Q1,b1];exact Z0
 have R1:(A2 !=0)=Q:=by rw[←P1,a1];exact Y0
 clear b1 a1 Z0 Y0;obtain⟨l2,J⟩:=c7 (YF l1);obtain⟨l3,I⟩:=c7 (aK P l2);obtain⟨l4,F⟩:=c7 (aK Q l3);obtain⟨N,hN⟩:=c7 ((Wm.take l4).1);obtain⟨Z,hZ⟩:=c7 (IntKind.i64.wrap (N:Int));have eX:tB l=⟨K,dL P l2,dL Q l3,Z⟩:=by subst hZ hN F I J hP hQ hH C hK;rfl
 have eL:B1 (jQ l)=B1 l4:=by subst F I J hP hQ hH C;rfl
 obtain⟨f1,F0⟩:=c7 (M8 l f);obtain⟨G,hG⟩:=c7 (N0 (x7 q) K);obtain⟨f2,D0⟩:=c7 (G3 (!G) 7 f1);obtain⟨f3,C0⟩:=c7 (zJ l1 f2);obtain⟨f4,A0⟩:=c7 (T0 P l2 f3);obtain⟨f5,z0⟩:=c7 (T0 Q l3 f4);obtain⟨f6,y0⟩:=c7 (M8 l4 f5);have eF:AD (x7 q) l f=G3 (decide (1099511627776<N)) 4 f6:=by subst y0 z0 A0 C0 D0 hG F0 hN F I J hP hQ hH C hK;rfl
 rw[eX,eL,eF];obtain⟨Y,H0⟩:=c7 (dL P l2);obtain⟨X,G0⟩:=c7 (dL Q l3);rw[←H0,←G0];obtain⟨T,hT⟩: ∃T:Bool,T=decide (1099511627776<N):=⟨_,rfl⟩;rw[←hT]
 have U1:decide ((1099511627776:Int)<(N:Int))=T:=by
  rw[hT];by_cases hh:1099511627776<N
  ·rw[decide_eq_true hh,decide_eq_true (by omega)]
  ·rw[decide_eq_false hh,decide_eq_false (by omega)]
 have HE:c6 (K=(Wm.take l).1∧l1=B1 l∧H=LJ l1∧l2=YF l1∧l3=aK P l2∧l4=aK Q l3∧N=(Wm.take l4).1∧Y=dL P l2∧X=dL Q l3):=⟨hK,C,hH,J,I,F,hN,H0,G0⟩;have y:c6 (f1=M8 l f∧G=N0 (x7 q) K∧f2=G3 (!G) 7 f1∧f3=zJ l1 f2∧f4=T0 P l2 f3∧f5=T0 Q l3 f4∧f6=M8 l4 f5):=⟨F0,hG,D0,C0,A0,z0,y0⟩;have T1:=hZ.symm;clear hK C hH J I F hN H0 G0 F0 hG D0 C0 A0 z0 y0 eX eL eF hP hQ hZ hT;go_in;go_upto_region 1 with fail
 rw[←b0];clear b0;have O1:c6 (Ch (fun x=>x=R) w w0):=Ch.of_below X0.o;clear X0;go_wp2_with fail;refine(gZ H1.o).mono ?_;rw[←HE.o.1,←HE.o.2.1,←y.o.1];rintro e9 E ⟨rfl,⟨v1,o1⟩,I0⟩;have G1:c6 (RD M E R v1 l1 f1):=o1;have O0:c6 (CB E w.heap.size j9):=x1.o.ch I0 (by have:=S0.o;omega);have N1:c6 (Ch (fun x=>x=R) w E):=O1.o.self I0;clear o1 I0 x1 O1 H1;go_upto_region 2 with fail
 have u:c6 (CB (E.alloc (Obj.cells #[.int .u64 K,.bool false,.int .u64 0,.bool false,.int .u64 0,.int .i64 0] 132)) E.heap.size ⟨K,K0,K0,0⟩):=B0 E ⟨K,K0,K0,0⟩;have R0:c6 (RD M (E.alloc (Obj.cells #[.int .u64 K,.bool false,.int .u64 0,.bool false,.int .u64 0,.int .i64 0] 132)) R v1 l1 f1):=G1.o.below (a8 _ _);have M0:c6 (CB (E.alloc (Obj.cells #[.int .u64 K,.bool false,.int .u64 0,.bool false,.int .u64 0,.int .i64 0] 132)) w.heap.size j9):=O0.o.keep (a8 _ _);have m0:c6 (Ch (fun x=>x=R) w (E.alloc (Obj.cells #[.int .u64 K,.bool false,.int .u64 0,.bool false,.int .u64 0,.int .i64 0] 132))):=N1.o.self (Ch.of_below (a8 _ _));have W0:c6 (w.heap.size<E.heap.size):=c8 O0.o.c0;obtain⟨B,hB⟩:=c7 E.heap.size;generalize E.alloc (Obj.cells #[.int .u64 K,.bool false,.int .u64 0,.bool false,.int .u64 0,.int .i64 0] 132)=w2 at u R0 M0 m0⊢;rw[←hB]at u W0⊢;have g:c6 (B≠R):=by have h1:=S0.o;have h2:=W0.o;show _≠_;omega
 have d:c6 (w.heap.size≠R):=by have h1:=S0.o;show _≠_;omega
 have D:c6 (w.heap.size≤B∧w.heap.size≠B):=by have h2:=W0.o;exact⟨by omega,by omega⟩
 clear hB G1 O0 N1;have k0:=u.o.c0;go_wp2_with fail;refine(W2 (HQ.o _ m0.o) K).mono ?_;rw[←y.o.2.1];rintro e9 w3 ⟨rfl,rfl⟩;go_wp2_with fail;refine(o8 R0.o (!G) 7).mono ?_;rw[←y.o.2.2.1];rintro e9 w3 ⟨rfl,n1,l0⟩;have F1:=b9 n1;have t0:=b9 (u.o.ch l0 g.o);have t1:=b9 (M0.o.ch l0 d.o);have M1:=b9 (m0.o.self l0);clear n1 l0 R0 u M0 m0 k0;go_wp2_with fail;refine(TJ F1.o).mono ?_;rw[←HE.o.2.2.1,←HE.o.2.2.2.1,←y.o.2.2.2.1];rintro e9 w4 ⟨rfl,⟨v4,m1⟩,h0⟩;have D1:=b9 m1;have s0:=b9 (t0.o.ch h0 g.o);have s1:=b9 (t1.o.ch h0 d.o);have L1:=b9 (M1.o.self h0);clear m1 h0 F1 t0 t1 M1;go_wp2_with fail;refine(qQ D1.o P).mono ?_;rw[←HE.o.2.2.2.2.1,←HE.o.2.2.2.2.2.2.2.1,←y.o.2.2.2.2.1];rintro e9 w5 ⟨rfl,⟨v5,k1⟩,g0⟩;have C1:=b9 k1;have t:=b9 (s0.o.ch g0 g.o);have r1:=b9 (s1.o.ch g0 d.o);have K1:=b9 (L1.o.self g0);clear k1 g0 D1 s0 s1 L1;obtain⟨j0,j1,j2,j3,j4,j5,jz⟩:=t.o;go_upto_region 5 with fail
 have S:=b9 (t.o.setP Y);have Q0:c6 (RD M ((w5.setCell ⟨B,1,none⟩ (.bool Y.h)).setCell ⟨B,2,none⟩ (.int .u64 Y.b)) R v5 l3 f4):=C1.o.set2 g.o t.o.c1 t.o.c2 (by omega) (by intro x e;cases e) (by intro x e;cases e) _ _;have L0:c6 (CB ((w5.setCell ⟨B,1,none⟩ (.bool Y.h)).setCell ⟨B,2,none⟩ (.int .u64 Y.b)) w.heap.size j9):=r1.o.ch ((k8 _ _ _ _).self (k8 _ _ _ _)) D.o.2;have V0:c6 (Ch (fun x=>x=R) w ((w5.setCell ⟨B,1,none⟩ (.bool Y.h)).setCell ⟨B,2,none⟩ (.int .u64 Y.b))):=cT K1.o D.o.1 _ _ _ _;generalize ((w5.setCell ⟨B,1,none⟩ (.bool Y.h)).setCell ⟨B,2,none⟩ (.int .u64 Y.b))=w6 at S Q0 L0 V0⊢;clear C1 t r1 K1 j0 j1 j2 j3 j4 j5 jz;go_wp2_with fail;refine(qQ Q0.o Q).mono ?_;rw[←HE.o.2.2.2.2.2.1,←HE.o.2.2.2.2.2.2.2.2,←y.o.2.2.2.2.2.1];rintro e9 w7 ⟨rfl,⟨v7,g1⟩,f0⟩;have z1:=b9 g1;have s:=b9 (S.o.ch f0 g.o);have q1:=b9 (L0.o.ch f0 d.o);have J1:=b9 (V0.o.self f0);clear g1 f0 Q0 S L0 V0;obtain⟨j0,j1,j2,j3,j4,j5,jz⟩:=s.o;go_upto_region 6 with fail
 have O:=b9 (s.o.setC X);have P0:c6 (RD M ((w7.setCell ⟨B,3,none⟩ (.bool X.h)).setCell ⟨B,4,none⟩ (.int .u64 X.b)) R v7 l4 f5):=z1.o.set2 g.o s.o.c3 s.o.c4 (by omega) (by intro x e;cases e) (by intro x e;cases e) _ _;have J0:c6 (CB ((w7.setCell ⟨B,3,none⟩ (.bool X.h)).setCell ⟨B,4,none⟩ (.int .u64 X.b)) w.heap.size j9):=q1.o.ch ((k8 _ _ _ _).self (k8 _ _ _ _)) D.o.2;have U0:c6 (Ch (fun x=>x=R) w ((w7.setCell ⟨B,3,none⟩ (.bool X.h)).setCell ⟨B,4,none⟩ (.int .u64 X.b))):=cT J1.o D.o.1 _ _ _ _;generalize ((w7.setCell ⟨B,3,none⟩ (.bool X.h)).setCell ⟨B,4,none⟩ (.int .u64 X.b))=w8 at O P0 J0 U0⊢;clear z1 s q1 J1 j0 j1 j2 j3 j4 j5 jz;go_wp2_with fail;refine(gZ P0.o).mono ?_;rw[←HE.o.2.2.2.2.2.2.1,←y.o.2.2.2.2.2.2];rintro e9 w9 ⟨rfl,⟨v9,d1⟩,d0⟩;have y1:=b9 d1;have r0:=b9 (O.o.ch d0 g.o);have p1:=b9 (J0.o.ch d0 d.o);have I1:=b9 (U0.o.self d0);clear d1 d0 P0 O J0 U0;go_wp2_with fail;refine(o8 y1.o T 4).mono ?_;rintro e9 a0 ⟨rfl,n0,z⟩;have q0:=b9 n0;have m:=b9 (r0.o.ch z g.o);have o0:=b9 (p1.o.ch z d.o);have x0:=b9 (I1.o.self z);clear n0 z y1 r0 p1 I1;obtain⟨j0,j1,j2,j3,j4,j5,jz⟩:=m.o;go_upto_region 9 with fail
 have W:=b9 (m.o.setN Z);have p0:c6 (RD M (a0.setCell ⟨B,5,none⟩ (.int .i64 Z)) R v9 (B1 l4) (G3 T 4 f6)):=q0.o.setB g.o m.o.c5 (by intro x e;cases e) _;have A:c6 (CB (a0.setCell ⟨B,5,none⟩ (.int .i64 Z)) w.heap.size j9):=o0.o.ch (k8 _ _ _ _) D.o.2;have v0:c6 (Ch (fun x=>x=R) w (a0.setCell ⟨B,5,none⟩ (.int .i64 Z))):=x0.o.trans (k8 _ _ _ _) (fun x hx=>by subst hx;exact .inr D.o.1);generalize (a0.setCell ⟨B,5,none⟩ (.int .i64 Z))=w11 at W p0 A v0⊢;clear q0 m o0 x0 j0 j1 j2 j3 j4 j5 jz;obtain⟨j0,j1,j2,j3,j4,j5,jz⟩:=W.o;obtain⟨i0,i1,i2,i3,i4,i5,iz⟩:=A.o;go_wp2_with fail;refine bodyPost_ret (by simp[results,Tryz.results163,go_sem,i0,i1,i2,i3,i4,i5]) rfl ⟨rfl,?_⟩;exact⟨⟨v9,(((p0.o.set2 d.o A.o.c0 A.o.c1 (by omega) (by intro x e;cases e) (by intro x e;cases e) _ _).set2 (i:=2) (j:=3) d.o (by simp[go_sem,i2,j9,K0]) (by simp[go_sem,i3,j9,K0]) (by omega) (u1:= .int .u64 0) (u2:= .bool false) (by intro x e;cases e) (by intro x e;cases e) _ _).set2 (i:=4) (j:=5) d.o (by simp[go_sem,i4,j9,K0]) (by simp[go_sem,i5,j9,K0]) (by omega) (u1:= .int .u64 0) (u2:= .int .i64 0) (by intro x e;cases e) (by intro x e;cases e) _ _)⟩,cT (cT (cT v0.o (Nat.le_refl _) _ _ _ _) (Nat.le_refl _) _ _ _ _) (Nat.le_refl _) _ _ _ _⟩
end
theorem mL{l:f7}{f:Nat}(h:f≠0):M8 l f=f:=y7 h
theorem ET{l:f7}{f:Nat}(h:f≠0):zJ l f=f:=by
 cases l
 ·exact y7 h
 ·exact y7 h
theorem gD{t:Bool}{l:f7}{f:Nat}(h:f≠0):T0 t l f=f:=by
 unfold T0;split
 ·exact y7 h
 ·rfl
theorem dP{e:Nat}{g:Bool}(h:g=true):G3 g e 0=e:=by rw[h];exact aC e
theorem bQ{e f:Nat}{g:Bool}(h:g=false):G3 g e f=f:=by rw[h];exact Z6 e f
theorem Ig{e:Nat}(h:e≠0)(g t u:Bool)(a b c:f7):G3 g 4 (M8 c (T0 u b (T0 t a e)))=e:=by
 rw[gD h,gD h,mL h,y7 h]
theorem MV(t:Bool)(l:f7):T0 t l 0=(I3 t l).1∧((I3 t l).1=0→dL t l=(I3 t l).2.1∧aK t l=(I3 t l).2.2):=by
 unfold T0 dL aK I3
 cases t
 ·simp
 ·by_cases h:l.length<8
  ·simp[h,aC]
  ·have:8≤l.length:=by omega
   simp[h,this]
theorem Bs(k h:Nat)(r:f7)(h3:h≤3):
  G3 (decide (1099511627776<(Wm.take (aK (decide (h/2%2=1)) (aK (decide (h%2=1)) r))).1)) 4 (M8 (aK (decide (h/2%2=1)) (aK (decide (h%2=1)) r)) (T0 (decide (h/2%2=1)) (aK (decide (h%2=1)) r) (T0 (decide (h%2=1)) r 0)))=(fU k h r).1∧
  ((fU k h r).1=0→(⟨k,dL (decide (h%2=1)) r,dL (decide (h/2%2=1)) (aK (decide (h%2=1)) r),IntKind.i64.wrap ((Wm.take (aK (decide (h/2%2=1)) (aK (decide (h%2=1)) r))).1:Nat)⟩:Cl)=(fU k h r).2.1∧B1 (aK (decide (h/2%2=1)) (aK (decide (h%2=1)) r))=(fU k h r).2.2):=by
 have s:decide (h/2%2=1)=decide (2≤h):=by congr 1;simp only[eq_iff_iff];omega
 rw[s];unfold fU;obtain⟨j,q⟩:=MV (decide (h%2=1)) r;by_cases a:(I3 (decide (h%2=1)) r).1=0
 ·rw[if_neg (by omega)];obtain⟨p,o⟩:=q a;rw[j,a,p,o];obtain⟨i,n⟩:=MV (decide (2≤h)) (I3 (decide (h%2=1)) r).2.2;by_cases c:(I3 (decide (2≤h)) (I3 (decide (h%2=1)) r).2.2).1=0
  ·rw[if_neg (by omega)];obtain⟨m,l⟩:=n c;rw[i,c,m,l];obtain⟨b,g⟩:=c7 ((I3 (decide (2≤h)) (I3 (decide (h%2=1)) r).2.2).2.2);rw[←g];unfold mF;by_cases d:(Wm.take b).2.2=0
   ·rw[if_neg (by omega)];have f:M8 b 0=0:=bQ (by simp[d]);rw[f];by_cases e:1099511627776<(Wm.take b).1
    ·rw[if_pos e];exact⟨dP (by simp[e]),fun h=>by simp at h⟩
    ·rw[if_neg e];refine⟨bQ (by simp[e]),fun _=>⟨?_,rfl⟩⟩;have:IntKind.i64.wrap ((Wm.take b).1:Nat)=((Wm.take b).1:Int):=by rw[IntKind.wrap_i64];omega
     rw[this]
   ·rw[if_pos d];have f:M8 b 0=(Wm.take b).2.2:=dP (by simp[d]);rw[f];exact⟨y7 d,fun h=>absurd h d⟩
  ·rw[if_pos c,i];refine⟨?_,fun h=>absurd h c⟩;rw[mL c,y7 c]
 ·rw[if_pos a,j];refine⟨?_,fun h=>absurd h a⟩;rw[gD a,mL a,y7 a]
theorem Ef(o:Option Nat)(l:f7):AD o l 0=(L3 o l).1∧((L3 o l).1=0→tB l=(L3 o l).2.1∧B1 (jQ l)=(L3 o l).2.2):=by
 unfold L3;by_cases a:(Wm.take l).2.2=0
 ·rw[if_neg (by omega)];have d:M8 l 0=0:=bQ (by simp[a]);by_cases c:N0 o (Wm.take l).1=false
  ·rw[if_pos c];refine⟨?_,fun h=>by simp at h⟩;have g:G3 (!N0 o (Wm.take l).1) 7 (M8 l 0)=7:=by rw[d,c];rfl
   unfold AD;rw[g,ET (f:=7) (by omega)];exact Ig (by omega) _ _ _ _ _ _
  ·have i:N0 o (Wm.take l).1=true:=by simpa using c
   rw[if_neg c];have g:G3 (!N0 o (Wm.take l).1) 7 (M8 l 0)=0:=by rw[d,i];rfl
   unfold AD tB jQ PE Eg Eh PF;rw[g];have m:l.drop (Wm.take l).2.1=B1 l:=rfl;rw[m]
   cases hd:B1 l with
   |nil=>
    refine⟨?_,fun h=>by simp[pU]at h⟩;have:zJ [] 0=3:=rfl;rw[this];exact Ig (e:=3) (by omega) _ _ _ _ _ _
   |cons h r=>
    have j:LJ (h::r)=h:=rfl;have k:YF (h::r)=r:=rfl;rw[j,k];simp only[pU];by_cases b:3<h
    ·rw[if_pos b];refine⟨?_,fun h=>by simp at h⟩;have:zJ (h::r) 0=4:=dP (by simp[b]);rw[this];exact Ig (e:=4) (by omega) _ _ _ _ _ _
    ·rw[if_neg b];have:zJ (h::r) 0=0:=bQ (by simp[b]);rw[this];exact Bs _ h r (by omega)
 ·rw[if_pos a];refine⟨?_,fun h=>absurd h a⟩;have d:M8 l 0=(Wm.take l).2.2:=dP (by simp[a]);unfold AD;rw[d,y7 a,ET a,gD a,gD a,mL a,y7 a]
end Go.Proofs.YtfhoilcbhmeofaaGreat
