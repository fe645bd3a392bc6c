/- Word, TakeWord and their references. -/
import Derived.Test.YtfhoilcbhmeofaaGreatB05
set_option maxRecDepth 100000
set_option maxHeartbeats 16000000
namespace Go.Proofs.YtfhoilcbhmeofaaGreat
open Go.RowKit
def W6(c:Cl):List Value:=[.int .u64 c.k,.bool c.p.h,.int .u64 c.p.b,.bool c.c.h,.int .u64 c.c.b,.int .i64 c.n]
def l9(l:List Cl):List Value:=l.flatMap W6
theorem bE(c:Cl):(W6 c).length=6:=rfl
theorem iY(l:List Cl):(l9 l).length=l.length*6:=by
 induction l with
 |nil=>rfl
 |cons c r a=>simp only[l9,List.flatMap_cons,List.length_append,List.length_cons]at a⊢;rw[a,bE];omega
theorem G4(l r:List Cl):l9 (l++r)=l9 l++l9 r:=by simp[l9]
theorem vW(c:Cl):l9 [c]=W6 c:=by simp[l9]
theorem oL(l:List Cl)(i j:Nat)(hi:i<l.length)(hj:j<6):(l9 l)[i*6+j]?=(W6 l[i])[j]?:=by
 induction l generalizing i with
 |nil=>simp at hi
 |cons c r a=>
  have e:l9 (c::r)=W6 c++l9 r:=rfl;rw[e]
  cases i with
  |zero=>rw[List.getElem?_append_left (by rw[bE];omega)];simp
  |succ i=>
   rw[List.getElem?_append_right (by rw[bE];omega),bE,show(i+1)*6+j-6=i*6+j from by omega,a i (by simpa using hi)];simp
theorem kM{l:List Cl}{u:Value}(h:u∈l9 l):u.oneCell'=true:=by
 simp only[l9,List.mem_flatMap]at h;obtain⟨c,_,a⟩:=h;simp only[W6,List.mem_cons,List.not_mem_nil,or_false]at a;rcases a with rfl|rfl|rfl|rfl|rfl|rfl<;>rfl
abbrev Cv(w:d9)(v:Value)(l:List Cl):Prop:=Gv w v 6 W6 l
theorem Cv.below{w w':d9}{v:Value}{l:List Cl}(h:Cv w v l)(hb:f8 w w'):Cv w' v l:=by
 obtain⟨g,a,e,f,d,c,b⟩:=h;exact⟨g,a,e,f,d,c,b.below bE hb⟩
theorem Cv.form{w:d9}{v:Value}{l:List Cl}(h:Cv w v l): ∃ao cap,v= .slice ao l.length cap:=by
 obtain⟨ao,cap,e,_⟩:=h;exact⟨ao,cap,e⟩
theorem Cv.nil(w:d9):Cv w (.slice none 0 0) []:=⟨none,0,rfl,by simp,by simp[maxLen],by simp,fun i hi=>by simp at hi⟩
theorem Cv.len_le{w:d9}{v:Value}{l:List Cl}(h:Cv w v l):l.length≤maxLen:=by
 obtain⟨d,a,e,c,b,_⟩:=h;omega
structure CA(w:d9)(b o:Nat)(c:Cl):Prop where
 c0:w.cell? ⟨b,o,none⟩=some (.int .u64 c.k)
 c1:w.cell? ⟨b,o+1,none⟩=some (.bool c.p.h)
 c2:w.cell? ⟨b,o+2,none⟩=some (.int .u64 c.p.b)
 c3:w.cell? ⟨b,o+3,none⟩=some (.bool c.c.h)
 c4:w.cell? ⟨b,o+4,none⟩=some (.int .u64 c.c.b)
 c5:w.cell? ⟨b,o+5,none⟩=some (.int .i64 c.n)
theorem CA.below{w w':d9}{b o B:Nat}{c:Cl}(h:CA w b o c)(hb:Below B w w')(hl:b<B):CA w' b o c:=
 ⟨by rw[hb.cell (p:=⟨b,o,none⟩) hl];exact h.c0,by rw[hb.cell (p:=⟨b,o+1,none⟩) hl];exact h.c1,by rw[hb.cell (p:=⟨b,o+2,none⟩) hl];exact h.c2,by rw[hb.cell (p:=⟨b,o+3,none⟩) hl];exact h.c3,by rw[hb.cell (p:=⟨b,o+4,none⟩) hl];exact h.c4,by rw[hb.cell (p:=⟨b,o+5,none⟩) hl];exact h.c5⟩
theorem CA.lt{w:d9}{b o:Nat}{c:Cl}(h:CA w b o c):b<w.heap.size:=c8 h.c0
theorem CA.keep{w w':d9}{b o:Nat}{c:Cl}(h:CA w b o c)(hb:f8 w w'):CA w' b o c:=h.below hb h.lt
theorem B2{w:d9}{v:Value}{l:List Cl}(h:Cv w v l):
  (l=[]∧ ∃ao cap,v= .slice ao 0 cap)∨ ∃b off cap,v= .slice (some ⟨b,off,none⟩) l.length cap∧0<l.length∧l.length≤cap∧cap≤maxLen∧
   ∀i,(hi:i<l.length)→CA w b (off+i*6) l[i]:=by
 obtain⟨ao,cap,rfl,g,f,k,d⟩:=h;by_cases e:l=[]
 ·subst e;exact .inl ⟨rfl,ao,cap,rfl⟩
 ·have c:=List.length_pos_iff.2 e;obtain⟨b,off,rfl,_⟩:=d 0 c;refine .inr ⟨b,off,cap,rfl,c,g,f,fun i hi=>?_⟩;obtain⟨b',off',j,a⟩:=d i hi
  cases j
  exact⟨by simpa[W6,Nat.add_assoc]using a 0 (by omega),by simpa[W6,Nat.add_assoc]using a 1 (by omega),by simpa[W6,Nat.add_assoc]using a 2 (by omega),by simpa[W6,Nat.add_assoc]using a 3 (by omega),by simpa[W6,Nat.add_assoc]using a 4 (by omega),by simpa[W6,Nat.add_assoc]using a 5 (by omega)⟩
theorem FV{w:d9}{b off cap:Nat}{l:List Cl}(h1:l.length≤cap)(h2:cap≤maxLen)(h: ∀i,(hi:i<l.length)→CA w b (off+i*6) l[i]):Cv w (.slice (some ⟨b,off,none⟩) l.length cap) l:=by
 refine⟨_,cap,rfl,h1,h2,by simp,fun i hi=>⟨b,off,rfl,fun j k=>?_⟩⟩;obtain⟨g,f,e,d,c,a⟩:=h i hi;have:j=0∨j=1∨j=2∨j=3∨j=4∨j=5:=by omega
 rcases this with rfl|rfl|rfl|rfl|rfl|rfl
 ·simpa[W6,Nat.add_assoc]using g
 ·simpa[W6,Nat.add_assoc]using f
 ·simpa[W6,Nat.add_assoc]using e
 ·simpa[W6,Nat.add_assoc]using d
 ·simpa[W6,Nat.add_assoc]using c
 ·simpa[W6,Nat.add_assoc]using a
theorem Cv.at{w:d9}{b off n cap:Nat}{l:List Cl}(h:Cv w (.slice (some ⟨b,off,none⟩) n cap) l)(i:Nat)(hi:i<l.length):CA w b (off+i*6) l[i]:=by
 rcases B2 h with ⟨rfl,_⟩|⟨b',off',cap',e,_,_,_,a⟩
 ·simp at hi
 ·cases e;exact a i hi
theorem cX{w:d9}{base e n:Nat}{v:Value}{l:List Cl}(h:w.ownsRow base e 6 v n (l9 l)):Cv w v l∧n=l.length:=by
 obtain⟨q,p⟩:=h;rw[iY]at q;have f:n=l.length:=by omega
 subst f;refine⟨?_,rfl⟩;rcases p with ⟨rfl,r⟩|⟨g,d,cur,rfl,t,o,b,c,s,a⟩
 ·have:l=[]:=List.eq_nil_of_length_eq_zero r;subst this;exact Cv.nil w
 ·refine⟨_,d,rfl,b,c,by simp,fun i m=>⟨g,0,rfl,fun j k=>?_⟩⟩;rw[Nat.zero_add,cell_of_row w g (i*6+j) cur e (0,0) o,←oL l i j m k,←a,List.getElem?_take,if_pos (by omega),Array.getElem?_toList]
theorem Ei{cap lo:Nat}{c:Prop} [Decidable c](hc:c↔cap=lo){ao:Option Addr}(h3:ao=none→cap=0)(hn:(if c then ao else ao.map (·.add (lo*6)))=none):cap-lo=0:=by
 by_cases a:c
 ·have:=hc.1 a;omega
 ·rw[if_neg a]at hn
  cases ao with
  |none=>have:=h3 rfl;omega
  |some p=>simp at hn
theorem Cv.cut{w:d9}{ao:Option Addr}{cap:Nat}{l:List Cl}(h:Cv w (.slice ao l.length cap) l)(lo hi:Nat)(hlh:lo≤hi)(hh:hi≤l.length)(c:Prop) [Decidable c](hc:c↔cap=lo):
  Cv w (.slice (if c then ao else ao.map (·.add (lo*6))) (hi-lo) (cap-lo)) ((l.drop lo).take (hi-lo)):=by
 obtain⟨ao',cap',e,q,p,n,m⟩:=h;simp only[Value.slice.injEq]at e;obtain⟨rfl,_,rfl⟩:=e;refine⟨if c then ao else ao.map (·.add (lo*6)),cap-lo,?_,?_,by omega,Ei hc n,?_⟩
 ·simp;omega
 ·simp;omega
 ·intro i f;have o:i<hi-lo:=by simp at f;omega
  obtain⟨b,a,e,d⟩:=m (lo+i) (by omega);subst e;refine⟨b,a+lo*6,?_,fun j k=>?_⟩
  ·rw[if_neg (fun g=>by have:=hc.1 g;omega)];simp[WideShapes.add_plain]
  ·have:=d j k;rw[show a+lo*6+(i*6+j)=a+((lo+i)*6+j)from by omega,this];simp
theorem Cv.upto{w:d9}{ao:Option Addr}{n cap:Nat}{l:List Cl}(h:Cv w (.slice ao n cap) l)(hi:Nat)(hh:hi≤l.length):Cv w (.slice ao hi cap) (l.take hi):=by
 obtain⟨ao',cap',e,p,m,k,g⟩:=h;simp only[Value.slice.injEq]at e;obtain⟨rfl,_,rfl⟩:=e;refine⟨ao,cap,by simp;omega,by simp;omega,m,k,fun i d=>?_⟩;have o:i<hi:=by simp at d;omega
 obtain⟨b,c,e,a⟩:=g i (by omega);exact⟨b,c,e,fun j f=>by rw[a j f];simp⟩
theorem Cv.from{w:d9}{ao:Option Addr}{cap:Nat}{l:List Cl}(h:Cv w (.slice ao l.length cap) l)(lo:Nat)(hlo:lo≤l.length)(hne: ¬cap=lo):Cv w (.slice (ao.map (·.add (lo*6))) (l.length-lo) (cap-lo)) (l.drop lo):=by
 have:=h.cut lo l.length hlo (Nat.le_refl _) False (by simp[hne]);rw[List.take_of_length_le (by rw[List.length_drop];omega)]at this;simpa using this
theorem Cv.void{w:d9}{ao:Option Addr}{l:List Cl}{lo:Nat}(h:l.length≤lo):Cv w (.slice ao 0 0) (l.drop lo):=by
 rw[List.drop_eq_nil_of_le h];exact⟨ao,0,rfl,by simp,by simp[maxLen],by simp,fun i a=>by simp at a⟩
theorem vN:(Tryz.prog.info? 132).map (fun i=>(i.zero,i.size,i.bytes))=some (some (.agg #[.int .u64 0,.bool false,.int .u64 0,.bool false,.int .u64 0,.int .i64 0]),6,48):=by kernel_rfl
theorem aY{P:Program}{e:TypeId}{z:Option Value}{s b:Nat}(h:(P.info? e).map (fun i=>(i.zero,i.size,i.bytes))=some (z,s,b)): ∃i,P.info? e=some i∧i.zero=z∧i.size=s∧i.bytes=b:=by
 cases hi:P.info? e with
 |none=>rw[hi]at h;cases h
 |some i=>
  rw[hi]at h;simp at h;exact⟨i,rfl,h.1,h.2.1,h.2.2⟩
theorem GP{w:d9}{b off:Nat}{l:List Cl}(h: ∀i,(hi:i<l.length)→ ∀j,j<6→w.cell? ⟨b,off+(i*6+j),none⟩=(W6 l[i])[j]?)(j:Nat)(u:Value)(hj:(l9 l)[j]?=some u):w.cell? ((⟨b,off,none⟩:Addr).add j)=some u:=by
 have a:j<l.length*6:=by
  rcases Nat.lt_or_ge j (l9 l).length with h|h
  ·rwa [iY]at h
  ·rw[List.getElem?_eq_none h]at hj;cases hj
 have e:j=j/6*6+j%6:=by omega
 have hi:j/6<l.length:=by omega
 rw[WideShapes.add_plain];show w.cell? ⟨b,off+j,none⟩=some u;rw[e,h _ hi _ (by omega),←oL l _ _ hi (by omega),←e,hj]
theorem i9{w:d9}{ops:Array Oper}{rest:List Oper}{o:Oper}{a:Act}{Q:Exit→Act→d9→Prop}(hgd:o.guard=none)(s x:Operand)
  (ho:o.op= .call {callee:= .builtin .append,args:= #[s,x],argTypes:= #[65,65]})
  (base:Nat) (v:Value) (n:Nat) (xs:List Value) (hs:a.eval s=v) (hown:w.ownsRow base 132 6 v n xs)
  (y:Value) (l:List Cl) (hx:a.eval x=y) (hy:Cv w y l)
  (h63:n+l.length≤maxLen) (hbytes:(n+l.length)*48≤140737488355328) (hbase:base≤w.heap.size)
  (h: ∀v' w',w'.ownsRow base 132 6 v' (n+l.length) (xs++l9 l)→w.grownBy w' v.ownBlock→wpList Tryz.prog ops Q rest (a.put o.dst v') w'):wpList Tryz.prog ops Q (o::rest) a w:=by
 obtain⟨i0,g,q,m,k⟩:=aY vN;obtain⟨G,t,rfl,J,I,d,c⟩:=hy
 cases G with
 |none=>
  obtain rfl:=d rfl;have r:l.length=0:=by omega
  have B:=List.eq_nil_of_length_eq_zero r;subst B;refine wpList_append_own_none hgd s x 65 ho base 132 i0 6 Tryz.underlying65 g v n xs hs hown hx ?_;exact h v w (by simpa[l9]using hown) ⟨rfl,rfl,rfl,Nat.le_refl _,fun _ _ _=>rfl⟩
 |some p=>
  refine wpList_append_own w hgd s x 65 ho base 132 i0 (.agg #[.int .u64 0,.bool false,.int .u64 0,.bool false,.int .u64 0,.int .i64 0]) 6 48 Tryz.underlying65 g q m k rfl (by decide) v n xs hs hown p l.length t (l9 l) hx (iY l) ?_ (fun u A=>kM A) h63 hbytes hbase
   (fun v' w' D C _=>h v' w' D C)
  by_cases z:l=[]
  ·subst z;intro j u f;simp[l9]at f
  ·obtain⟨b,H,e,_⟩:=c 0 (List.length_pos_iff.2 z)
   cases e
   exact fun j u f=>GP (fun i g j f=>by obtain⟨b',off',F,E⟩:=c i g;cases F;exact E j f) j u f
theorem g9{B:Nat}{w w':d9}{v:Value}{e n s:Nat}{xs:List Value}(hown:w.ownsRow B e s v n xs)(hg:w.grownBy w' v.ownBlock)(hB:B≤w.heap.size):Below B w w':=
 (Below.refl B w).grown hg hB (fun k hk=>(hown.lt k hk).1)
theorem CB.keep{w w':d9}{b:Nat}{c:Cl}(h:CB w b c)(hb:f8 w w'):CB w' b c:=h.below hb (c8 h.c0)
section
open Ieee Go.RowKit

theorem zR(n:Nat)(v u:Vl)(h:v≠u)(w:d9):(Op.equalIn (n+1+1) 55 (.agg #[.bool v.h,.int .u64 v.b]) (.agg #[.bool u.h,.int .u64 u.b])).run Tryz.prog w= .ok false w:=by
 have u0:=Tryz.underlying4;have u1:=Tryz.underlying37;have l:=Tryz.isAgg4;have k:=Tryz.isAgg37;have i:=Tryz.sizeOf4;have g:=Tryz.sizeOf37;have d:Tryz.prog.underlying 55=some (.struct (Tryz.prog.fieldsOf 55)):=by kernel_rfl
 have c:Tryz.prog.stoodInHeld 55=false:=by kernel_rfl
 rw[run_equalIn_agg w (n+1) 55 _ _ d c];simp only[Program.fieldsOf,Tryz.underlying55];obtain⟨vh,vb⟩:=v;obtain⟨uh,ub⟩:=u;by_cases a:vh=uh
 ·subst a;have j:vb≠ub:=fun e=>h (by rw[e]);have f:((vb:Int)==(ub:Int))=false:=by rw[beq_eq_false_iff_ne];omega
  go_simp
 ·have f:(vh==uh)=false:=by rw[beq_eq_false_iff_ne];exact a
  go_simp
theorem YN(c d:Cl)(h:c≠d)(w:d9):(Op.equalIn 10000 132 (.agg #[.int .u64 c.k,.bool c.p.h,.int .u64 c.p.b,.bool c.c.h,.int .u64 c.c.b,.int .i64 c.n]) (.agg #[.int .u64 d.k,.bool d.p.h,.int .u64 d.p.b,.bool d.c.h,.int .u64 d.c.b,.int .i64 d.n])).run Tryz.prog w= .ok false w:=by
 have u1:=Tryz.underlying37;have u3:=Tryz.underlying3;have x:=Tryz.isAgg37;have v:=Tryz.isAgg55;have u:=Tryz.isAgg3;have t:=Tryz.sizeOf37;have s:=Tryz.sizeOf55;have r:=Tryz.sizeOf3;have l:Tryz.prog.underlying 132=some (.struct (Tryz.prog.fieldsOf 132)):=by kernel_rfl
 have j:Tryz.prog.stoodInHeld 132=false:=by kernel_rfl
 rw[show(10000:Nat)=9999+1 from rfl,run_equalIn_agg w 9999 132 _ _ l j];simp only[Program.fieldsOf,Tryz.underlying132];obtain⟨ck,cp,cc,cn⟩:=c;obtain⟨dk,dp,dc,dn⟩:=d;by_cases q:ck=dk
 ·subst q;by_cases f:cp=dp
  ·subst f;have g:=qG 9997 cp;by_cases a:cc=dc
   ·subst a;have i:=qG 9997 cc;have o:cn≠dn:=fun e=>h (by rw[e]);have m:(cn==dn)=false:=by rw[beq_eq_false_iff_ne];exact o
    go_simp
   ·have i:=zR 9997 cc dc a;go_simp
  ·have g:=zR 9997 cp dp f;go_simp
 ·have m:((ck:Int)==(dk:Int))=false:=by rw[beq_eq_false_iff_ne];omega
  go_simp
theorem SR(c d:Cl)(h:c≠d)(w:d9):(binOp .neq 132 (.agg #[.int .u64 c.k,.bool c.p.h,.int .u64 c.p.b,.bool c.c.h,.int .u64 c.c.b,.int .i64 c.n]) (.agg #[.int .u64 d.k,.bool d.p.h,.int .u64 d.p.b,.bool d.c.h,.int .u64 d.c.b,.int .i64 d.n])).run Tryz.prog w= .ok (.bool true) w:=by
 rw[run_neq_struct,YN c d h];rfl
theorem DO(v u:Vl)(h:v≠u)(w:d9):(binOp .neq 55 (.agg #[.bool v.h,.int .u64 v.b]) (.agg #[.bool u.h,.int .u64 u.b])).run Tryz.prog w= .ok (.bool true) w:=by
 rw[run_neq_struct,show(10000:Nat)=9998+1+1 from rfl,zR 9998 v u h];rfl
def IM{α:Type}(l m:List α)(w:d9)(e:Ending)(w':d9):Prop:=(∃t,e= .returned (.bool t)∧(t=true↔l=m))∧f8 w w'
theorem eH{α:Type}{l m:List α}{w w':d9}(h:l≠m)(hb:f8 w w'):IM l m w (.returned (.bool false)) w':=⟨⟨false,rfl,by simp;exact h⟩,hb⟩
theorem oN{α:Type}{l m:List α}{w w':d9}(h:l=m)(hb:f8 w w'):IM l m w (.returned (.bool true)) w':=⟨⟨true,rfl,by simp;exact h⟩,hb⟩
theorem BH{w:d9}{u v:Value}{l m:List Cl}(hu:Cv w u l)(hv:Cv w v m):
  Calls Tryz.prog 139 #[u,v] w (IM l m w):=by
 have HU:=b9 hu;have HV:=b9 hv;obtain⟨ua,uc,rfl⟩:=hu.form;obtain⟨va,vc,rfl⟩:=hv.form;have s:=hu.len_le;unfold maxLen at s;clear hu hv;by_cases a:l.length=m.length;rotate_left
 ·have X:((l.length:Int) !=(m.length:Int))=true:=by rw[bne_iff_ne];omega
  have t:c6 (l≠m):=fun e=>a (by rw[e]);clear a s;generalize l.length=n at X;generalize m.length=q at X;go_in;go_wp2_with fail;go_ret;exact eH t.o (Below.refl _ _)
 ·rw[←a]at HV⊢;obtain⟨n,I⟩:=c7 l.length;rw[←I]at HU HV⊢;have HN:=b9 I;have HM:=b9 (I.trans a);have f0:(n:Int)≤9223372036854775807:=by omega
  have X:((n:Int) !=(n:Int))=false:=by simp
  clear I a s;go_in;go_wp2_with fail;go_loopw [13] (fun iv wr=> ∃i:Nat,iv= .int .i64 i∧i≤n∧(∀j,(F:j<l.length)→(E:j<m.length)→j<i→l[j]=m[j])∧f8 w wr) (fun iv _=>n-(intOf iv).toNat)
  case atStart=>exact⟨0,rfl,by omega,fun j _ _ h=>by omega,Below.refl _ _⟩
  case round=>
   obtain⟨i,rfl,hi,r,hB⟩:=hrel;have HA:=b9 r;have HB:=b9 hB;clear r hB;by_cases G:i<n
   ·have H:(i:Int)<(n:Int):=by omega
    have d0:=decide_eq_true G;have F:i<l.length:=by have:=HN.o;omega
    have E:i<m.length:=by have:=HM.o;omega
    rcases B2 (HU.o.below HB.o)with ⟨Y,_⟩|⟨D,z,c1,e1,_,_,_,B⟩
    ·rw[Y]at F;simp at F
    rcases B2 (HV.o.below HB.o)with ⟨Y,_⟩|⟨C,y,c2,Z,_,_,_,A⟩
    ·rw[Y]at E;simp at E
    simp only[Value.slice.injEq]at e1 Z;have b0:=e1.1;have a0:=Z.1;clear e1 Z;subst b0 a0;obtain⟨U,T,S,R,Q,P⟩:=B i F;obtain⟨O,N,M,L,K,J⟩:=A i E;obtain⟨c,W⟩:=c7 (l[i]);obtain⟨d,hd⟩:=c7 (m[i]);rw[←W]at U T S R Q P;rw[←hd]at O N M L K J;have X0: ∀q,(wr.drewN q).cell? ⟨D,z+i*6,none⟩=some (.int .u64 c.k):=fun _=>U;have X1: ∀q,(wr.drewN q).cell? ⟨D,z+i*6+1,none⟩=some (.bool c.p.h):=fun _=>T;have X2: ∀q,(wr.drewN q).cell? ⟨D,z+i*6+2,none⟩=some (.int .u64 c.p.b):=fun _=>S;have X3: ∀q,(wr.drewN q).cell? ⟨D,z+i*6+3,none⟩=some (.bool c.c.h):=fun _=>R;have X4: ∀q,(wr.drewN q).cell? ⟨D,z+i*6+4,none⟩=some (.int .u64 c.c.b):=fun _=>Q;have X5: ∀q,(wr.drewN q).cell? ⟨D,z+i*6+5,none⟩=some (.int .i64 c.n):=fun _=>P;have Y0: ∀q,(wr.drewN q).cell? ⟨C,y+i*6,none⟩=some (.int .u64 d.k):=fun _=>O;have Y1: ∀q,(wr.drewN q).cell? ⟨C,y+i*6+1,none⟩=some (.bool d.p.h):=fun _=>N;have Y2: ∀q,(wr.drewN q).cell? ⟨C,y+i*6+2,none⟩=some (.int .u64 d.p.b):=fun _=>M;have Y3: ∀q,(wr.drewN q).cell? ⟨C,y+i*6+3,none⟩=some (.bool d.c.h):=fun _=>L;have Y4: ∀q,(wr.drewN q).cell? ⟨C,y+i*6+4,none⟩=some (.int .u64 d.c.b):=fun _=>K;have Y5: ∀q,(wr.drewN q).cell? ⟨C,y+i*6+5,none⟩=some (.int .i64 d.n):=fun _=>J;have g:c6 (c=l[i]∧d=m[i]):=⟨W,hd⟩;have hg:=sJ;clear B A U T S R Q P O N M L K J W hd;by_cases f:c=d
    ·have c0:c6 (∀j,(F:j<l.length)→(E:j<m.length)→j<i+1→l[j]=m[j]):=fun j B A hj=>by
      rcases Nat.lt_or_ge j i with q|q
      ·exact HA.o j B A q
      ·obtain rfl:j=i:=by omega
       rw[←g.o.1,←g.o.2];exact f
     subst f;have hq:=DP c;go_wp2_with fail;go_quiet (fail);have x:c6 (f8 w (wr.drewN nq)):=a9 HB.o (d8 _ _);go_wp2_with fail;go_roundw
     case rel=>exact⟨i+1,by go_num,G,c0.o,x.o⟩
     case measure=>simp[intOf];omega
    ·have hq:=SR c d f
     have t:c6 (l≠m):=fun e=>by
      subst e;exact f (g.o.1.trans g.o.2.symm)
     clear f;go_wp2_with fail;go_quiet (fail);have x:c6 (f8 w (wr.drewN nq)):=a9 HB.o (d8 _ _);go_wp2_with fail;go_ret;exact eH t.o x.o
   ·have H: ¬(i:Int)<(n:Int):=by omega
    have HE:=b9 (List.ext_getElem (by rw[←HN.o,←HM.o]) (fun j B A=>HA.o j B A (by have:=HN.o;omega)));go_wp2_with fail;go_ret;exact oN HE.o HB.o
theorem EF{w:d9}{u v:Value}{l m:f7}(hu:Kv w u l)(hv:Kv w v m):
  Calls Tryz.prog 63 #[u,v] w (IM l m w):=by
 have HU:=b9 hu;have HV:=b9 hv;obtain⟨ua,uc,rfl,k,g⟩:=O7 hu;obtain⟨Y,X,rfl,_,_⟩:=O7 hv;have r:=Nat.le_trans k g;clear k g;unfold maxLen at r;clear hu hv;by_cases a:l.length=m.length;rotate_left
 ·have H:((l.length:Int) !=(m.length:Int))=true:=by rw[bne_iff_ne];omega
  have s:c6 (l≠m):=fun e=>a (by rw[e]);clear a r;generalize l.length=n at H;generalize m.length=q at H;go_in;go_wp2_with fail;go_ret;exact eH s.o (Below.refl _ _)
 ·rw[←a]at HV⊢;obtain⟨n,D⟩:=c7 l.length;rw[←D]at HU HV⊢;have HN:=b9 D;have HM:=b9 (D.trans a);have W:(n:Int)≤9223372036854775807:=by omega
  have H:((n:Int) !=(n:Int))=false:=by simp
  clear D a r;go_in;go_wp2_with fail;go_loopw [13] (fun iv wr=> ∃i:Nat,iv= .int .i64 i∧i≤n∧(∀j,(A:j<l.length)→(z:j<m.length)→j<i→l[j]=m[j])∧f8 w wr) (fun iv _=>n-(intOf iv).toNat)
  case atStart=>exact⟨0,rfl,by omega,fun j _ _ h=>by omega,Below.refl _ _⟩
  case round=>
   obtain⟨i,rfl,hi,p,O⟩:=hrel;have HA:=b9 p;have HB:=b9 O;clear p O;by_cases B:i<n
   ·have C:(i:Int)<(n:Int):=by omega
    have P:=decide_eq_true B;have A:i<l.length:=by have:=HN.o;omega
    have z:i<m.length:=by have:=HM.o;omega
    rcases T2 (HU.o.below HB.o)with ⟨I,_⟩|⟨U,R,c1,K,_,_,_,y⟩
    ·rw[I]at A;simp at A
    rcases T2 (HV.o.below HB.o)with ⟨I,_⟩|⟨T,Q,c2,J,_,_,_,x⟩
    ·rw[I]at z;simp at z
    simp only[Value.slice.injEq]at K J;have M:=K.1;have L:=J.1;clear K J;subst M L;have F:=y i A;have E:=x i z;obtain⟨c,G⟩:=c7 (l[i]);obtain⟨d,hd⟩:=c7 (m[i]);rw[←G]at F;rw[←hd]at E;have X0: ∀q,(wr.drewN q).cell? ⟨U,R+i,none⟩=some (.int .u64 (c:Nat)):=fun _=>F;have Y0: ∀q,(wr.drewN q).cell? ⟨T,Q+i,none⟩=some (.int .u64 (d:Nat)):=fun _=>E;have f:c6 (c=l[i]∧d=m[i]):=⟨G,hd⟩;clear y x F E G hd;by_cases b:c=d
    ·have N:c6 (∀j,(A:j<l.length)→(z:j<m.length)→j<i+1→l[j]=m[j]):=fun j y x Z=>by
      rcases Nat.lt_or_ge j i with q|q
      ·exact HA.o j y x q
      ·obtain rfl:j=i:=by omega
       rw[←f.o.1,←f.o.2];exact b
     subst b;have S:((c:Int) !=(c:Int))=false:=by simp
     go_wp2_with fail;go_quiet (fail);have t:c6 (f8 w (wr.drewN nq)):=a9 HB.o (d8 _ _);go_wp2_with fail;go_roundw
     case rel=>exact⟨i+1,by go_num,B,N.o,t.o⟩
     case measure=>simp[intOf];omega
    ·have S:((c:Int) !=(d:Int))=true:=by rw[bne_iff_ne];omega
     have s:c6 (l≠m):=fun e=>by
      subst e;exact b (f.o.1.trans f.o.2.symm)
     clear b;go_wp2_with fail;go_quiet (fail);have t:c6 (f8 w (wr.drewN nq)):=a9 HB.o (d8 _ _);go_wp2_with fail;go_ret;exact eH s.o t.o
   ·have C: ¬(i:Int)<(n:Int):=by omega
    have HE:=b9 (List.ext_getElem (by rw[←HN.o,←HM.o]) (fun j y x=>HA.o j y x (by have:=HN.o;omega)));go_wp2_with fail;go_ret;exact oN HE.o HB.o
end
def rR(ls:List f7)(k:Nat):List f7:=ls.take k++List.replicate (ls.length-k) []
theorem CZ{ls:List f7}{k:Nat}(h:k≤ls.length):(rR ls k).length=ls.length:=by unfold rR;simp;omega
theorem RY(ls:List f7):rR ls 0=List.replicate ls.length []:=by simp[rR]
theorem WP(ls:List f7):rR ls ls.length=ls:=by simp[rR]
theorem WO{ls:List f7}{k:Nat}(h:k<ls.length):(rR ls k).set k (bk ls k)=rR ls (k+1):=by
 have e:List.replicate (ls.length-k) ([]:f7)=[]::List.replicate (ls.length-(k+1)) []:=by
  rw[←List.replicate_succ];congr 1;omega
 unfold rR;rw[e,jT h,List.take_succ_eq_append_getElem h];rw[List.set_append_right _ _ (by simp;omega)];have a:k-(ls.take k).length=0:=by simp;omega
 rw[a,List.set_cons_zero,List.append_assoc,List.singleton_append]
theorem oF{q:Nat}(hq:q≤64): ∀wx:d9,(Instr.makeSlice 46 (.int .i64 q) (.int .i64 q)).run Tryz.prog wx= .ok (.slice (some ⟨wx.heap.size,0,none⟩) q q) (wx.alloc (.cells (madeCells #[.slice none 0 0] (q*1)) 75)):=fun wx=>by
 obtain⟨i0,hi0,hz0,hz1,hz2⟩:=cR EL;have:=run_make (P:=Tryz.prog) wx 46 75 i0 (.slice none 0 0) Tryz.underlying46 hi0 hz0 .i64 .i64 q q (by omega) (Int.le_refl _) (by rw[hz2];omega) (by omega);rw[hz1]at this;simp only[Int.toNat_natCast]at this;exact this
theorem Cp{q i:Nat}(hi:i<q):(madeCells #[.slice none 0 0] (q*1))[i]?=some (.slice none 0 0):=by simp[madeCells,hi,Nat.mod_one]
theorem MG(q i:Nat):bk (List.replicate q []) i=[]:=by unfold bk;rw[List.getD_eq_getElem?_getD,List.getElem?_replicate];split<;>rfl
theorem yY(E:n9)(w:d9){q:Nat}(hq:q≤64){Z:Array Value}(hZ:Z=madeCells #[.slice none 0 0] (q*1)):Gr E (w.alloc (.cells Z 75)) w.heap.size q (List.replicate q []):=by
 subst hZ;refine⟨⟨_,heap_alloc_new w _,by rw[size_madeCells];omega,fun i a=>?_⟩,by simp,by simp[maxLen];omega⟩;rw[List.length_replicate]at a;exact⟨_,Cp a,by rw[MG];exact Oc.nil _,fun x b=>by cases b⟩
def IP(ls:List f7)(w:d9)(iv:Value)(wr:d9):Prop:=
 ∃k:Nat,k≤ls.length∧iv= .int .i64 k∧Gr (fun x=>w.heap.size≤x) wr w.heap.size ls.length (rR ls k)∧f8 w wr
theorem FX{ls:List f7}(w:d9)(h:ls.length≤64){Z:Array Value}(hZ:Z=madeCells #[.slice none 0 0] (ls.length*1)):IP ls w (.int .i64 0) (w.alloc (.cells Z 75)):=
 ⟨0,Nat.zero_le _,rfl,by rw[RY];exact yY _ w h hZ,a8 w _⟩
theorem LY{ls:List f7}{w wr wC:d9}{k:Nat}{b:f7}{u:Value}(hb:bk ls k=b)(hk:k<ls.length)(hg:Gr (fun x=>w.heap.size≤x) wr w.heap.size ls.length (rR ls k))(hB:f8 w wr)
  (ho:wC.ownsRow wr.heap.size 5 1 u b.length (cb b)) (hC:f8 wr wC):IP ls w (.int .i64 ((k:Int)+1)) (wC.setCell ⟨w.heap.size,k,none⟩ u):=by
 refine⟨k+1,hk,rfl,?_,(a9 hB hC).setCell (p:=⟨w.heap.size,k,none⟩) (Nat.le_refl _) _⟩;rw[←WO hk,hb];exact(hg.below hC).set (by rw[CZ (Nat.le_of_lt hk)];exact hk) (bU ho (Nat.zero_le _)) (fun x a=>Nat.le_trans hB.size (ho.lt x a).1)
theorem FY{w:d9}{v:Value}{ls:List f7}(h:PS w v ls)(h1:1≤ls.length)(h64:ls.length≤64)(hb: ∀b∈ls,b.length≤1024):
  Calls Tryz.prog 55 #[v] w fun e w'=> ∃g cap,e= .returned (.slice (some ⟨g,0,none⟩) ls.length cap)∧Gr (fun x=>w.heap.size≤x) w' g cap ls∧w.heap.size≤g∧f8 w w':=by
 obtain⟨S,cap,rfl,K,J,I,t⟩:=h;obtain⟨b,j,u,rfl,_,_⟩:=t 0 (by omega)
 have HC:c6 (∀i,i<ls.length→ ∃u,w.cell? ⟨b,j+i,none⟩=some u∧Bv w u (bk ls i)):=fun i L=>by
  obtain⟨b',off',u',O,N,M⟩:=t i L
  cases O
  exact⟨u',N,M⟩
 have F:=b9 hb;have C:=oF h64;obtain⟨Z,z⟩:=c7 (madeCells #[.slice none 0 0] (ls.length*1));rw[←z]at C;have D:c6 (IP ls w (.int .i64 0) (w.alloc (.cells Z 75))):=FX w h64 z;clear z K J I t hb h1;go_in;go_wp2_with fail;go_loopw [11] (fun iv wr=>IP ls w iv wr) (fun iv _=>ls.length-(intOf iv).toNat)
 case atStart=>exact D.o
 case round=>
  obtain⟨k,P,rfl,n,d⟩:=hrel;by_cases f:k<ls.length
  ·obtain⟨u,r,m⟩:=HC.o k f;obtain⟨p,s⟩: ∃p,bk ls k=p:=⟨_,rfl⟩;have q:p.length≤1024:=by rw[←s];exact F.o _ (fQ f)
   rw[s]at m;have HP:c6 (bk ls k=p):=s;have HB:c6 (Bv wr u p):=m.below d;have E:c6 (p.length≤1024):=q;have HG:=b9 n;have G:=b9 d;obtain⟨⟨a,c,rfl,_⟩,_⟩:=m;rw[i8]at HB r;have H:wr.cell? ⟨b,j+k,none⟩=some (.slice a p.length c):=by rw[d.cell (p:=⟨b,j+k,none⟩) (c8 r)];exact r
   clear s r q n d;go_wp2_with fail;refine(fP HB.o (Nat.le_trans E.o (by omega))).mono ?_;rintro e wC ⟨v',rfl,y,A⟩;have R:c6 (IP ls w (.int .i64 ((k:Int)+1)) (wC.setCell ⟨w.heap.size,k,none⟩ v')):=LY HP.o f HG.o G.o y A;have l:=HG.o.below A;obtain⟨u9,Q,_⟩:=l.at (i:=k) (by rw[CZ (Nat.le_of_lt f)];exact f);have f9:=l.soft k;obtain⟨ao',cap',B,_⟩:=K9 y;subst B;clear y A l;go_wp2_with fail;go_roundw
   case rel=>exact R.o
   case measure=>simp[intOf];omega
  ·obtain rfl:k=ls.length:=by omega
   have HG:c6 (Gr (fun x=>w.heap.size≤x) wr w.heap.size ls.length ls):=by rw[WP]at n;exact n
   clear n;go_wp2_with fail;go_ret;exact⟨_,_,rfl,HG.o,Nat.le_refl _,d⟩
section
def Rr(base:Nat)(w:d9)(v:Value)(ls:List f7):Prop:=
 ∃us:List Value,w.ownsRow base 75 1 v ls.length us∧ ∀i u,us[i]?=some u→Oc w u (bk ls i)∧ ∀x,u.ownBlock=some x→base≤x
section

variable{base:Nat}{w w':d9}{v v' u:Value}{ls:List f7}{b:f7}

theorem Rr.block(h:Rr base w v ls){g:Nat}(hg:v.ownBlock=some g): ∃cur,w.heap[g]?=some (.cells cur 75 (0,0)):=by
 obtain⟨us,b,_⟩:=h;rcases b.2 with ⟨rfl,_⟩|⟨g',c,cur,rfl,d,a,r⟩
 ·cases hg
 ·simp[Value.ownBlock]at hg;subst hg;exact⟨cur,a⟩
theorem Rr.apart(h:Rr base w v ls)(hu:Oc w u b){x:Nat}(hx:u.ownBlock=some x):v.ownBlock≠some x:=by
 intro c;obtain⟨f,d⟩:=h.block c;obtain⟨e,a⟩:=hu.block hx;rw[d]at a;simp at a
theorem Rr.below(h:Rr base w v ls)(hb:f8 w w'):Rr base w' v ls:=by
 obtain⟨us,c,b⟩:=h;exact⟨us,iU c hb,fun i u a=>⟨(b i u a).1.below hb,(b i u a).2⟩⟩
theorem Rr.lt(h:Rr base w v ls){g:Nat}(hg:v.ownBlock=some g):base≤g∧g<w.heap.size:=by
 obtain⟨us,a,_⟩:=h;exact a.lt g hg
theorem Ej{i:Nat}(b:f7)(hi:i<ls.length):bk (ls++[b]) i=bk ls i:=by
 rw[jT (by simp;omega),jT hi,List.getElem_append_left hi]
theorem Ek(ls:List f7)(b:f7):bk (ls++[b]) ls.length=b:=by rw[jT (by simp)];simp
theorem Rr.snoc{us:List Value}(hs: ∀i u,us[i]?=some u→Oc w u (bk ls i)∧ ∀x,u.ownBlock=some x→base≤x)(hown:w.ownsRow base 75 1 v ls.length us)(hown':w'.ownsRow base 75 1 v' (ls.length+1) (us++[u]))(hg:w.grownBy w' v.ownBlock)
  (hu:Oc w u b) (hub: ∀x,u.ownBlock=some x→base≤x):Rr base w' v' (ls++[b]):=by
 have j:us.length=ls.length:=by have:=hown.1;simpa using this
 have ap:=fun {u:Value}{b:f7} (hu:Oc w u b) (x:Nat) (f:u.ownBlock=some x)=>Rr.apart (base:=base) (ls:=ls) ⟨us,hown,hs⟩ hu f;have kp: ∀{u:Value}{b:f7},Oc w u b→Oc w' u b:=fun hu=>hu.keep (fun x f=>hg.block x (hu.lt x f).2 (fun e=>ap hu x f e.symm));refine⟨us++[u],by rw[List.length_append];exact hown',fun i y d=>?_⟩;by_cases k:i<us.length
 ·rw[List.getElem?_append_left k]at d;obtain⟨a,c⟩:=hs i y d;rw[Ej b (by omega)];exact⟨kp a,c⟩
 ·have g:i=us.length:=by
   have:i<(us++[u]).length:=by
    rcases Nat.lt_or_ge i (us++[u]).length with h|h
    ·exact h
    ·rw[List.getElem?_eq_none h]at d;cases d
   simp at this;omega
  subst g;rw[List.getElem?_append_right (Nat.le_refl _)]at d;simp at d;subst d;rw[j,Ek];exact⟨kp hu,hub⟩
theorem Rr.gr(h:Rr base w v ls)(h1:1≤ls.length): ∃g cap,v= .slice (some ⟨g,0,none⟩) ls.length cap∧base≤g∧Gr (fun x=>base≤x) w g cap ls:=by
 obtain⟨us,k,m⟩:=h;have r:us.length=ls.length:=by have:=k.1;simpa using this
 rcases k.2 with ⟨rfl,s⟩|⟨g,cap,cur,rfl,p,o,d,f,q,b⟩
 ·omega
 ·refine⟨g,cap,rfl,p,⟨cur,o,by omega,fun i n=>?_⟩,d,f⟩;obtain⟨u,j⟩: ∃u,us[i]?=some u:=⟨_,List.getElem?_eq_getElem (by omega)⟩;obtain⟨a,c⟩:=m i u j;refine⟨u,?_,a,c⟩;have e:=congrArg (fun l=>l[i]?) b;simp only[List.getElem?_take,Nat.mul_one,if_pos n]at e;rw[←Array.getElem?_toList,e];exact j
end

theorem lE{P:Program}{w:d9}{ops:Array Oper}{rest:List Oper}{o:Oper}{a:Act}{Q:Exit→Act→d9→Prop}(hgd:o.guard=none)(s x:Operand)(t:TypeId)
  (ho:o.op= .call {callee:= .builtin .append,args:= #[s,x],argTypes:= #[t,t]})
  (base:Nat) (ht:P.underlying t=some (.slice 75)) (hinf:(P.info? 75).map (fun i=>(i.zero,i.size,i.bytes))=some (some (.slice none 0 0),1,24))
  (v:Value) (ls:List f7) (hs:a.eval s=v) (hown:Rr base w v ls)
  (g:Nat) (u:Value) (b:f7) (hx:a.eval x= .slice (some ⟨g,0,none⟩) 1 1) (hc:w.cell? ⟨g,0,none⟩=some u) (hu:Oc w u b) (hub: ∀x,u.ownBlock=some x→base≤x) (h63:(ls.length+1)*24≤140737488355328) (hbase:base≤w.heap.size)
  (h: ∀v' w',Rr base w' v' (ls++[b])→w.grownBy w' v.ownBlock→wpList P ops Q rest (a.put o.dst v') w'):wpList P ops Q (o::rest) a w:=by
 obtain⟨i0,q,l,k,f⟩:=cR hinf;obtain⟨us,d,m⟩:=hown;obtain⟨A,z,c,_⟩:=K9 hu;refine wpList_append_own w hgd s x t ho base 75 i0 (.slice none 0 0) 1 24 ht q l k f rfl (by decide) v ls.length us hs d ⟨g,0,none⟩ 1 1 [u] hx (by simp) ?_ ?_ (by simp only[maxLen];omega) h63 hbase (fun v' w' r p _=>h v' w' (Rr.snoc m d r p hu hub) p)
 ·intro j y e
  cases j with
  |zero=>simp at e;subst e;simpa[WideShapes.add_plain]using hc
  |succ j=>simp at e
 ·intro y n;simp at n;subst n;rw[c];rfl
def ZS(ls:List f7)(w:d9)(v iv:Value)(wr:d9):Prop:=
 ∃k:Nat,k≤ls.length∧iv= .int .i64 k∧Rr w.heap.size wr v (ls.take k)∧f8 w wr
theorem CN(ls:List f7)(w:d9):ZS ls w (.slice (some ⟨w.heap.size,0,none⟩) 0 0) (.int .i64 0) (w.alloc (.cells #[] 75)):=
 ⟨0,Nat.zero_le _,rfl,⟨[],by rw[List.take_zero];exact World.ownsRow_made w #[] 0 (Nat.le_refl _) (by simp[maxLen]) rfl,fun i u h=>by simp at h⟩,a8 w _⟩
theorem QM{ls:List f7}{k:Nat}(h:k<ls.length):ls.take k++[bk ls k]=ls.take (k+1):=by rw[jT h,List.take_succ_eq_append_getElem h]
theorem Rr.grownB{base B:Nat}{w w':d9}{v:Value}{ls:List f7}(h:Rr base w v ls)(hg:w.grownBy w' v.ownBlock)(hB:B≤w.heap.size)(hb:B≤base):Below B w w':=
 (Below.refl B w).grown hg hB (fun _ hk=>Nat.le_trans hb (h.lt hk).1)
theorem yM{w:d9}{v:Value}{ls:List f7}(h:PS w v ls)(h1:1≤ls.length)(h64:ls.length≤64)(hb: ∀b∈ls,b.length≤1024):
  Calls Tryz.prog 56 #[v] w fun e w'=> ∃g cap,e= .returned (.slice (some ⟨g,0,none⟩) ls.length cap)∧Gr (fun x=>w.heap.size≤x) w' g cap ls∧w.heap.size≤g∧f8 w w':=by
 obtain⟨ao,cap,rfl,W,U,T,F⟩:=h;obtain⟨b,l,u,rfl,_,_⟩:=F 0 (by omega)
 have HC:c6 (∀i,i<ls.length→ ∃u,w.cell? ⟨b,l+i,none⟩=some u∧Bv w u (bk ls i)):=fun i Y=>by
  obtain⟨b',off',u',e1,e2,Z⟩:=F i Y
  cases e1
  exact⟨u',e2,Z⟩
 have P:=b9 hb;have J:=b9 (CN ls w);have H1:=b9 h1;clear W U T F hb h1;go_in;go_wp2_with fail;go_loopw [3,4] (fun v iv wr=>ZS ls w v iv wr) (fun _ iv _=>ls.length-(intOf iv).toNat)
 case atStart=>exact J.o
 case round=>
  obtain⟨k,hk,rfl,f,d⟩:=hrel;by_cases j:k<ls.length
  ·obtain⟨u,C,m⟩:=HC.o k j;obtain⟨p,D⟩: ∃p,bk ls k=p:=⟨_,rfl⟩;have t:p.length≤1024:=by rw[←D];exact P.o _ (fQ j)
   rw[D]at m;have HP:=b9 D;have HB:=b9 (m.below d);have K:=b9 t;have n:=b9 f;have B:=b9 d;obtain⟨⟨a,c,rfl,_⟩,_⟩:=m;rw[i8]at HB C;have Q:wr.cell? ⟨b,l+k,none⟩=some (.slice a p.length c):=by rw[d.cell (p:=⟨b,l+k,none⟩) (c8 C)];exact C
   clear D C t f d;go_wp2_with fail;refine(cN HB.o (Nat.le_trans K.o (by omega))).mono ?_;rintro e wC ⟨v',rfl,E,G⟩;have HO:c6 (Oc (wC.alloc (.cells #[v'] 75)) v' p):=Oc.below (bU E (Nat.zero_le _)) (a8 _ _);have L:c6 (∀x,v'.ownBlock=some x→w.heap.size≤x):=fun x X=>Nat.le_trans B.o.size (E.lt x X).1;have A:c6 (Rr w.heap.size (wC.alloc (.cells #[v'] 75)) u3 (ls.take k)):=(n.o.below G).below (a8 _ _);have q:c6 (f8 w (wC.alloc (.cells #[v'] 75))):=a9 (a9 B.o G) (a8 _ _);obtain⟨ao',cap',H,_⟩:=K9 E;subst H;have O:c6 ((wC.alloc (.cells #[.slice ao' p.length cap'] 75)).cell? ⟨wC.heap.size,0,none⟩=some (.slice ao' p.length cap')):=by show _=_;simp[go_sem]
   have M:c6 (((ls.take k).length+1)*24≤140737488355328):=by show _≤_;simp;omega
   clear E G;go_wp2_with (at_builtin;refine lE (by rfl) _ _ 46 (by rfl) w.heap.size Tryz.underlying46 EL _ (ls.take k) (by rfl) A.o _ _ p (by rfl) O.o HO.o L.o M.o q.o.size ?_;intro S R s z;go_frame)
   have HR:c6 (ZS ls w S (.int .i64 ((k:Int)+1)) R):=by
    refine⟨k+1,j,rfl,?_,q.o.trans (A.o.grownB z q.o.size (Nat.le_refl _))⟩;rw[←QM j,HP.o];exact s
   clear s z;go_wp2_with fail;go_roundw
   case rel=>exact HR.o
   case measure=>simp[intOf];omega
  ·obtain rfl:k=ls.length:=by omega
   have n:c6 (Rr w.heap.size wr u3 ls):=by rw[List.take_length]at f;exact f
   obtain⟨g,cap2,r,y,I⟩:=n.o.gr H1.o;subst r;have N:=b9 y;clear f y;go_wp2_with fail;go_ret;exact⟨_,_,rfl,I,N.o,d⟩
end
theorem xJ{w:d9}{v:Value}{l:f7}(h:Bv w v l):(convert 75 9 v).run Tryz.prog w= .ok (.string (BB l)) w:=
 h.str 75 5 9 Tryz.underlying75 Tryz.underlying5 Tryz.underlying9
theorem Gz{a b:f7}(ha: ∀c∈a,c<256)(hb: ∀c∈b,c<256)(h:a≠b):BB a≠BB b:=fun e=>h (Al ha hb e)
theorem NE{a b:f7}(ha: ∀c∈a,c<256)(hb: ∀c∈b,c<256):((BB a).toList==(BB b).toList)=decide (a=b):=by
 rw[ByteArray.toList_eq,ByteArray.toList_eq];by_cases h:a=b
 ·subst h;simp
 ·rw[decide_eq_false h,beq_eq_false_iff_ne];exact fun e=>Gz ha hb h (ByteArray.ext (Array.toList_inj.mp e))
section
structure Dk where
  bl : List f7
  down : Bool
  left : Int
  rd : Nat
  wr : Nat
structure Dk.ok (S : Dk) : Prop where
  n1 : 1 ≤ S.bl.length
  n64 : S.bl.length ≤ 64
  len : ∀ b ∈ S.bl, b.length ≤ 1024
  byt : ∀ b ∈ S.bl, ∀ c ∈ b, c < 256
  l0 : -1 ≤ S.left
  l1 : S.left < 9223372036854775808
def hd (gp cap : Nat) (S : Dk) : Array Value := #[.slice (some ⟨gp, 0, none⟩) S.bl.length cap, .bool S.down, .int .i64 S.left, .int .i64 S.rd, .int .i64 S.wr]
structure DM (T : TypeId) (D : n9) (w : d9) (sb gp cap : Nat) (S : Dk) : Prop where
  head : w.heap[sb]? = some (.cells (hd gp cap S) T (0, 0))
  row : Gr (fun x => D x ∧ x ≠ sb) w gp cap S.bl
  a1 : gp ≠ sb
  d1 : D sb
  d2 : D gp
  dl : ∀ x, D x → x < w.heap.size
def I9 (T : TypeId) (D : n9) (w : d9) (v : Value) (S : Dk) : Prop := ∃ sb gp cap, v = .pointer (some ⟨sb, 0, none⟩) ∧ DM T D w sb gp cap S ∧ S.ok
section

variable {T : TypeId} {D : n9} {w w' : d9} {v : Value} {sb gp cap : Nat} {S : Dk}

theorem DM.keep (h : DM T D w sb gp cap S) (hk : ∀ x, D x → w'.heap[x]? = w.heap[x]?) (hs : w.heap.size ≤ w'.heap.size) : DM T D w' sb gp cap S :=
  ⟨by rw [hk _ h.d1]; exact h.head, h.row.keep (hk _ h.d2) (fun x hx _ _ => hk x hx.1), h.a1, h.d1, h.d2, fun x hx => Nat.lt_of_lt_of_le (h.dl x hx) hs⟩
theorem I9.keep (h : I9 T D w v S) (hk : ∀ x, D x → w'.heap[x]? = w.heap[x]?) (hs : w.heap.size ≤ w'.heap.size) : I9 T D w' v S := by
  obtain ⟨b, f, a, e, d, c⟩ := h;exact ⟨b, f, a, e, d.keep hk hs, c⟩
theorem I9.lt (h : I9 T D w v S) {x : Nat} (hx : D x) : x < w.heap.size := by
  obtain ⟨c, f, b, e, a, d⟩ := h;exact a.dl x hx
theorem I9.good (h : I9 T D w v S) : S.ok := by
  obtain ⟨c, f, b, e, d, a⟩ := h;exact a
theorem DM.below (h : DM T D w sb gp cap S) (hb : f8 w w') : DM T D w' sb gp cap S := h.keep (fun x hx => hb.block x (h.dl x hx)) hb.size
theorem I9.below (h : I9 T D w v S) (hb : f8 w w') : I9 T D w' v S := h.keep (fun x hx => hb.block x (h.lt hx)) hb.size
theorem I9.ch {E : n9} (h : I9 T D w v S) (hc : Ch E w w') (hE : ∀ x, D x → ¬ E x) : I9 T D w' v S := h.keep (fun x hx => hc.block x (h.lt hx) (hE x hx)) hc.size
theorem DM.cell (h : DM T D w sb gp cap S) (i : Nat) : w.cell? ⟨sb, i, none⟩ = (hd gp cap S)[i]? := cell_of_row w sb i _ _ (0, 0) h.head
theorem DM.c0 (h : DM T D w sb gp cap S) : w.cell? ⟨sb, 0, none⟩ = some (.slice (some ⟨gp, 0, none⟩) S.bl.length cap) := by rw [h.cell]; rfl
theorem DM.c1 (h : DM T D w sb gp cap S) : w.cell? ⟨sb, 1, none⟩ = some (.bool S.down) := by rw [h.cell]; rfl
theorem DM.c2 (h : DM T D w sb gp cap S) : w.cell? ⟨sb, 2, none⟩ = some (.int .i64 S.left) := by rw [h.cell]; rfl
theorem DM.c3 (h : DM T D w sb gp cap S) : w.cell? ⟨sb, 3, none⟩ = some (.int .i64 S.rd) := by rw [h.cell]; rfl
theorem DM.c4 (h : DM T D w sb gp cap S) : w.cell? ⟨sb, 4, none⟩ = some (.int .i64 S.wr) := by rw [h.cell]; rfl
theorem DM.soft (h : DM T D w sb gp cap S) (i : Nat) : w.frozen? ⟨sb, i, none⟩ = false := by simp [World.frozen?, h.head]
theorem DM.put (h : DM T D w sb gp cap S) (i : Nat) (u : Value) {S' : Dk} (hb : S'.bl = S.bl) (hc : (hd gp cap S).setIfInBounds i u = hd gp cap S') : DM T D (w.setCell ⟨sb, i, none⟩ u) sb gp cap S' := by
  refine ⟨by rw [V5 h.head, hc], ?_, h.a1, h.d1, h.d2, fun x a => by have := h.dl x a; simpa [go_sem] using this⟩;rw [hb];exact h.row.keep (l8 i u h.a1) (fun x a _ _ => l8 i u a.2)
theorem I4 (i : Nat) (u : Value) (hd : D sb) : Ch D w (w.setCell ⟨sb, i, none⟩ u) := Ch.of_grown (A7 w sb i u) (fun x hx => by cases hx; exact hd)
theorem Ch.self {w1 w2 w3 : d9} (h : Ch D w1 w2) (k : Ch D w2 w3) : Ch D w1 w3 := h.trans k (fun _ hx => .inl hx)
end

def I2 (S : Dk) (i : Int) : Int := if S.down = true then 80 else if i < 0 ∨ (S.bl.length : Int) ≤ i then 81 else 0
def M6 (S : Dk) (i : Int) : f7 := if I2 S i = 0 then bk S.bl i.toNat else []
def R8 (S : Dk) (i : Int) : Dk := if I2 S i = 0 then { S with rd := S.rd + 1 } else S
def mG (S : Dk) : Dk := { S with down := true, left := -1 }
def WZ (S : Dk) : Dk := { S with down := false, left := -1 }
def jI (S : Dk) (n : Int) : Dk := { S with left := if n < 0 then -1 else n }
def bB (x : Int) : Int := if x = -1 then -1 else x - 1
def M7 (S : Dk) (i : Nat) (b : f7) : Dk := { S with bl := S.bl.set i b, left := bB S.left, wr := S.wr + 1 }
def l7 (S : Dk) (i : Int) (b : f7) : Int := if I2 S i ≠ 0 then I2 S i else if 1024 < b.length then 6 else if S.left = 0 then 80 else 0
def i7 (S : Dk) (i : Int) (b : f7) : Dk := if I2 S i ≠ 0 then S else if 1024 < b.length then S else if S.left = 0 then mG S else M7 S i.toNat b
theorem kB {S : Dk} {i : Int} (h : I2 S i = 0) : S.down = false ∧ ∃ k : Nat, i = k ∧ k < S.bl.length := by
  unfold I2 at h
  split at h
  · omega
  · rename_i hd
    split at h
    · omega
    · rename_i a
      exact ⟨by simpa using hd, i.toNat, by omega, by omega⟩
theorem XB {S : Dk} (h : S.ok) : (mG S).ok := ⟨h.n1, h.n64, h.len, h.byt, Int.le_refl _, by show (-1 : Int) < _; omega⟩
theorem Fh {S : Dk} (h : S.ok) : (WZ S).ok := ⟨h.n1, h.n64, h.len, h.byt, Int.le_refl _, by show (-1 : Int) < _; omega⟩
theorem yT {S : Dk} (h : S.ok) {n : Int} (hn : n < 9223372036854775808) : (jI S n).ok := by
  refine ⟨h.n1, h.n64, h.len, h.byt, ?_, ?_⟩
  · show -1 ≤ (if n < 0 then (-1 : Int) else n); split <;> omega
  · show (if n < 0 then (-1 : Int) else n) < _; split <;> omega
theorem XA {S : Dk} (h : S.ok) (n : Nat) : ({ S with rd := n } : Dk).ok := ⟨h.n1, h.n64, h.len, h.byt, h.l0, h.l1⟩
theorem NU {S : Dk} (h : S.ok) (i : Int) : (R8 S i).ok := by unfold R8; split; exact XA h _; exact h
theorem qC {S : Dk} (h : S.ok) (i : Nat) {b : f7} (hb : b.length ≤ 1024) (hc : ∀ c ∈ b, c < 256) : (M7 S i b).ok := by
  refine ⟨by simpa [M7] using h.n1, by simpa [M7] using h.n64, ?_, ?_, ?_, ?_⟩
  · intro x d
    rcases List.mem_or_eq_of_mem_set d with a | a
    · exact h.len x a
    · rw [a]; exact hb
  · intro x d
    rcases List.mem_or_eq_of_mem_set d with a | a
    · exact h.byt x a
    · rw [a]; exact hc
  · have := h.l0
    show -1 ≤ bB S.left;unfold bB; split <;> omega
  · have := h.l1
    show bB S.left < _;unfold bB; split <;> omega
section

variable {T : TypeId} {D : n9} {w w' : d9} {v : Value} {sb gp cap : Nat} {S : Dk}

theorem O3 (h : DM T D w sb gp cap S) (hok : S.ok) (i : Int) : Calls Tryz.prog 157 #[.pointer (some ⟨sb, 0, none⟩), .int .i64 i] w fun e w' => e = .returned (.int .i64 (I2 S i)) ∧ w' = w := by
  have f := h.c0;have a := h.c1;have d := hok.n64;clear h hok
  cases hd : S.down
  · rw [hd] at a
    by_cases c : i < 0
    · have HL : c6 (I2 S i = 81) := by show _ = _; unfold I2; rw [hd, if_neg (by simp), if_pos (.inl c)]
      rw [HL.o];clear hd;go_in;go_wp2_with fail;go_ret;exact ⟨rfl, rfl⟩
    · by_cases b : (S.bl.length : Int) ≤ i
      · have HL : c6 (I2 S i = 81) := by show _ = _; unfold I2; rw [hd, if_neg (by simp), if_pos (.inr b)]
        rw [HL.o];clear hd;go_in;go_wp2_with fail;go_ret;exact ⟨rfl, rfl⟩
      · have HL : c6 (I2 S i = 0) := by show _ = _; unfold I2; rw [hd, if_neg (by simp), if_neg (by omega)]
        rw [HL.o];clear hd;go_in;go_wp2_with fail;go_ret;exact ⟨rfl, rfl⟩
  · rw [hd] at a
    have HL : c6 (I2 S i = 80) := by show _ = _; unfold I2; rw [hd, if_pos rfl]
    rw [HL.o];clear hd;go_in;go_wp2_with fail;go_ret;exact ⟨rfl, rfl⟩
theorem DG (h : I9 T D w v S) : Calls Tryz.prog 12 #[v] w fun e w' => e = .returned (.tuple #[]) ∧ I9 T D w' v (mG S) ∧ Ch D w w' := by
  obtain ⟨c, d, b, rfl, h, a⟩ := h;have HM := b9 h;have HK : c6 S.ok := a;have g := h.c1;have f := h.c2;have f1 := h.soft 1;have f2 := h.soft 2;clear h a;go_in;go_wp2_with fail;refine bodyPost_end (results_none rfl _ _ _) rfl ?_;exact ⟨rfl, ⟨c, d, b, rfl, (HM.o.put 1 (.bool true) (S' := { S with down := true }) rfl rfl).put 2 (.int .i64 (-1)) rfl rfl, XB HK.o⟩, (I4 _ _ HM.o.d1).self (I4 _ _ HM.o.d1)⟩
theorem Cb (h : I9 T D w v S) : Calls Tryz.prog 14 #[v] w fun e w' => e = .returned (.tuple #[]) ∧ I9 T D w' v (WZ S) ∧ Ch D w w' := by
  obtain ⟨c, d, b, rfl, h, a⟩ := h;have HM := b9 h;have HK : c6 S.ok := a;have g := h.c1;have f := h.c2;have f1 := h.soft 1;have f2 := h.soft 2;clear h a;go_in;go_wp2_with fail;refine bodyPost_end (results_none rfl _ _ _) rfl ?_;exact ⟨rfl, ⟨c, d, b, rfl, (HM.o.put 1 (.bool false) (S' := { S with down := false }) rfl rfl).put 2 (.int .i64 (-1)) rfl rfl, Fh HK.o⟩, (I4 _ _ HM.o.d1).self (I4 _ _ HM.o.d1)⟩
theorem YT (h : I9 T D w v S) {n : Int} (hn : n < 9223372036854775808) : Calls Tryz.prog 10 #[v, .int .i64 n] w fun e w' => e = .returned (.tuple #[]) ∧ I9 T D w' v (jI S n) ∧ Ch D w w' := by
  obtain ⟨d, g, b, rfl, h, a⟩ := h;have HM := b9 h;have HK : c6 S.ok := a;have i := h.c2;have f2 := h.soft 2;have HN := b9 hn;clear h a hn;by_cases c : n < 0
  · have HS : c6 (jI S n = { S with left := -1 }) := by show _ = _; unfold jI; rw [if_pos c]
    have r : max n (-1) = -1 := by omega
    have f : n ≤ -1 := by omega
    have HH := b9 f;go_in;go_wp2_with fail;all_goals refine bodyPost_end (results_none rfl _ _ _) rfl ?_
    all_goals refine ⟨rfl, ⟨d, g, b, rfl, ?_, yT HK.o HN.o⟩, I4 _ _ HM.o.d1⟩
    all_goals rw [HS.o]
    all_goals first
      | exact HM.o.put 2 _ rfl rfl
      | (have e : n = -1 := by have := HH.o; omega
         rw [e]; exact HM.o.put 2 _ rfl rfl)
  · have HS : c6 (jI S n = { S with left := n }) := by show _ = _; unfold jI; rw [if_neg c]
    have r : max n (-1) = n := by omega
    have f : -1 < n := by omega
    clear c;go_in;go_wp2_with fail;all_goals refine bodyPost_end (results_none rfl _ _ _) rfl ?_
    all_goals refine ⟨rfl, ⟨d, g, b, rfl, ?_, yT HK.o HN.o⟩, I4 _ _ HM.o.d1⟩
    all_goals rw [HS.o]
    all_goals exact HM.o.put 2 _ rfl rfl
theorem jB (h : I9 T D w v S) : Calls Tryz.prog 86 #[v] w fun e w' => e = .returned (.bool S.down) ∧ w' = w := by
  obtain ⟨c, d, b, rfl, h, a⟩ := h;have f := h.c1;clear h a;go_in;go_wp2_with fail;go_ret;exact ⟨rfl, rfl⟩
theorem cV (h : I9 T D w v S) : Calls Tryz.prog 76 #[v] w fun e w' => e = .returned (.int .i64 S.bl.length) ∧ w' = w := by
  obtain ⟨c, d, b, rfl, h, a⟩ := h;have f := h.c0;clear h a;go_in;go_wp2_with fail;go_ret;exact ⟨rfl, rfl⟩
theorem AL (h : I9 T D w v S) : Calls Tryz.prog 18 #[v] w fun e w' => e = .returned (.int .i64 S.wr) ∧ w' = w := by
  obtain ⟨c, d, b, rfl, h, a⟩ := h;have f := h.c4;clear h a;go_in;go_wp2_with fail;go_ret;exact ⟨rfl, rfl⟩
theorem LD (h : I9 T D w v S) : Calls Tryz.prog 21 #[v] w fun e w' => ∃ g cap, e = .returned (.slice (some ⟨g, 0, none⟩) S.bl.length cap) ∧ Gr (fun x => w.heap.size ≤ x) w' g cap S.bl ∧ w.heap.size ≤ g ∧ f8 w w' := by
  obtain ⟨k, i, cap, rfl, h, a⟩ := h;have l := h.c0;have HP : c6 (PS w (.slice (some ⟨i, 0, none⟩) S.bl.length cap) S.bl) := h.row.pv a.byt;have HK : c6 S.ok := a;clear h a;go_in;go_wp2_with fail;refine (FY HP.o HK.o.n1 HK.o.n64 HK.o.len).mono ?_;rintro e j ⟨g, cap1, rfl, d, b, f⟩;have HG := b9 d;have c := b9 b;clear d b;go_wp2_with fail;go_ret;exact ⟨g, cap1, rfl, HG.o, c.o, f⟩
end
end
theorem MT(n x k:Nat)(hk:k<n):(Wm.wdF n x)[k]?=some (x/256^k%256):=by
 induction n generalizing x k with
 |zero=>omega
 |succ n a=>
  cases k with
  |zero=>simp[Wm.wdF]
  |succ k=>
   simp only[Wm.wdF,List.getElem?_cons_succ];rw[a (x/256) k (by omega),Nat.div_div_eq_div_mul,Nat.pow_succ,Nat.mul_comm 256]
def lD(x k:Nat):f7:=(Wm.wd x).take k++List.replicate (8-k) 0
theorem UM(x k:Nat)(hk:k≤8):(lD x k).length=8:=by
 unfold lD;rw[List.length_append,List.length_take,List.length_replicate,Wm.wd_len];omega
theorem PU(x:Nat):lD x 0=List.replicate 8 0:=by simp[lD]
theorem UN(x:Nat):lD x 8=Wm.wd x:=by
 unfold lD;rw[List.take_of_length_le (by rw[Wm.wd_len];omega)];simp
theorem UL(x k:Nat)(hk:k<8):(lD x k).set k (x/256^k%256)=lD x (k+1):=by
 have c:=MT 8 x k hk;have b:k<(Wm.wd x).length:=by rw[Wm.wd_len];exact hk
 have a:(Wm.wd x)[k]=x/256^k%256:=by
  have:(Wm.wd x)[k]?=some (x/256^k%256):=c;rw[List.getElem?_eq_getElem b]at this;exact Option.some.inj this
 unfold lD
 rw[List.set_append_right _ _ (by rw[List.length_take,Wm.wd_len];omega),List.length_take,Wm.wd_len,
  show k-min k 8=0 by omega,show 8-k=(8-(k+1))+1 by omega,List.replicate_succ,List.set_cons_zero,
  List.take_succ_eq_append_getElem b,a,List.append_assoc]
 rfl
def qJ(x H:Nat)(w:d9)(iv:Value)(wr:d9):Prop:=
 ∃k:Nat,k≤8∧iv= .int .i64 k∧wr.ownsRow H 5 1 (.slice (some ⟨H,0,none⟩) 8 8) 8 ((ib (lD x k)).map (Value.int .u8))∧Below H w wr
theorem KM(i:Nat):(2:Nat)^(8*i)=256^i:=by rw[Nat.pow_mul]
theorem wX{x H k:Nat}{w wr:d9}(hk:k<8)(hbel:Below H w wr)
  (hown:wr.ownsRow H 5 1 (.slice (some ⟨H,0,none⟩) 8 8) 8 ((ib (lD x k)).map (Value.int .u8))):
  qJ x H w (.int .i64 ((k:Int)+1)) (wr.setCell ⟨H,k,none⟩ (.int .u8 ((x:Int)/2^(8*k)%256))):=by
 have a:=hown.stored k (.int .u8 ((x:Int)/2^(8*k)%256));refine⟨k+1,hk,rfl,?_,hbel.setCell (Nat.le_refl _) _⟩
 have e:((x:Int)/2^(8*k)%256)=((x/256^k%256:Nat):Int):=by
  rw[←KM,Int.natCast_emod,Int.natCast_ediv,Int.natCast_pow];rfl
 have b:((ib (lD x k)).map (Value.int .u8)).set k (.int .u8 ((x:Int)/2^(8*k)%256))=(ib (lD x (k+1))).map (Value.int .u8):=by
  rw[←UL x k hk,e];simp[ib,List.map_set]
 rw[←b];exact a.1
theorem tP{x:Nat}{w w1:d9}(hown:w1.ownsRow w.heap.size 5 1 (.slice (some ⟨w.heap.size,0,none⟩) 8 8) 8 (madeCells (Value.int .u8 0).cells (8*1)).toList)(hg:w.grownBy w1 none):
  qJ x w.heap.size w (.int .i64 0) w1:=by
 refine⟨0,by omega,rfl,?_,(Below.refl _ _).grown hg (Nat.le_refl _) (by simp)⟩;rw[PU]
 have e:(madeCells (Value.int .u8 0).cells (8*1)).toList=(ib (List.replicate 8 0)).map (Value.int .u8):=by
  show(madeCells #[Value.int .u8 0] 8).toList=_;rw[toList_madeCells_one];simp[ib]
 rw[←e];exact hown
theorem PV(x:Nat)(w:d9):
  Calls Tryz.prog 233 #[.int .u64 x] w fun e w'=> ∃v,e= .returned v∧w'.ownsRow w.heap.size 5 1 v 8 ((ib (Wm.wd x)).map (Value.int .u8))∧f8 w w':=by
 obtain⟨i0,l,g,f,d⟩:=info_parts t9;go_in;go_wp2_with (at_make;refine wpList_make_full _ (by rfl) _ _ 75 (by rfl) w.heap.size 5 i0 (.int .u8 0) 1 Tryz.underlying75 l g f .i64 .i64 8 8 8 (by rfl) (by rfl) rfl rfl (by rw[d];decide) (by simp[maxLen]) (Nat.le_refl _) ?_;intro m a b);have j:c6 (qJ x w.heap.size w (.int .i64 0) m):=tP a b;clear a b l g f d;go_loopw [8] (fun iv wr=>qJ x w.heap.size w iv wr) (fun iv _=>8-(intOf iv).toNat)
 case atStart=>exact j.o
 case round=>
  obtain⟨k,n,rfl,a,c⟩:=hrel;have HO:=b9 a;by_cases r:(k:Int)<8
  ·have i:=a.cellAt k (by omega);have s:=a.frozenAt k;have h:k<((ib (lD x k)).map (Value.int .u8)).length:=by rw[List.length_map,i8,UM x k n];omega
   rw[List.getElem?_eq_getElem h]at i;obtain⟨q,p⟩: ∃q,wr.cell? ⟨w.heap.size,k,none⟩=some q:=⟨_,i⟩;have R:=b9 (wX (by omega) c a);clear i h a;go_wp2;go_roundw
   case rel=>exact R.o
   case measure=>simp[intOf];omega
  ·obtain rfl:k=8:=by omega
   clear a;go_wp2;go_ret;exact⟨_,rfl,by have:=HO.o;rwa [UN]at this,c⟩
def tJ(x H:Nat)(w:d9)(xv v iv:Value)(wr:d9):Prop:=
 ∃(y k:Nat),k≤8∧iv= .int .i64 k∧xv= .int .u64 y∧y=x/256^k∧wr.ownsRow H 5 1 v k ((ib ((Wm.wd x).take k)).map (Value.int .u8))∧Below H w wr
theorem tT{x H k y:Nat}{w wr w1:d9}{v v':Value}{c:Int}(hk:k<8)(hy:y=x/256^k)(hbel:Below H w wr)(hH:H≤wr.heap.size)(o:Obj)
  (hown:wr.ownsRow H 5 1 v k ((ib ((Wm.wd x).take k)).map (Value.int .u8)))
  (hown':w1.ownsRow H 5 1 v' (k+1) ((ib ((Wm.wd x).take k)).map (Value.int .u8)++[c].map (Value.int .u8))) (hg:(wr.alloc o).grownBy w1 v.ownBlock) (hc:c=(y:Int)%256):
  tJ x H w (.int .u64 ((y:Int)/256)) v' (.int .i64 ((k:Int)+1)) w1:=by
 refine⟨y/256,k+1,hk,rfl,by congr 1,by rw[hy,Nat.div_div_eq_div_mul,Nat.pow_succ],?_,hbel.trans (((a8 wr o).mono hH).trans (U9 (hown.alloc o) hg (by simp;omega)))⟩;have b:k<(Wm.wd x).length:=by rw[Wm.wd_len];exact hk
 have a:(Wm.wd x)[k]=y%256:=by
  have:(Wm.wd x)[k]?=some (x/256^k%256):=MT 8 x k hk;rw[List.getElem?_eq_getElem b]at this;rw[hy];exact Option.some.inj this
 rw[List.take_succ_eq_append_getElem b,a,o7,List.map_append];have e:ib [y%256]=[c]:=by subst hc;simp[ib]
 rw[e];exact hown'
theorem eU(x:Nat)(hx:x<18446744073709551616)(w:d9):
  Calls Tryz.prog 201 #[.int .u64 x] w fun e w'=> ∃v,e= .returned v∧w'.ownsRow w.heap.size 5 1 v 8 ((ib (Wm.wd x)).map (Value.int .u8))∧f8 w w':=by
 have g:c6 (tJ x w.heap.size w (.int .u64 x) (.slice (some ⟨w.heap.size,0,none⟩) 0 0) (.int .i64 0) (w.alloc (.cells #[] 5))):=
  ⟨x,0,by omega,rfl,rfl,by simp,World.ownsRow_made w #[] 0 (Nat.le_refl _) (by simp[maxLen]) rfl,a8 w _⟩
 have HX:=b9 hx;clear hx;go_in;go_wp2;go_loopw [0,3,4] (fun xv v iv wr=>tJ x w.heap.size w xv v iv wr) (fun _ _ iv _=>8-(intOf iv).toNat)
 case atStart=>exact g.o
 case round=>
  obtain⟨y,k,n,rfl,rfl,f,a,b⟩:=hrel;have HY:=b9 f;have j:IntKind.u64.wrap ((y:Int)/256)=(y:Int)/256:=p8 (by omega) (by have:=HX.o;have i:x/256^k≤x:=Nat.div_le_self _ _;rw[←f]at i;omega);have h:=b.size;clear f;by_cases l:(k:Int)<8
  ·go_wp2_with (at_builtin;refine g7 (by rfl) (.tmp 10) (.tmp 14) 75 (by rfl) w.heap.size 5 .u8 1 Tryz.underlying75 t9 _ _ _ (by rfl) (a.alloc _) _ [_] (by rfl) (U0 .u8 _ _ _) (by simp[maxLen];omega) (by simp;omega) (by simp;omega) ?_;intro v' m c d);have R:=tT (by omega) HY.o b h _ a c d (by omega);clear c d;go_wp2;go_roundw
   case rel=>exact R
   case measure=>simp[intOf];omega
  ·obtain rfl:k=8:=by omega
   have HO:c6 (wr.ownsRow w.heap.size 5 1 u3 8 ((ib (Wm.wd x)).map (Value.int .u8))):=by
    have:=a;rwa [List.take_of_length_le (by rw[Wm.wd_len];omega)]at this
   clear a;go_wp2;go_ret;exact⟨_,rfl,HO.o,b⟩
end Go.Proofs.YtfhoilcbhmeofaaGreat
