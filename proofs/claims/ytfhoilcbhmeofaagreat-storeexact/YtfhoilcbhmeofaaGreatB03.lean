/- Cells as numbers; contracts of cell's Revert, Resolve, Empty; of the reference's. -/
import Derived.Test.YtfhoilcbhmeofaaGreatB02
import Derived.Maps.AppendAt
import Derived.Deep.RegionLaw
import Derived.OwnWalk
import Derived.Lib.SliceRun
import Derived.Lib.SlBytesConst
import Derived.Lib.SmallJoins
import Derived.CellFam
import Derived.Deep.DeepCutAuto
import Derived.BigQuiet
import Derived.Deep.QuietTactic
import Derived.Maps.RangeWalk
import Derived.Sort.Row
import Derived.Laws.StructEq
set_option maxRecDepth 100000
set_option maxHeartbeats 16000000
namespace Go.Proofs.YtfhoilcbhmeofaaGreat
open Go.RowKit
def xF(l:f7):Nat × Nat × Nat:=match Wm.take l with
 |(x,n,0)=>if 4611686018427387904<x then(0,0,4)else(x,n,0)
 |(_,_,e)=>(0,0,e)
def t3i(r:Nat × Nat × Nat):Value:= .tuple #[.int .i64 (r.1:Nat),.int .i64 (r.2.1:Nat),.int .i64 (r.2.2:Nat)]
theorem eN{r:Nat × Nat × Nat}{a b c:Nat}(h:r=(a,b,c)):t3i r= .tuple #[.int .i64 a,.int .i64 b,.int .i64 c]:=by subst h;rfl
theorem qR{l:f7}{e:Nat}(h:Wm.take l=(0,0,e))(h34:e=3∨e=4):xF l=(0,0,e):=by
 unfold xF;rw[h];rcases h34 with rfl|rfl<;>rfl
theorem AV{l:f7}{x n:Nat}(h:Wm.take l=(x,n,0))(hb:4611686018427387904<x):xF l=(0,0,4):=by
 unfold xF;rw[h];simp only;rw[if_pos hb]
theorem NA{l:f7}{x n:Nat}(h:Wm.take l=(x,n,0))(hb: ¬4611686018427387904<x):xF l=(x,n,0):=by
 unfold xF;rw[h];simp only;rw[if_neg hb]
theorem QK(l:f7)(hl: ∀c∈l,c<256):
  (∃e,xF l=(0,0,e)∧(e=3∨e=4)∧ ∀k p (b:f7) acc,b.drop p=l→Wm.tnums (k+1) b p acc=([],0,e))∨
  (∃x n,xF l=(x,n,0)∧x≤4611686018427387904∧1≤n∧n≤l.length∧ ∀k p (b:f7) acc,b.drop p=l→Wm.tnums (k+1) b p acc=Wm.tnums k b (p+n) (acc++[x])):=by
 rcases Wm.take_form l hl with ⟨e,g,a⟩|⟨x,n,f,_,i,h,_⟩
 ·refine .inl ⟨e,qR g a,a,fun k p b acc d=>?_⟩;rw[Wm.tnums,d,g];rcases a with rfl|rfl<;>rfl
 ·by_cases d:4611686018427387904<x
  ·refine .inl ⟨4,AV f d,.inr rfl,fun k p b acc hd=>?_⟩;rw[Wm.tnums,hd,f];simp only;rw[if_pos d]
  ·refine .inr ⟨x,n,NA f d,by omega,i,h,fun k p b acc hd=>?_⟩;rw[Wm.tnums,hd,f];simp only;rw[if_neg d]
theorem eM{w:d9}{v:Value}{l:f7}(h:Bv w v l):
  Calls Tryz.prog 196 #[v] w fun e w'=>e= .returned (t3i (xF l))∧w'=w:=by
 have HV:=b9 h;obtain⟨t,s,rfl⟩:=AE h;clear h;go_in;go_wp2_with fail;refine(G9 HV.o).mono ?_;rintro e r ⟨f,rfl⟩;rcases Wm.take_form l HV.o.2 with ⟨er,b,j⟩|⟨x,n,a,m,i,g,d⟩
 ·rw[J2 b]at f;subst f;have c:=b9 b;clear b;rcases j with rfl|rfl
  ·go_wp2_with fail;go_ret3;exact⟨by rw[eN (qR c.o (.inl rfl))];rfl,rfl⟩
  ·go_wp2_with fail;go_ret3;exact⟨by rw[eN (qR c.o (.inr rfl))];rfl,rfl⟩
 ·rw[J2 a]at f;subst f;have HT:=b9 a;clear a d m i g;by_cases k:(4611686018427387904:Int)<(x:Int)
  ·go_wp2_with fail;go_ret3;exact⟨by rw[eN (AV HT.o (by omega))];rfl,rfl⟩
  ·have q:=decide_eq_false k;have HB:c6 (¬4611686018427387904<x):=by show¬_<_;omega
   have p:IntKind.i64.wrap (x:Int)=(x:Int):=by rw[IntKind.wrap_i64];omega
   clear k;go_wp2_with fail;go_ret3;exact⟨by rw[eN (NA HT.o HB.o)];rfl,rfl⟩
theorem Ak{k:IntKind}{w:d9}{v:Value}{l:List Int}(h:Sv k w v l): ∃ao cap,v= .slice ao l.length cap:=by
 obtain⟨ao,cap,rfl,_⟩:=h;exact⟨ao,cap,rfl⟩
def qK(r:f7 × Nat × Nat)(w:d9)(e:Ending)(w':d9):Prop:=
 ∃ao cap,e= .returned (.tuple #[.slice ao (ib r.1).length cap,.int .i64 (r.2.1:Nat),.int .i64 (r.2.2:Nat)])∧Sv .i64 w' (.slice ao (ib r.1).length cap) (ib r.1)∧f8 w w'∧ ∀x,(Value.slice ao (ib r.1).length cap).ownBlock=some x→w.heap.size≤x
theorem r7{r:f7 × Nat × Nat}{w w':d9}{e:Nat}{c:Int}(h:r=([],0,e))(hc:c=e)(hB:f8 w w'):qK r w (.returned (.tuple #[.slice none 0 0,.int .i64 0,.int .i64 c])) w':=by
 subst h hc;exact⟨none,0,rfl,Sv.nil _ w',hB,fun x a=>by cases a⟩
theorem mJ{r:f7 × Nat × Nat}{w w':d9}{n p:Nat}{acc:f7}{v:Value}{c:Int}(h:r=(acc,p,0))(hown:w'.ownsRow w.heap.size 3 1 v n ((ib acc).map (Value.int .i64)))(hB:f8 w w')(hc:c=p):
  qK r w (.returned (.tuple #[v,.int .i64 c,.int .i64 0])) w':=by
 subst h hc;obtain⟨d,a,rfl⟩:=Ak (z9 hown);exact⟨d,a,rfl,z9 hown,hB,fun x b=>(hown.lt x b).1⟩
def wS(l:f7)(c:Nat)(r:f7 × Nat × Nat)(H:Nat)(w:d9)(pv v kv:Value)(kk:IntKind)(wr:d9):Prop:=
 ∃(k p:Nat) (acc:f7),kv= .int kk k∧k≤c∧pv= .int .i64 p∧p≤l.length∧k≤p∧acc.length=k∧Wm.tnums (c-k) l p acc=r∧
  wr.ownsRow H 3 1 v k ((ib acc).map (Value.int .i64))∧Below H w wr
theorem oV{l:f7}{c p:Nat}{r:f7 × Nat × Nat}{w:d9}(kk:IntKind)(hp:p≤l.length)(h:Wm.tnums c l p []=r):
  wS l c r w.heap.size w (.int .i64 p) (.slice (some ⟨w.heap.size,0,none⟩) 0 0) (.int kk 0) kk (w.alloc (.cells #[] 3)):=
 ⟨0,p,[],rfl,Nat.zero_le _,rfl,hp,Nat.zero_le _,rfl,h,World.ownsRow_made w #[] 0 (Nat.le_refl _) (by simp[maxLen]) rfl,a8 w _⟩
theorem qS{l:f7}{c k p x n H:Nat}{r:f7 × Nat × Nat}{acc:f7}{w wr w1:d9}{v v':Value}(kk:IntKind)(hk:k<c)(hpn:p+n≤l.length)(hkp:k≤p)(hn:1≤n)(hacc:acc.length=k)
  (ht:Wm.tnums (c-k) l p acc=r) (hstep: ∀j q (b:f7) a,b.drop q=l.drop p→Wm.tnums (j+1) b q a=Wm.tnums j b (q+n) (a++[x])) (hbel:Below H w wr) (hH:H≤wr.heap.size) (o:Obj)
  (hown:wr.ownsRow H 3 1 v k ((ib acc).map (Value.int .i64))) (hown':w1.ownsRow H 3 1 v' (k+1) ((ib acc).map (Value.int .i64)++[(x:Int)].map (Value.int .i64))) (hg:(wr.alloc o).grownBy w1 v.ownBlock):
  wS l c r H w (.int .i64 ((p:Int)+(n:Int))) v' (.int kk ((k:Int)+1)) kk w1:=by
 refine⟨k+1,p+n,acc++[x],rfl,hk,by congr 1,hpn,by omega,by simp[hacc],?_,?_,hbel.trans (((a8 wr o).mono hH).trans (U9 (hown.alloc o) hg (by simp;omega)))⟩
 ·rw[←hstep (c-(k+1)) p l acc rfl,←ht];congr 1;omega
 ·rw[o7,List.map_append];exact hown'
theorem Bv.cutFrom{w:d9}{ao:Option Addr}{cap:Nat}{l:f7}(h:Bv w (.slice ao l.length cap) l)(p:Nat)(hp:p≤l.length)(hne: ¬cap=p):
  Bv w (.slice (ao.map fun a=>a.add p) (l.length-p) (cap-p)) (l.drop p):=by
 have:=h.cut p l.length hp (Nat.le_refl _) False (by simp[hne]);have e:(l.drop p).take (l.length-p)=l.drop p:=List.take_of_length_le (by rw[List.length_drop];omega);rw[e]at this;simpa using this
theorem Bv.cutEnd{w:d9}{ao:Option Addr}{l:f7}{p:Nat}(hp:l.length≤p):Bv w (.slice ao 0 0) (l.drop p):=by
 rw[List.drop_eq_nil_of_le hp];exact⟨⟨ao,0,rfl,Nat.le_refl _,by simp[maxLen],fun _=>rfl,fun i a=>by simp[ib]at a⟩,by simp⟩
theorem aT{l:f7}{e:Nat}(most:Int)(h:Wm.take l=(0,0,e))(h34:e=3∨e=4):Wm.takeNums l most=([],0,e):=by
 unfold Wm.takeNums;rw[h];rcases h34 with rfl|rfl<;>rfl
theorem Z2{l:f7}{c p:Nat}{most:Int}(h:Wm.take l=(c,p,0))(hm:most<(c:Int)):Wm.takeNums l most=([],0,6):=by
 unfold Wm.takeNums;rw[h];simp only;rw[if_pos hm]
theorem oW{l:f7}{c p:Nat}{most:Int}(h:Wm.take l=(c,p,0))(hm: ¬most<(c:Int)):Wm.takeNums l most=Wm.tnums c l p []:=by
 unfold Wm.takeNums;rw[h];simp only;rw[if_neg hm]
theorem T1{w:d9}{v:Value}{l:f7}(most:Int)(h:Bv w v l)(hsz:l.length*8≤140737488355328)(hm:most<9223372036854775808):
  Calls Tryz.prog 159 #[v,.int .i64 most] w (qK (Wm.takeNums l most) w):=by
 have HV:=b9 h;have X:=b9 hsz;have HM:=b9 hm;have l0:(l.length:Int)≤140737488355328:=by omega
 obtain⟨r,T⟩:=c7 (Wm.takeNums l most);have HR:=b9 T;rw[←T];obtain⟨a0,W,rfl⟩:=AE h;have o0:(l.length:Int)≤(W:Int):=by have:=h.le_cap;omega
 clear h hsz hm T;go_in;go_wp2_with fail;refine(G9 HV.o).mono ?_;rintro e B ⟨f,rfl⟩;rcases Wm.take_form l HV.o.2 with ⟨er,i,z⟩|⟨c,p0,g,hx,u,m,Q⟩
 ·rw[J2 i]at f;subst f;have q:=b9 i;clear i;rcases z with rfl|rfl
  ·go_wp2_with fail;go_ret3;exact r7 (by rw[HR.o,aT most q.o (.inl rfl)]) rfl (Below.refl _ _)
  ·go_wp2_with fail;go_ret3;exact r7 (by rw[HR.o,aT most q.o (.inr rfl)]) rfl (Below.refl _ _)
 ·rw[J2 g]at f;subst f;have HT:=b9 g;have Y:=b9 m;clear g Q hx u m;by_cases G:most<0
  ·go_wp2_with fail;go_ret3;exact r7 (by rw[HR.o,Z2 HT.o (by omega)]) rfl (Below.refl _ _)
  ·have i0:IntKind.u64.wrap most=most:=p8 (by omega) (by have:=HM.o;omega);by_cases F:most<(c:Int)
   ·go_wp2_with fail;go_ret3;exact r7 (by rw[HR.o,Z2 HT.o (by omega)]) rfl (Below.refl _ _)
   ·have n0:IntKind.i64.wrap (c:Int)=(c:Int):=by have:=HM.o;rw[IntKind.wrap_i64];omega
    have b0:c6 ((c:Int)<9223372036854775808):=by have:=HM.o;show _<_;omega
    have I:c6 (wS l c r B.heap.size B (.int .i64 p0) (.slice (some ⟨B.heap.size,0,none⟩) 0 0) (.int .i64 0) .i64 (B.alloc (.cells #[] 3))):=
     oV .i64 Y.o (by rw[HR.o,oW HT.o (by omega)])
    have d0:=decide_eq_false F;have f0:=decide_eq_false G;clear F G;go_wp2_with fail;go_loopw [8,10,34] (fun pv v S wr=>wS l c r B.heap.size B pv v S .i64 wr) (fun _ _ S _=>c-(intOf S).toNat)
    case atStart=>exact I.o
    case round=>
     obtain⟨k,p,acc,rfl,hk,rfl,U,C,A,E,b,a⟩:=hrel;have D:=b9 E;have HA:=b9 A;have hH:=a.size;have h0:(p:Int)≤(l.length:Int):=by omega
     have H:=b9 (HV.o.below a);clear E A I;by_cases j0:(k:Int)<(c:Int)
     ·have m0:(k:Int)+1≤9223372036854775807:=by have:=b0.o;omega
      have J:=b9 U;have M:=b9 C;have N:c6 (k<c):=by show k<c;omega
      rcases QK (l.drop p) (fun d hd=>HV.o.2 d (List.mem_of_mem_drop hd))with ⟨er,i,z,j⟩|⟨x,n,g,P,u,m,j⟩
      ·have HE:c6 (r=([],0,er)):=by
        show r=_;rw[←D.o,←j (c-k-1) p l acc rfl];congr 1;have:=N.o;omega
       have q:=b9 i;clear j i U C hk;by_cases y:W=p
       ·have k0:l.length=p:=by omega
        have Z:c6 (l.length≤p):=by show _≤_;omega
        subst y;go_wp2_with fail;refine(eM (Bv.cutEnd (w:=wr) (ao:=a0) Z.o)).mono ?_;rintro e w3 ⟨f,rfl⟩;rw[eN q.o]at f;subst f;rcases z with rfl|rfl
        ·go_wp2_with fail;go_ret3;exact r7 HE.o rfl a
        ·go_wp2_with fail;go_ret3;exact r7 HE.o rfl a
       ·go_wp2_with fail;refine(eM (H.o.cutFrom p J.o y)).mono ?_;rintro e w3 ⟨f,rfl⟩;rw[eN q.o]at f;subst f;rcases z with rfl|rfl
        ·go_wp2_with fail;go_ret3;exact r7 HE.o rfl a
        ·go_wp2_with fail;go_ret3;exact r7 HE.o rfl a
      ·rw[List.length_drop]at m;have HX:=b9 g;have HS:=b9 j;have L:=b9 u;have K:c6 (p+n≤l.length):=by show _≤_;omega
       have g0:(p:Int)+(n:Int)≤140737488355328:=by omega
       have y: ¬W=p:=by omega
       clear j g u m P U C hk;go_wp2_with fail;refine(eM (H.o.cutFrom p J.o y)).mono ?_;rintro e w3 ⟨f,rfl⟩;rw[eN HX.o]at f;subst f;have O:c6 ((k+1)*8≤140737488355328):=by show _≤_;have:=M.o;have:=L.o;have:=K.o;have:=X.o;omega
       go_wp2_with (at_builtin;refine g7 (by rfl) (.tmp 47) (.tmp 49) 118 (by rfl) B.heap.size 3 .i64 8 Tryz.underlying118 dZ _ _ _ (by rfl) (b.alloc _) _ [_] (by rfl) (U0 .i64 _ _ _) (by have:=O.o;simp[maxLen];omega) (by have:=O.o;simp;omega) (by simp;omega) ?_;intro v' w4 s t);have R:=qS .i64 N.o K.o M.o L.o HA.o D.o HS.o a hH _ b s t;clear s t;go_wp2;go_roundw
       case rel=>exact R
       case measure=>simp[intOf];omega
     ·obtain rfl:k=c:=by omega
      have HO:=b9 b;clear b;go_wp2_with fail;go_ret3;exact mJ (by rw[←D.o,Nat.sub_self,Wm.tnums]) HO.o a rfl
theorem Gq{b:f7}{p e:Nat}(k:Nat)(acc:f7)(h:Wm.take (b.drop p)=(0,0,e))(h34:e=3∨e=4):Wm.tnums (k+1) b p acc=([],0,e):=by
 rw[Wm.tnums,h];rcases h34 with rfl|rfl<;>rfl
theorem Gs{b:f7}{p x n:Nat}(k:Nat)(acc:f7)(h:Wm.take (b.drop p)=(x,n,0))(hb:4611686018427387904<x):Wm.tnums (k+1) b p acc=([],0,4):=by
 rw[Wm.tnums,h];simp only;rw[if_pos hb]
theorem Ki{b:f7}{p x n:Nat}(k:Nat)(acc:f7)(h:Wm.take (b.drop p)=(x,n,0))(hb: ¬4611686018427387904<x):Wm.tnums (k+1) b p acc=Wm.tnums k b (p+n) (acc++[x]):=by
 rw[Wm.tnums,h];simp only;rw[if_neg hb]
theorem bL{w:d9}{v:Value}{l:f7}(most:Int)(h:Bv w v l)(hsz:l.length*8≤140737488355328)(hm:most<9223372036854775808):
  Calls Tryz.prog 168 #[v,.int .i64 most] w (qK (Wm.takeNums l most) w):=by
 have HV:=b9 h;have b0:=b9 hsz;have HM:=b9 hm;have q0:(l.length:Int)≤140737488355328:=by omega
 obtain⟨r,Y⟩:=c7 (Wm.takeNums l most);have HR:=b9 Y;rw[←Y];obtain⟨a0,W,rfl⟩:=AE h;have t0:(l.length:Int)≤(W:Int):=by have:=h.le_cap;omega
 clear h hsz hm Y;go_in;go_wp2_with fail;refine(z8 HV.o).mono ?_;rintro e G ⟨m,rfl⟩;rcases Wm.take_form l HV.o.2 with ⟨er,g,u⟩|⟨c,p0,s,hx,C,t,z⟩
 ·rw[J2 g]at m;subst m;have y:=b9 g;clear g;rcases u with rfl|rfl
  ·go_wp2_with fail;go_ret3;exact r7 (by rw[HR.o,aT most y.o (.inl rfl)]) rfl (Below.refl _ _)
  ·go_wp2_with fail;go_ret3;exact r7 (by rw[HR.o,aT most y.o (.inr rfl)]) rfl (Below.refl _ _)
 ·rw[J2 s]at m;subst m;have HT:=b9 s;have d0:=b9 t;clear s z hx C t;by_cases L:most<0
  ·go_wp2_with fail;go_ret3;exact r7 (by rw[HR.o,Z2 HT.o (by omega)]) rfl (Below.refl _ _)
  ·have m0:IntKind.u64.wrap most=most:=p8 (by omega) (by have:=HM.o;omega);by_cases K:most<(c:Int)
   ·go_wp2_with fail;go_ret3;exact r7 (by rw[HR.o,Z2 HT.o (by omega)]) rfl (Below.refl _ _)
   ·have g0:c6 ((c:Int)<9223372036854775808):=by have:=HM.o;show _<_;omega
    have N:c6 (wS l c r G.heap.size G (.int .i64 p0) (.slice (some ⟨G.heap.size,0,none⟩) 0 0) (.int .u64 0) .u64 (G.alloc (.cells #[] 3))):=
     oV .u64 d0.o (by rw[HR.o,oW HT.o (by omega)])
    have h0:=decide_eq_false K;have i0:=decide_eq_false L;clear K L;go_wp2_with fail;go_loopw [8,10,11] (fun pv v X wr=>wS l c r G.heap.size G pv v X .u64 wr) (fun _ _ X _=>c-(intOf X).toNat)
    case atStart=>exact N.o
    case round=>
     obtain⟨k,p,acc,rfl,hk,rfl,Z,H,F,J,i,f⟩:=hrel;have E:=b9 J;have HA:=b9 F;have hH:=f.size;have l0:(p:Int)≤(l.length:Int):=by omega
     have M:=b9 (HV.o.below f);clear J F N;by_cases n0:(k:Int)<(c:Int)
     ·have s0:(k:Int)+1≤9223372036854775807:=by have:=g0.o;omega
      have O:=b9 Z;have S:=b9 H;have I:c6 (k<c):=by show k<c;omega
      rcases Wm.take_form (l.drop p) (fun d hd=>HV.o.2 d (List.mem_of_mem_drop hd))with ⟨er,g,u⟩|⟨x,n,s,U,C,t,z⟩
      ·have HE:c6 (r=([],0,er)):=by
        show r=_;rw[←E.o,←Gq (c-k-1) acc g u];congr 1;have:=I.o;omega
       have y:=b9 g;clear g Z H hk;by_cases D:W=p
       ·have f0:c6 (l.length≤p):=by show _≤_;omega
        subst D;have o0:l.length=W:=by omega
        go_wp2_with fail;refine(z8 (Bv.cutEnd (w:=wr) (ao:=a0) f0.o)).mono ?_;rintro e w3 ⟨m,rfl⟩;rw[J2 y.o]at m;subst m;rcases u with rfl|rfl
        ·go_wp2_with fail;go_ret3;exact r7 HE.o rfl f
        ·go_wp2_with fail;go_ret3;exact r7 HE.o rfl f
       ·go_wp2_with fail;refine(z8 (M.o.cutFrom p O.o D)).mono ?_;rintro e w3 ⟨m,rfl⟩;rw[J2 y.o]at m;subst m;rcases u with rfl|rfl
        ·go_wp2_with fail;go_ret3;exact r7 HE.o rfl f
        ·go_wp2_with fail;go_ret3;exact r7 HE.o rfl f
      ·rw[List.length_drop]at t;have HX:=b9 s;have Q:=b9 C;have P:c6 (p+n≤l.length):=by show _≤_;omega
       have k0:(p:Int)+(n:Int)≤140737488355328:=by omega
       have D: ¬W=p:=by omega
       clear s C t U z Z H hk;go_wp2_with fail;refine(z8 (M.o.cutFrom p O.o D)).mono ?_;rintro e w3 ⟨m,rfl⟩;rw[J2 HX.o]at m;subst m;by_cases hb:(4611686018427387904:Int)<(x:Int)
       ·have HE:c6 (r=([],0,4)):=by
         show r=_;rw[←E.o,←Gs (c-k-1) acc HX.o (by omega)];congr 1;have:=I.o;omega
        go_wp2_with fail;go_ret3;exact r7 HE.o rfl f
       ·have v0:=decide_eq_false hb;have j0:IntKind.i64.wrap (x:Int)=(x:Int):=by rw[IntKind.wrap_i64];omega
        have r0:IntKind.u64.wrap ((k:Int)+1)=(k:Int)+1:=p8 (by omega) (by omega)
        have HS:c6 (∀j q (b:f7) a,b.drop q=l.drop p→Wm.tnums (j+1) b q a=Wm.tnums j b (q+n) (a++[x])):=by
         intro j q b a hd;exact Ki j a (by rw[hd];exact HX.o) (by omega)
        clear hb;have T:c6 ((k+1)*8≤140737488355328):=by show _≤_;have:=S.o;have:=Q.o;have:=P.o;have:=b0.o;omega
        go_wp2_with (at_builtin;refine g7 (by rfl) (.tmp 51) (.tmp 54) 118 (by rfl) G.heap.size 3 .i64 8 Tryz.underlying118 dZ _ _ _ (by rfl) (i.alloc _) _ [_] (by rfl) (U0 .i64 _ _ _) (by have:=T.o;simp[maxLen];omega) (by have:=T.o;simp;omega) (by simp;omega) ?_;intro v' w4 A B);have R:=qS .u64 I.o P.o S.o Q.o HA.o E.o HS.o f hH _ i A B;clear A B;go_wp2;go_roundw
        case rel=>exact R
        case measure=>simp[intOf];omega
     ·obtain rfl:k=c:=by omega
      have HO:=b9 i;clear i;go_wp2_with fail;go_ret3;exact mJ (by rw[←E.o,Nat.sub_self,Wm.tnums]) HO.o f rfl
section
def k9(g:Nat)(t:f7):f7:=Wm.enc g++(Wm.enc t.length++Wm.encAll t)
def tn(t:f7)(i:Nat):Nat:=t.getD i 0
theorem aA{t:f7}{i:Nat}(h:i<t.length):tn t i=t[i]:=by unfold tn;rw[List.getD_eq_getElem?_getD,List.getElem?_eq_getElem h];rfl
theorem jU{t:f7}{i:Nat}(h:i<t.length):tn t i∈t:=by rw[aA h];exact List.getElem_mem h
theorem W9{t:f7}{i j x:Nat}(hj:j<t.length):tn (t.set i x) j=if i=j then x else tn t j:=by
 rw[aA (by simpa using hj),List.getElem_set,aA hj]
def UC(t:f7)(B i:Nat):Prop:=tn t i=0∨(2≤tn t i∧tn t i<B∧ ¬tn t i∈t.take i)
def Li(t:f7)(B i:Nat):Bool:=decide (tn t i=0∨(2≤tn t i∧tn t i<B∧ ¬tn t i∈t.take i))
def II(t:f7)(B:Nat):Prop:=1≤t.length∧2+2*t.length≤B∧ ∀i,i<t.length→UC t B i
def aQ(t:f7)(B:Nat):Bool:=decide (1≤t.length)&&decide (2+2*t.length≤B)&&(List.range t.length).all (Li t B)
theorem xH{t:f7}{B:Nat}(h:II t B):aQ t B=true:=by
 obtain⟨d,c,b⟩:=h;unfold aQ;rw[decide_eq_true d,decide_eq_true c,Bool.and_self,Bool.true_and,List.all_eq_true];intro i a;exact decide_eq_true (b i (List.mem_range.1 a))
theorem VC{t:f7}{B:Nat}(h:aQ t B=true):II t B:=by
 unfold aQ at h;rw[Bool.and_eq_true,Bool.and_eq_true]at h;obtain⟨⟨d,c⟩,b⟩:=h;exact⟨of_decide_eq_true d,of_decide_eq_true c,fun i a=>of_decide_eq_true (p:=tn t i=0∨(2≤tn t i∧tn t i<B∧ ¬tn t i∈t.take i)) (List.all_eq_true.1 b i (List.mem_range.2 a))⟩
theorem gG{t:f7}{B:Nat}(h: ¬II t B):aQ t B=false:=by
 cases e:aQ t B
 ·rfl
 ·exact absurd (VC e) h
def m8(b:f7)(B:Nat):Option (Nat × f7):=
 match Wm.take b with
 |(g,p,0)=>if 1≤g∧g≤1099511627776 then
   match Wm.takeNums (b.drop p) 8 with
   |(t,n,0)=>if p+n=b.length∧aQ t B=true then some (g,t)else none
   |_=>none
  else none
 |_=>none
theorem nZ{b:f7}{B e:Nat}(h:Wm.take b=(0,0,e))(h34:e=3∨e=4):m8 b B=none:=by
 unfold m8;rw[h];rcases h34 with rfl|rfl<;>rfl
theorem gQ{b:f7}{B g p:Nat}(h:Wm.take b=(g,p,0))(hg:g<1∨1099511627776<g):m8 b B=none:=by
 unfold m8;rw[h];simp only;rw[if_neg (by omega)]
theorem dO{b t:f7}{B g p n e:Nat}(h:Wm.take b=(g,p,0))(hn:Wm.takeNums (b.drop p) 8=(t,n,e))(he:e≠0):m8 b B=none:=by
 unfold m8;rw[h];simp only
 split
 ·rw[hn]
  cases e with
  |zero=>exact absurd rfl he
  |succ e=>rfl
 ·rfl
theorem rH{b t:f7}{B g p n:Nat}(h:Wm.take b=(g,p,0))(hn:Wm.takeNums (b.drop p) 8=(t,n,0))(hl:p+n≠b.length):m8 b B=none:=by
 unfold m8;rw[h];simp only
 split
 ·rw[hn];simp only;rw[if_neg (fun e=>hl e.1)]
 ·rfl
theorem bM{b t:f7}{B g p n:Nat}(h:Wm.take b=(g,p,0))(hn:Wm.takeNums (b.drop p) 8=(t,n,0))(ht:aQ t B=false):m8 b B=none:=by
 unfold m8;rw[h];simp only
 split
 ·rw[hn];simp only;rw[if_neg (fun e=>by rw[ht]at e;cases e.2)]
 ·rfl
theorem iQ{b t:f7}{B g p n:Nat}(h:Wm.take b=(g,p,0))(h1:1≤g)(h2:g≤1099511627776)(hn:Wm.takeNums (b.drop p) 8=(t,n,0))(hl:p+n=b.length)(ht:aQ t B=true):m8 b B=some (g,t):=by
 unfold m8;rw[h];simp only;rw[if_pos ⟨h1,h2⟩,hn];simp only;rw[if_pos ⟨hl,ht⟩]
theorem xE(xs:f7): ∀(pre acc:f7),(∀x∈xs,x≤4611686018427387904)→
  Wm.tnums xs.length (pre++Wm.encAll xs) pre.length acc=(acc++xs,pre.length+(Wm.encAll xs).length,0):=by
 induction xs with
 |nil=>intro pre acc _;simp[Wm.tnums,Wm.encAll]
 |cons x xs b=>
  intro pre acc a;have hd:(pre++Wm.encAll (x::xs)).drop pre.length=Wm.enc x++Wm.encAll xs:=by simp[Wm.encAll]
  have f:=a x (by simp);have d:=Wm.take_enc x (Wm.encAll xs) (by omega);rw[List.length_cons,Wm.tnums,hd,d];simp only;rw[if_neg (by omega)];have e:pre++Wm.enc x++Wm.encAll xs=pre++Wm.encAll (x::xs):=by simp[Wm.encAll]
  have:=b (pre++Wm.enc x) (acc++[x]) (fun y c=>a y (by simp[c]));rw[e]at this;rw[List.length_append]at this;rw[this];simp[Wm.encAll,Nat.add_assoc]
theorem SM{t:f7}(h8:t.length≤8)(hx: ∀x∈t,x≤4611686018427387904):Wm.takeNums (Wm.enc t.length++Wm.encAll t) 8=(t,(Wm.enc t.length++Wm.encAll t).length,0):=by
 have a:=Wm.take_enc t.length (Wm.encAll t) (by omega);unfold Wm.takeNums;rw[a];simp only;rw[if_neg (by omega),xE t (Wm.enc t.length) [] hx];simp
theorem uS{g:Nat}{t:f7}{B:Nat}(h1:1≤g)(h2:g≤1099511627776)(h8:t.length≤8)(hB:B≤64)(ht:II t B):m8 (k9 g t) B=some (g,t):=by
 have a: ∀x∈t,x≤4611686018427387904:=by
  intro x a;obtain⟨i,b,rfl⟩:=List.getElem_of_mem a;rcases ht.2.2 i b with h|⟨_,h,_⟩
  ·rw[aA b]at h;omega
  ·rw[aA b]at h;omega
 have hd:(k9 g t).drop (Wm.enc g).length=Wm.enc t.length++Wm.encAll t:=by simp[k9]
 refine iQ (n:=(Wm.enc t.length++Wm.encAll t).length) (Wm.take_enc g _ (by omega)) h1 h2 (by rw[hd];exact SM h8 a) ?_ (xH ht);simp[k9]
theorem QJ{l:f7}(hl: ∀c∈l,c<256): ∀(k p:Nat) (acc t:f7) (n:Nat),p≤l.length→Wm.tnums k l p acc=(t,n,0)→n≤l.length∧t.length=acc.length+k:=by
 intro k
 induction k with
 |zero=>intro p acc t n f h;unfold Wm.tnums at h;simp only[Prod.mk.injEq]at h;obtain⟨rfl,rfl,_⟩:=h;exact⟨f,by simp⟩
 |succ k g=>
  intro p acc t n f h;unfold Wm.tnums at h;rcases Wm.take_form (l.drop p) (fun c o=>hl c (List.mem_of_mem_drop o))with ⟨e,j,d⟩|⟨x,m,i,_,r,q,_⟩
  ·rw[j]at h;rcases d with rfl|rfl<;>simp at h
  ·rw[i]at h;simp only at h
   split at h
   ·simp at h
   ·rw[List.length_drop]at q;obtain⟨a,b⟩:=g (p+m) (acc++[x]) t n (by omega) h;rw[List.length_append,List.length_singleton]at b;exact⟨a,by omega⟩
theorem rT{l t:f7}{n:Nat}(hl: ∀c∈l,c<256)(h:Wm.takeNums l 8=(t,n,0)):n≤l.length∧t.length≤8:=by
 unfold Wm.takeNums at h;rcases Wm.take_form l hl with ⟨e,g,d⟩|⟨x,m,f,_,j,i,_⟩
 ·rw[g]at h;rcases d with rfl|rfl<;>simp at h
 ·rw[f]at h;simp only at h
  split at h
  ·simp at h
  ·obtain⟨a,b⟩:=QJ hl x m [] t n i h;rw[List.length_nil]at b;exact⟨a,by omega⟩
theorem gR{b t:f7}{B g:Nat}(hl: ∀c∈b,c<256)(h:m8 b B=some (g,t)):1≤g∧g≤1099511627776∧t.length≤8∧II t B:=by
 rcases Wm.take_form b hl with ⟨e,i,k⟩|⟨x,m,a,_,q,p,_⟩
 ·rw[nZ i k]at h;cases h
 ·by_cases l:x<1∨1099511627776<x
  ·rw[gQ a l]at h;cases h
  ·obtain⟨t',n,e,d⟩: ∃t' n e,Wm.takeNums (b.drop m) 8=(t',n,e):=⟨_,_,_,rfl⟩;by_cases i:e=0
   ·subst i;by_cases f:m+n=b.length
    ·cases j:aQ t' B
     ·rw[bM a d j]at h;cases h
     ·rw[iQ a (by omega) (by omega) d f j]at h;simp only[Option.some.injEq,Prod.mk.injEq]at h;obtain⟨rfl,rfl⟩:=h;exact⟨by omega,by omega,(rT (fun c o=>hl c (List.mem_of_mem_drop o)) d).2,VC j⟩
    ·rw[rH a d f]at h;cases h
   ·rw[dO a d i]at h;cases h
theorem gE{t:f7}{B:Nat}(h:II t B): ∀x∈t,x<B:=by
 intro x b;obtain⟨i,a,rfl⟩:=List.getElem_of_mem b;have:=h.2.1;rcases h.2.2 i a with h|⟨_,h,_⟩
 ·rw[aA a]at h;omega
 ·rw[aA a]at h;exact h
def mO(t:f7):Nat→Nat→Nat
 |0,x=>x
 |f+1,x=>if x∈t then mO t f (x+1)else x
def q8(t:f7)(b:Nat):Nat:=mO t 64 (b+1)
theorem SO{t:f7}: ∀(f x:Nat),(∀y∈t,y<x+f)→mO t f x∉t:=by
 intro f
 induction f with
 |zero=>intro x h c;have:=h x c;omega
 |succ f a=>
  intro x h;unfold mO
  split
  ·exact a (x+1) (fun y b=>by have:=h y b;omega)
  ·assumption
theorem XN{t:f7}: ∀(f x:Nat),x≤mO t f x:=by
 intro f
 induction f with
 |zero=>intro x;exact Nat.le_refl _
 |succ f a=>
  intro x;unfold mO
  split
  ·have:=a (x+1);omega
  ·exact Nat.le_refl _
theorem SP{t:f7}: ∀(f x y:Nat),x≤y→y<mO t f x→y∈t:=by
 intro f
 induction f with
 |zero=>intro x y d a;unfold mO at a;omega
 |succ f b=>
  intro x y d a;unfold mO at a
  split at a
  ·rename_i c
   by_cases e:y=x
   ·rw[e];exact c
   ·exact b (x+1) y (by omega) a
  ·omega
section

variable{t:f7}{b r:Nat}

theorem rW(h: ∀y∈t,y<64):q8 t b∉t:=SO 64 (b+1) (fun y hy=>by have:=h y hy;omega)
theorem mN:b<q8 t b:=XN 64 (b+1)
theorem mM{y:Nat}(h1:b<y)(h2:y<q8 t b):y∈t:=SP 64 (b+1) y h1 h2
theorem Cf(h: ∀y∈t,y<64)(h1:b<r)(h2:r∉t)(h3: ∀y,b<y→y<r→y∈t):q8 t b=r:=by
 have a:=mN (t:=t) (b:=b);rcases Nat.lt_trichotomy (q8 t b) r with e|e|e
 ·exact absurd (h3 _ a e) (rW h)
 ·exact e
 ·exact absurd (mM h1 e) h2
end

theorem OB: ∀(t l:f7),l.Nodup→(∀y∈l,y∈t)→l.length≤t.length:=by
 intro t
 induction t with
 |nil=>
  intro l _ h
  cases l with
  |nil=>exact Nat.le_refl _
  |cons a l=>exact absurd (h a (by simp)) (by simp)
 |cons a t g=>
  intro l c h
  have f:(l.erase a).length≤t.length:=by
   refine g _ (c.erase a) fun y i=>?_;have b:=(List.Nodup.mem_erase_iff c).1 i;have:=h y b.2;simp only[List.mem_cons]at this;rcases this with e|e
   ·exact absurd e b.1
   ·exact e
  by_cases d:a∈l
  ·rw[List.length_erase_of_mem d]at f;simp only[List.length_cons];omega
  ·rw[List.erase_of_not_mem d]at f;simp only[List.length_cons];omega
theorem kH{t tk:f7}{b:Nat}(h: ∀y,2≤y→y≤b→y∈t∨y∈tk):q8 t b≤2+t.length+tk.length:=by
 have c:=OB (t++tk) (List.range' 2 (q8 t b-2)) List.nodup_range' (fun y a=>by
  rw[List.mem_range'_1]at a;rw[List.mem_append];by_cases e:y≤b
  ·exact h y a.1 e
  ·exact .inl (mM (t:=t) (b:=b) (y:=y) (by omega) (by omega)))
 rw[List.length_range',List.length_append]at c;omega
def K2(n:Nat):List Int→List (Int × f7)→Int
 |_,[]=>0
 |pre,(p,d)::l=>if p<0∨(n:Int)≤p then 91 else if p∈pre then 93 else if 1024<d.length then 6 else K2 n (pre++[p]) l
def x9(n:Nat)(ps:List (Int × f7)):Int:=K2 n [] ps
structure UB(n:Nat)(ps:List (Int × f7)):Prop where
 pg: ∀p∈ps,0≤p.1∧p.1<(n:Int)
 nd:(ps.map (·.1)).Nodup
 ln: ∀p∈ps,p.2.length≤1024
theorem eG{n:Nat}: ∀(ps:List (Int × f7)) (pre:List Int),K2 n pre ps=0→UB n ps∧ ∀p∈ps,p.1∉pre:=by
 intro ps
 induction ps with
 |nil=>intro pre _;exact⟨⟨fun p c=>by simp at c,by simp,fun p c=>by simp at c⟩,fun p c=>by simp at c⟩
 |cons a l i=>
  obtain⟨p,d⟩:=a;intro pre h;unfold K2 at h
  split at h
  ·omega
  ·rename_i m
   split at h
   ·omega
   ·rename_i k
    split at h
    ·omega
    ·rename_i j
     obtain⟨g,c⟩:=i _ h;refine⟨⟨fun q b=>?_,?_,fun q b=>?_⟩,fun q b=>?_⟩
     ·rcases List.mem_cons.1 b with rfl|b
      ·exact⟨by omega,by omega⟩
      ·exact g.pg q b
     ·rw[List.map_cons,List.nodup_cons];refine⟨fun f=>?_,g.nd⟩;obtain⟨q,b,e⟩:=List.mem_map.1 f;exact c q b (by rw[e];simp)
     ·rcases List.mem_cons.1 b with rfl|b
      ·simpa using j
      ·exact g.ln q b
     ·rcases List.mem_cons.1 b with rfl|b
      ·exact k
      ·exact fun f=>c q b (List.mem_append_left _ f)
theorem FF{n:Nat}: ∀(ps:List (Int × f7)) (pre:List Int),UB n ps→(∀p∈ps,p.1∉pre)→K2 n pre ps=0:=by
 intro ps
 induction ps with
 |nil=>intro pre _ _;rfl
 |cons a l g=>
  obtain⟨p,d⟩:=a;intro pre h f;have k:=h.pg (p,d) (by simp);have j:=h.ln (p,d) (by simp);have c:=h.nd;rw[List.map_cons,List.nodup_cons]at c;simp only at k j;unfold K2;rw[if_neg (by omega),if_neg (f (p,d) (by simp)),if_neg (by omega)];refine g _ ⟨fun q b=>h.pg q (by simp[b]),c.2,fun q b=>h.ln q (by simp[b])⟩ (fun q b i=>?_);rcases List.mem_append.1 i with e|e
  ·exact f q (by simp[b]) e
  ·simp only[List.mem_singleton]at e;exact c.1 (List.mem_map.2 ⟨q,b,e⟩)
theorem aX{n:Nat}{ps:List (Int × f7)}(h:UB n ps):ps.length≤n:=by
 have k:=OB (List.range n) (ps.map (·.1.toNat)) ?_ fun y i=>?_
 ·simpa using k
 ·have: ∀(l:List (Int × f7)),(∀p∈l,0≤p.1)→(l.map (·.1)).Nodup→(l.map (·.1.toNat)).Nodup:=by
   intro l
   induction l with
   |nil=>intro _ _;simp
   |cons a l g=>
    intro b d;rw[List.map_cons,List.nodup_cons]at d⊢;refine⟨fun j=>?_,g (fun p f=>b p (by simp[f])) d.2⟩;obtain⟨q,c,e⟩:=List.mem_map.1 j;have o:=b q (by simp[c]);have m:=b a (by simp);exact d.1 (List.mem_map.2 ⟨q,c,by omega⟩)
  exact this ps (fun p b=>(h.pg p b).1) h.nd
 ·obtain⟨q,c,rfl⟩:=List.mem_map.1 i;have:=h.pg q c;exact List.mem_range.2 (by omega)
theorem FO(l:f7):(Wm.encAll l).length≤10*l.length:=by
 induction l with
 |nil=>simp[Wm.encAll]
 |cons x l a=>
  have:=(Wm.enc_len x).2;simp only[Wm.encAll,List.length_append,List.length_cons];omega
theorem bN{g:Nat}{t:f7}(h:t.length≤8):(k9 g t).length≤100:=by
 have c:=(Wm.enc_len g).2;have b:=(Wm.enc_len t.length).2;have a:=FO t;unfold k9;rw[List.length_append,List.length_append];omega
theorem kP(l:f7)(h: ∀x∈l,x<18446744073709551616): ∀c∈Wm.encAll l,c<256:=by
 induction l with
 |nil=>simp[Wm.encAll]
 |cons x l b=>
  intro c a;simp only[Wm.encAll,List.mem_append]at a;rcases a with a|a
  ·exact Wm.enc_lt x (h x (by simp)) c a
  ·exact b (fun y d=>h y (by simp[d])) c a
theorem eV{g:Nat}{t:f7}(h:t.length≤8)(hg:g<18446744073709551616)(ht: ∀x∈t,x<64): ∀c∈k9 g t,c<256:=by
 intro c a;unfold k9 at a;rw[List.mem_append,List.mem_append]at a;rcases a with a|a|a
 ·exact Wm.enc_lt g hg c a
 ·exact Wm.enc_lt _ (by omega) c a
 ·exact kP t (fun x b=>by have:=ht x b;omega) c a
end
section
theorem EL:(Tryz.prog.info? 75).map (fun i=>(i.zero,i.size,i.bytes))=some (some (.slice none 0 0),1,24):=by kernel_rfl
theorem cR{P:Program}{e:TypeId}{z:Value}{s b:Nat}(h:(P.info? e).map (fun i=>(i.zero,i.size,i.bytes))=some (some z,s,b)): ∃i,P.info? e=some i∧i.zero=some z∧i.size=s∧i.bytes=b:=by
 obtain⟨i,c,a⟩:=Option.map_eq_some_iff.1 h;simp only[Prod.mk.injEq]at a;exact⟨i,c,a.1,a.2.1,a.2.2⟩
theorem A7(w:d9)(g i:Nat)(u:Value):w.grownBy (w.setCell ⟨g,i,none⟩ u) (some g):=
 ⟨rfl,rfl,rfl,by simp[go_sem],fun k hk hne=>by rw[Below.heap_setCell w _ _ k (by rintro rfl;exact hne rfl)]⟩
theorem dK{x:Int}(h0:0≤x)(h1:x<9223372036854775808):IntKind.i64.wrap x=x:=by
 rw[IntKind.wrap_i64];omega
theorem lT{w w':d9}{base e s n:Nat}{v:Value}{xs:List Value}(h:w.ownsRow base e s v n xs)(hk: ∀x,v.ownBlock=some x→w'.heap[x]?=w.heap[x]?):w'.ownsRow base e s v n xs:=by
 refine⟨h.1,?_⟩;rcases h.2 with d|⟨g,a,cur,rfl,c,b,r⟩
 ·exact .inl d
 ·exact .inr ⟨g,a,cur,rfl,c,by rw[hk g rfl];exact b,r⟩
theorem K9{w:d9}{base e s n:Nat}{v:Value}{xs:List Value}(h:w.ownsRow base e s v n xs): ∃ao cap,v= .slice ao n cap∧n≤cap∧cap≤maxLen:=by
 rcases h.2 with ⟨rfl,rfl⟩|⟨g,cap,cur,rfl,d,c,b,a,_⟩
 ·exact⟨none,0,rfl,Nat.le_refl _,by simp[maxLen]⟩
 ·exact⟨_,cap,rfl,b,a⟩
theorem C9{w:d9}{v:Value}{l:f7}(h:Bv w v l): ∃ao cap,v= .slice ao l.length cap∧l.length≤cap∧cap≤maxLen:=by
 obtain⟨⟨ao,cap,rfl,a,b,_⟩,_⟩:=h;rw[i8]at a⊢;exact⟨ao,cap,rfl,a,b⟩
theorem Bv.keep{w w':d9}{v:Value}{l:f7}(h:Bv w v l)(hk: ∀x,v.ownBlock=some x→w'.heap[x]?=w.heap[x]?):Bv w' v l:=by
 obtain⟨⟨o,e,rfl,n,m,k,j⟩,g⟩:=h;refine⟨⟨o,e,rfl,n,m,k,fun i f=>?_⟩,g⟩;obtain⟨b,d,rfl,c⟩:=j i f;exact⟨b,d,rfl,by rw[World.cell?_of_block (w:=w) (a:=⟨b,d+i,none⟩) (hk b rfl)];exact c⟩
structure Ch(D:n9)(w w':d9):Prop where
 os:w'.os=w.os
 tape:w'.tape=w.tape
 output:w'.output=w.output
 size:w.heap.size≤w'.heap.size
 block: ∀k,k<w.heap.size→ ¬D k→w'.heap[k]?=w.heap[k]?
theorem Ch.refl(D:n9)(w:d9):Ch D w w:=⟨rfl,rfl,rfl,Nat.le_refl _,fun _ _ _=>rfl⟩
theorem Ch.trans{D E:n9}{a b c:d9}(h:Ch D a b)(k:Ch E b c)(he: ∀x,E x→D x∨a.heap.size≤x):Ch D a c:=
 ⟨k.os.trans h.os,k.tape.trans h.tape,k.output.trans h.output,Nat.le_trans h.size k.size,fun x hx hd=>by
  rw[k.block x (Nat.lt_of_lt_of_le hx h.size) (fun e=>by rcases he x e with q|q;exact hd q;omega),h.block x hx hd]⟩
theorem Ch.of_below{D:n9}{w w':d9}(h:f8 w w'):Ch D w w':=⟨h.os,h.tape,h.output,h.size,fun k hk _=>h.block k hk⟩
theorem Ch.to_below{D:n9}{w w':d9}{B:Nat}(h:Ch D w w')(hB:B≤w.heap.size)(hd: ∀x,D x→B≤x):Below B w w':=⟨h.os,h.tape,h.output,h.size,fun k hk=>h.block k (by omega) (fun e=>by have:=hd k e;omega)⟩
theorem Ch.of_grown{D:n9}{w w':d9}{r:Option Nat}(h:w.grownBy w' r)(hr: ∀x,r=some x→D x):Ch D w w':=⟨h.os,h.tape,h.output,h.size,fun k hk hd=>h.block k hk (fun e=>hd (hr k e.symm))⟩
abbrev cb(l:f7):List Value:=(ib l).map (Value.int .u8)
def bk(ls:List f7)(i:Nat):f7:=ls.getD i []
theorem jT{ls:List f7}{i:Nat}(h:i<ls.length):bk ls i=ls[i]:=by unfold bk;rw[List.getD_eq_getElem?_getD,List.getElem?_eq_getElem h];rfl
theorem fQ{ls:List f7}{i:Nat}(h:i<ls.length):bk ls i∈ls:=by rw[jT h];exact List.getElem_mem h
theorem Ji{a b:List f7}(h:a.length=b.length)(hn: ∀i,i<a.length→bk a i=bk b i):a=b:=by
 refine List.ext_getElem h fun i c d=>?_;have:=hn i c;rwa [jT c,jT d]at this
theorem cF{ls:List f7}{i j:Nat}(hj:j<ls.length)(b:f7):bk (ls.set i b) j=if i=j then b else bk ls j:=by
 rw[jT (by simpa using hj),List.getElem_set,jT hj]
def PS(w:d9)(v:Value)(ls:List f7):Prop:=
 ∃ao cap,v= .slice ao ls.length cap∧ls.length≤cap∧cap≤maxLen∧(ao=none→cap=0)∧
  ∀i,i<ls.length→ ∃b off u,ao=some ⟨b,off,none⟩∧w.cell? ⟨b,off+i,none⟩=some u∧Bv w u (bk ls i)
theorem PS.below{w w':d9}{v:Value}{ls:List f7}(h:PS w v ls)(hb:f8 w w'):PS w' v ls:=by
 obtain⟨o,c,e,l,k,j,g⟩:=h;refine⟨o,c,e,l,k,j,fun i f=>?_⟩;obtain⟨b,a,u,n,d,m⟩:=g i f;exact⟨b,a,u,n,by rw[hb.cell (p:=⟨b,a+i,none⟩) (c8 d)];exact d,m.below hb⟩
theorem PS.form{w:d9}{v:Value}{ls:List f7}(h:PS w v ls): ∃ao cap,v= .slice ao ls.length cap∧ls.length≤cap∧cap≤maxLen:=by
 obtain⟨ao,cap,e,b,a,d,c⟩:=h;exact⟨ao,cap,e,b,a⟩
def Oc(w:d9)(u:Value)(b:f7):Prop:=w.ownsRow 0 5 1 u b.length (cb b)
theorem Oc.bv{w:d9}{u:Value}{b:f7}(h:Oc w u b)(hb: ∀c∈b,c<256):Bv w u b:=p7 h hb
theorem Oc.nil(w:d9):Oc w (.slice none 0 0) []:=World.ownsRow_nil _ _ _ _
theorem Oc.keep{w w':d9}{u:Value}{b:f7}(h:Oc w u b)(hk: ∀x,u.ownBlock=some x→w'.heap[x]?=w.heap[x]?):Oc w' u b:=lT h hk
theorem Oc.block{w:d9}{u:Value}{b:f7}(h:Oc w u b){x:Nat}(hx:u.ownBlock=some x): ∃cur,w.heap[x]?=some (.cells cur 5 (0,0)):=by
 rcases h.2 with ⟨rfl,_⟩|⟨g,c,cur,rfl,d,a,r⟩
 ·cases hx
 ·simp[Value.ownBlock]at hx;subst hx;exact⟨cur,a⟩
theorem Oc.below{w w':d9}{u:Value}{b:f7}(h:Oc w u b)(hb:f8 w w'):Oc w' u b:=iU h hb
def Gr(E:n9)(w:d9)(g cap:Nat)(ls:List f7):Prop:=
 (∃cur,w.heap[g]?=some (.cells cur 75 (0,0))∧cur.size=cap∧ ∀i,i<ls.length→ ∃u,cur[i]?=some u∧Oc w u (bk ls i)∧ ∀x,u.ownBlock=some x→E x)∧ls.length≤cap∧cap≤maxLen
def Bx(D:n9)(w:d9)(u:Value)(b:f7):Prop:=Bv w u b∧(b=[]∨ ∀x,u.ownBlock=some x→ ¬D x)
theorem Bv.any{w w':d9}{u:Value}(h:Bv w u []):Bv w' u []:=by
 obtain⟨⟨j,a,e,g,f,d,k⟩,c⟩:=h;exact⟨⟨j,a,e,g,f,d,fun i b=>by simp[ib]at b⟩,c⟩
theorem Bv.lt{w:d9}{u:Value}{b:f7}(h:Bv w u b)(hb:b≠[]){x:Nat}(hx:u.ownBlock=some x):x<w.heap.size:=by
 obtain⟨⟨k,e,rfl,j,i,g,a⟩,f⟩:=h;obtain⟨b',d,rfl,c⟩:=a 0 (by rw[i8];exact List.length_pos_iff.2 hb);simp[Value.ownBlock]at hx;subst hx;exact c8 c
theorem Bx.ch{D D':n9}{w w':d9}{u:Value}{b:f7}(h:Bx D w u b)(hc:Ch D w w')(hd: ∀x,D' x→D x∨w.heap.size≤x):Bx D' w' u b:=by
 by_cases c:b=[]
 ·subst c;exact⟨h.1.any,.inl rfl⟩
 ·have d:=h.2.resolve_left c;refine⟨h.1.keep (fun x a=>hc.block x (h.1.lt c a) (d x a)),.inr fun x a e=>?_⟩;rcases hd x e with q|q
  ·exact d x a q
  ·have:=h.1.lt c a;omega
section

variable{E:n9}{w w':d9}{g cap:Nat}{ls:List f7}

theorem Gr.lt(h:Gr E w g cap ls):g<w.heap.size:=by
 obtain⟨⟨cur,a,_⟩,_⟩:=h;exact(Array.getElem?_eq_some_iff.1 a).1
theorem Gr.keep(h:Gr E w g cap ls)(hg:w'.heap[g]?=w.heap[g]?)(hk: ∀x,E x→x<w.heap.size→x≠g→w'.heap[x]?=w.heap[x]?):Gr E w' g cap ls:=by
 obtain⟨⟨cur,f,m,l⟩,k⟩:=h;refine⟨⟨cur,by rw[hg];exact f,m,fun i j=>?_⟩,k⟩;obtain⟨u,a,b,c⟩:=l i j;refine⟨u,a,b.keep (fun x d=>hk x (c x d) (b.lt x d).2 ?_),c⟩;rintro rfl;obtain⟨cur2,e⟩:=b.block d;rw[f]at e;simp at e
theorem Gr.below(h:Gr E w g cap ls)(hb:f8 w w'):Gr E w' g cap ls:=h.keep (hb.block g h.lt) (fun x _ hx _=>hb.block x hx)
theorem Gr.mono{E':n9}(h:Gr E w g cap ls)(he: ∀x,E x→E' x):Gr E' w g cap ls:=by
 obtain⟨⟨cur,l,k,j⟩,f⟩:=h;refine⟨⟨cur,l,k,fun i e=>?_⟩,f⟩;obtain⟨u,a,b,c⟩:=j i e;exact⟨u,a,b,fun x d=>he x (c x d)⟩
theorem Gr.at(h:Gr E w g cap ls){i:Nat}(hi:i<ls.length): ∃u,w.cell? ⟨g,i,none⟩=some u∧Oc w u (bk ls i)∧ ∀x,u.ownBlock=some x→E x∧x≠g:=by
 obtain⟨⟨cur,f,l,j⟩,k⟩:=h;obtain⟨u,a,b,c⟩:=j i hi;refine⟨u,by rw[cell_of_row w g i cur _ (0,0) f];exact a,b,fun x d=>⟨c x d,?_⟩⟩;rintro rfl;obtain⟨cur2,e⟩:=b.block d;rw[f]at e;simp at e
theorem Gr.soft(h:Gr E w g cap ls)(i:Nat):w.frozen? ⟨g,i,none⟩=false:=by
 obtain⟨⟨cur,a,_⟩,_⟩:=h;simp[World.frozen?,a]
theorem V5{cur:Array Value}{t:TypeId}(h:w.heap[g]?=some (.cells cur t (0,0)))(i:Nat)(u:Value):(w.setCell ⟨g,i,none⟩ u).heap[g]?=some (.cells (cur.setIfInBounds i u) t (0,0)):=by
 rw[Sort.setCell_eq];simp[Sort.mapBlock,Array.getElem?_modify,h,Sort.onCells]
theorem l8(i:Nat)(u:Value){x:Nat}(hx:x≠g):(w.setCell ⟨g,i,none⟩ u).heap[x]?=w.heap[x]?:=Below.heap_setCell w _ _ x hx
theorem Gr.set(h:Gr E w g cap ls){i:Nat}(hi:i<ls.length){u:Value}{b:f7}(hu:Oc w u b)(hE: ∀x,u.ownBlock=some x→E x):Gr E (w.setCell ⟨g,i,none⟩ u) g cap (ls.set i b):=by
 obtain⟨⟨cur,k,o,n⟩,m,l⟩:=h
 have ng: ∀{u:Value}{b:f7},Oc w u b→ ∀x,u.ownBlock=some x→x≠g:=by
  intro u b hu x d e;subst e;obtain⟨cur2,e⟩:=hu.block d;rw[k]at e;simp at e
 refine⟨⟨cur.setIfInBounds i u,V5 k i u,by simpa using o,fun j f=>?_⟩,by simpa using m,l⟩;rw[List.length_set]at f;rw[cF f];by_cases e:i=j
 ·subst e;rw[if_pos rfl];exact⟨u,by rw[Array.getElem?_setIfInBounds,if_pos rfl,if_pos (by omega)],hu.keep (fun x d=>l8 i u (ng hu x d)),hE⟩
 ·rw[if_neg e];obtain⟨v,a,b,c⟩:=n j f;exact⟨v,by rw[Array.getElem?_setIfInBounds,if_neg e];exact a,b.keep (fun x d=>l8 i u (ng b x d)),c⟩
theorem Gr.pv(h:Gr E w g cap ls)(hb: ∀b∈ls,∀c∈b,c<256):PS w (.slice (some ⟨g,0,none⟩) ls.length cap) ls:=by
 refine⟨_,cap,rfl,h.2.1,h.2.2,by simp,fun i d=>?_⟩;obtain⟨u,a,b,c⟩:=h.at d;exact⟨g,0,u,rfl,by rw[Nat.zero_add];exact a,b.bv (hb _ (fQ d))⟩
end

theorem fP{v:Value}{l:f7}{w:d9}(ho:Bv w v l)(hl:l.length≤140737488355328):
  Calls Tryz.prog 128 #[v] w fun e w'=> ∃v',e= .returned v'∧w'.ownsRow w.heap.size 5 1 v' l.length (cb l)∧f8 w w':=by
 have HO:=b9 ho;obtain⟨⟨k,s,rfl,f,j,h,_⟩,_⟩:=ho;rw[i8]at f;rw[i8]at HO⊢;have HL:=b9 hl;have m:=b9 h;have r:=b9 f;have q: ∀(w:d9) (a:Option Addr) (n c:Nat),(binOp .eql 75 (.slice a n c) (.slice none 0 0)).run Tryz.prog w= .ok (.bool a.isNone) w:=fun w a n c=>Lib.run_eql_slice_nil w 75 5 a n c 0 0 Tryz.underlying75;clear hl f j h
 cases k with
 |none=>
  have i:=m.o rfl;subst i;have g:l.length=0:=by have:=r.o;omega
  have hl:=List.eq_nil_of_length_eq_zero g;subst hl;rw[List.length_nil];go_in;go_wp2_with fail;go_ret;exact⟨_,rfl,World.ownsRow_nil _ _ _ _,I5 _⟩
 |some p=>
  go_in;go_wp2_with (at_builtin;refine g7 (by rfl) _ _ 75 (by rfl) w.heap.size 5 .u8 1 Tryz.underlying75 t9 _ 0 [] (by rfl) (World.ownsRow_made w #[] 0 (Nat.le_refl _) (by simp[maxLen]) (by simp)) _ (ib l) (by rfl) (HO.o.below (a8 _ _)).1 (by have:=HL.o;rw[i8];simp[maxLen];omega) (by have:=HL.o;rw[i8];omega) (by simp) ?_;intro v' t b d;go_frame);go_ret;refine⟨_,rfl,by rw[i8]at b;simpa using b,?_⟩;exact(a8 w (Obj.cells #[] 5)).grown d (by simp) (by simp[Value.ownBlock])
theorem cN{v:Value}{l:f7}{w:d9}(ho:Bv w v l)(hl:l.length≤140737488355328):
  Calls Tryz.prog 129 #[v] w fun e w'=> ∃v',e= .returned v'∧w'.ownsRow w.heap.size 5 1 v' l.length (cb l)∧f8 w w':=by
 have HO:=b9 ho;obtain⟨⟨i,g,rfl,c,f,d,_⟩,_⟩:=ho;rw[i8]at c;rw[i8]at HO⊢;have HL:=b9 hl;clear hl c f d;go_in;go_wp2_with (at_builtin;refine g7 (by rfl) _ _ 75 (by rfl) w.heap.size 5 .u8 1 Tryz.underlying75 t9 _ 0 [] (by rfl) (World.ownsRow_made w #[] 0 (Nat.le_refl _) (by simp[maxLen]) (by simp)) _ (ib l) (by rfl) (HO.o.below (a8 _ _)).1 (by have:=HL.o;rw[i8];simp[maxLen];omega) (by have:=HL.o;rw[i8];omega) (by simp) ?_;intro v' h a b;go_frame);go_ret;refine⟨_,rfl,by rw[i8]at a;simpa using a,?_⟩;exact(a8 w (Obj.cells #[] 5)).grown b (by simp) (by simp[Value.ownBlock])
end
section
open Ieee Go.RowKit

theorem Dt(k:Int):r9 k K0=K0:=by unfold r9;rw[if_pos (show K0.h=false from rfl)]
theorem qF{k:Int}(h:k=1∨k=2)(b:Nat):r9 k ⟨true,b⟩=⟨true,b⟩:=by unfold r9;rw[if_neg (by simp),if_pos h]
theorem mX{k:Int}(h:k=3∨k=4)(b:Nat):r9 k ⟨true,b⟩=⟨true,F4 b⟩:=by unfold r9;rw[if_neg (by simp),if_neg (by omega),if_pos h]
theorem Ds{k:Int}(h:s9 k=false)(v:Vl):r9 k v=K0:=by
 have:=lH h;unfold r9
 split
 ·rfl
 rw[if_neg (by omega),if_neg (by omega)]
theorem Ip(k:Int)(b:Nat):r9 k ⟨false,b⟩=K0:=by unfold r9;rw[if_pos rfl]
theorem FC(k:Int)(v:Vl):(r9 k v=K0∧(v.h=false∨s9 k=false))∨(v.h=true∧(k=1∨k=2)∧r9 k v=⟨true,v.b⟩)∨(v.h=true∧(k=3∨k=4)∧r9 k v=⟨true,F4 v.b⟩):=by
 obtain⟨h,b⟩:=v
 cases h
 ·exact .inl ⟨Ip k b,.inl rfl⟩
 cases a:s9 k
 ·exact .inl ⟨Ds a _,.inr rfl⟩
 rcases sC.1 a with h|h|h|h
 ·exact .inr (.inl ⟨rfl,.inl h,qF (.inl h) b⟩)
 ·exact .inr (.inl ⟨rfl,.inr h,qF (.inr h) b⟩)
 ·exact .inr (.inr ⟨rfl,.inl h,mX (.inl h) b⟩)
 ·exact .inr (.inr ⟨rfl,.inr h,mX (.inr h) b⟩)
theorem vZ(k:Int)(v:Vl):r9 k (r9 k v)=r9 k v:=by
 rcases FC k v with ⟨e,_⟩|⟨_,h,e⟩|⟨_,h,e⟩
 ·rw[e,Dt]
 ·rw[e,qF h]
 ·rw[e,mX h,dD]
theorem YM(k:Int){a b:Vl}(ha:r9 k a=a)(hb:r9 k b=b):r9 k (N5 k a b)=N5 k a b:=by
 unfold N5
 split
 ·exact hb
 split
 ·exact ha
 split
 ·rename_i h;subst h;rw[mX (.inl rfl),jS]
 split
 ·rename_i h;subst h;rw[mX (.inr rfl),nN]
 ·rename_i d i g f
  have c:k=1∨k=2:=by
   rcases FC k a with ⟨e,_⟩|⟨_,h,e⟩|⟨_,h,e⟩
   ·exact absurd (by rw[←ha,e];rfl) d
   ·exact h
   ·omega
  rw[qF c]
theorem vY(k:Int)(a b:Vl):r9 k (J4 k a b)=J4 k a b:=YM k (vZ k a) (vZ k b)
end
section
open Ieee Go.RowKit

attribute [local go_sem] aB K8
theorem N3(k:Int){v:Vl}(hv:v.ok)(w:d9):
  Calls Tryz.prog 120 #[.int .i64 k,.agg #[.bool v.h,.int .u64 v.b]] w fun e w'=>e= .returned (.agg #[.bool (r9 k v).h,.int .u64 (r9 k v).b])∧f8 w w':=by
 obtain⟨h,b⟩:=v
 cases hk:s9 k
 ·have n:=lH hk
  have e:r9 k ⟨h,b⟩=K0:=by
   unfold r9
   split
   ·rfl
   rw[if_neg (by omega),if_neg (by omega)]
  rw[e];clear n e;go_in;go_wp2_with (go_at_call 43;refine(t8 _ _).mono ?_;rintro e w' ⟨rfl,rfl⟩);all_goals (refine bodyPost_ret (v:= .agg #[.bool false,.int .u64 0]) (by simp[results,Tryz.results120,go_sem]) rfl ⟨rfl,?_⟩;exact D9 _ _ _)
 have c:=sC.1 hk
 cases h
 ·have e:r9 k ⟨false,b⟩=K0:=by unfold r9;rw[if_pos rfl]
  rw[e];clear c e;go_in;go_wp2_with (go_at_call 43;refine(t8 _ _).mono ?_;rintro e w' ⟨rfl,rfl⟩);all_goals (refine bodyPost_ret (v:= .agg #[.bool false,.int .u64 0]) (by simp[results,Tryz.results120,go_sem]) rfl ⟨rfl,?_⟩;exact D9 _ _ _)
 by_cases a:k=1∨k=2
 ·have e:r9 k ⟨true,b⟩=⟨true,b⟩:=by unfold r9;rw[if_neg (by simp),if_pos a]
  rw[e];clear c e;rcases a with rfl|rfl
  all_goals
   go_in;go_wp2_with (go_at_call 43;refine(t8 _ _).mono ?_;rintro e w' ⟨rfl,rfl⟩);refine bodyPost_ret (v:= .agg #[.bool true,.int .u64 b]) (by simp[results,Tryz.results120,go_sem]) rfl ⟨rfl,?_⟩;exact D9 _ _ _
 have d:k=3∨k=4:=by omega
 have e:r9 k ⟨true,b⟩=UF k b:=by
  unfold r9 UF;rw[if_neg (by simp),if_neg a,if_pos d,if_neg (by omega),if_neg (by omega)]
 rw[e];clear c e a;rcases d with rfl|rfl
 all_goals
  go_in
  go_wp2_with (first
   |(go_at_call 43;refine(t8 _ _).mono ?_;rintro e w' ⟨rfl,rfl⟩)
   |(go_at_call 174;refine(eA _ _).mono ?_;rintro e w' ⟨rfl,rfl⟩))
  refine(rJ _ hv _).mono ?_;rintro e m ⟨rfl,f⟩;obtain⟨i,g,l,j⟩:=(MU (w.alloc (Obj.cells #[Value.bool true,Value.int IntKind.u64 (b:Int)] 55))).below f (by simp[go_sem]);have HB:c6 (f8 w m):=a9 (D9 _ _ _) f;clear f;rw[eQ]at i g l j;go_wp2_with fail;refine bodyPost_ret (by simp[results,Tryz.results120,go_sem,i,g]) rfl ⟨rfl,?_⟩;exact C4 HB.o _ (Nat.le_succ _) _ _
end
section
open Ieee Go.RowKit

structure Cl where
 k:Nat
 p:Vl
 c:Vl
 n:Int
def Cl.ok(c:Cl):Prop:=c.p.ok∧c.c.ok
def bP(c:Cl)(b:Int):Cl:=if b<1∨b≠c.n then c else⟨c.k,c.p,c.p,c.n-1⟩
def aL(c:Cl)(m:Int):Vl:=if c.n≤m then c.c else c.p
def aG(c:Cl):Bool:=!c.p.h&&!c.c.h
def AK(a b:Vl):Bool:=(a.h==b.h)&&(a.b==b.b)
def fK(k:Int)(c:Cl):Bool:=s9 k&&AK (r9 k c.p) c.p&&AK (r9 k c.c) c.c&&decide (0≤c.n)&&decide (c.n≤1099511627776)
def j9:Cl:=⟨0,K0,K0,0⟩
def Z1(k:Int)(c:Cl)(b:Int):Int:=if s9 k=false∨b<1 then 1 else if b<c.n then 100 else 0
def I6(c:Cl)(b:Int):Vl:=if c.n<b then c.c else c.p
def N2(k:Int)(c:Cl)(b:Int)(v:Vl):Cl:=if Z1 k c b=0 then⟨c.k,I6 c b,J4 k (I6 c b) v,b⟩else j9
theorem ND{b:Int}(h:1≤b)(hb:b≤9223372036854775807):IntKind.i64.wrap (b-1)=b-1:=by
 rw[IntKind.wrap_i64];omega
theorem CE(c:Cl){b:Int}(hb:b≤9223372036854775807)(w:d9):
  Calls Tryz.prog 178 #[.agg #[.int .u64 c.k,.bool c.p.h,.int .u64 c.p.b,.bool c.c.h,.int .u64 c.c.b,.int .i64 c.n],.int .i64 b] w fun e w'=>e= .returned (.agg #[.int .u64 (bP c b).k,.bool (bP c b).p.h,.int .u64 (bP c b).p.b,.bool (bP c b).c.h,.int .u64 (bP c b).c.b,.int .i64 (bP c b).n])∧f8 w w':=by
 by_cases h:b<1∨b≠c.n
 ·have e:bP c b=c:=if_pos h;rw[e];clear e;go_in;go_wp2_with fail
  all_goals first
   |(exfalso;simp_all;done)
   |(exfalso;simp_all;omega)
   |(refine bodyPost_ret (by simp[results,Tryz.results178,go_sem]) rfl ⟨rfl,?_⟩;exact D9 _ _ _)
 ·have e:bP c b=⟨c.k,c.p,c.p,c.n-1⟩:=if_neg h;rw[e];clear e;have d:1≤b:=by omega
  have a:b=c.n:=by omega
  subst a;have f:=ND d hb;clear h;go_in;go_wp2_with fail
  all_goals first
   |(exfalso;simp_all;done)
   |(exfalso;simp_all;omega)
   |(refine bodyPost_ret (by simp[results,Tryz.results178,go_sem]) rfl ⟨rfl,?_⟩;exact D9 _ _ _)
theorem xW(c:Cl){b:Int}(hb:b≤9223372036854775807)(w:d9):
  Calls Tryz.prog 117 #[.agg #[.int .u64 c.k,.bool c.p.h,.int .u64 c.p.b,.bool c.c.h,.int .u64 c.c.b,.int .i64 c.n],.int .i64 b] w fun e w'=>e= .returned (.agg #[.int .u64 (bP c b).k,.bool (bP c b).p.h,.int .u64 (bP c b).p.b,.bool (bP c b).c.h,.int .u64 (bP c b).c.b,.int .i64 (bP c b).n])∧f8 w w':=by
 by_cases h:b<1∨b≠c.n
 ·have e:bP c b=c:=if_pos h;rw[e];clear e;go_in;go_wp2_with fail
  all_goals first
   |(exfalso;simp_all;done)
   |(exfalso;simp_all;omega)
   |(refine bodyPost_ret (by simp[results,Tryz.results117,go_sem]) rfl ⟨rfl,?_⟩;exact D9 _ _ _)
 ·have e:bP c b=⟨c.k,c.p,c.p,c.n-1⟩:=if_neg h;rw[e];clear e;have d:1≤b:=by omega
  have a:b=c.n:=by omega
  subst a;have f:=ND d hb;clear h;go_in;go_wp2_with fail
  all_goals first
   |(exfalso;simp_all;done)
   |(exfalso;simp_all;omega)
   |(refine bodyPost_ret (by simp[results,Tryz.results117,go_sem]) rfl ⟨rfl,?_⟩;exact D9 _ _ _)
theorem yB(c:Cl)(m:Int)(w:d9):
  Calls Tryz.prog 141 #[.agg #[.int .u64 c.k,.bool c.p.h,.int .u64 c.p.b,.bool c.c.h,.int .u64 c.c.b,.int .i64 c.n],.int .i64 m] w fun e w'=>e= .returned (.agg #[.bool (aL c m).h,.int .u64 (aL c m).b])∧f8 w w':=by
 go_in;go_wp2_with fail
 ·rw[show aL c m=c.c from if_pos (by assumption)];exact bodyPost_ret (by simp[results,Tryz.results141,go_sem]) rfl ⟨rfl,D9 _ _ _⟩
 ·rw[show aL c m=c.p from if_neg (by omega)];exact bodyPost_ret (by simp[results,Tryz.results141,go_sem]) rfl ⟨rfl,D9 _ _ _⟩
theorem tV(c:Cl)(m:Int)(w:d9):
  Calls Tryz.prog 125 #[.agg #[.int .u64 c.k,.bool c.p.h,.int .u64 c.p.b,.bool c.c.h,.int .u64 c.c.b,.int .i64 c.n],.int .i64 m] w fun e w'=>e= .returned (.agg #[.bool (aL c m).h,.int .u64 (aL c m).b])∧f8 w w':=by
 go_in;go_wp2_with fail
 ·rw[show aL c m=c.c from if_pos (by assumption)];exact bodyPost_ret (by simp[results,Tryz.results125,go_sem]) rfl ⟨rfl,D9 _ _ _⟩
 ·rw[show aL c m=c.p from if_neg (by omega)];exact bodyPost_ret (by simp[results,Tryz.results125,go_sem]) rfl ⟨rfl,D9 _ _ _⟩
theorem fN(c:Cl)(w:d9):
  Calls Tryz.prog 91 #[.agg #[.int .u64 c.k,.bool c.p.h,.int .u64 c.p.b,.bool c.c.h,.int .u64 c.c.b,.int .i64 c.n]] w fun e w'=>e= .returned (.bool (aG c))∧f8 w w':=by
 unfold aG
 cases c.p.h<;>cases c.c.h
 all_goals
  go_in;go_wp2_with fail;go_ret;exact⟨rfl,a8 _ _⟩
theorem U7(c:Cl)(w:d9):
  Calls Tryz.prog 108 #[.agg #[.int .u64 c.k,.bool c.p.h,.int .u64 c.p.b,.bool c.c.h,.int .u64 c.c.b,.int .i64 c.n]] w fun e w'=>e= .returned (.bool (aG c))∧f8 w w':=by
 unfold aG
 cases c.p.h<;>cases c.c.h
 all_goals
  go_in;go_wp2_with fail;go_ret;exact⟨rfl,a8 _ _⟩
theorem zQ(a b:Vl)(w:d9):(binOp .eql 55 (.agg #[.bool a.h,.int .u64 a.b]) (.agg #[.bool b.h,.int .u64 b.b])).run Tryz.prog w= .ok (.bool (AK a b)) w:=by
 have u0:=Tryz.underlying4;have u1:=Tryz.underlying37;have l:=Tryz.isAgg4;have k:=Tryz.isAgg37;have j:=Tryz.sizeOf4;have i:=Tryz.sizeOf37;have g:Tryz.prog.underlying 55=some (.struct (Tryz.prog.fieldsOf 55)):=by kernel_rfl
 have f:Tryz.prog.stoodInHeld 55=false:=by kernel_rfl
 rw[run_eql_struct,show(10000:Nat)=9999+1 from rfl,run_equalIn_agg w 9999 55 _ _ g f];simp only[Program.fieldsOf,Tryz.underlying55];unfold AK;by_cases d:a.h=b.h
 ·by_cases e:a.b=b.b
  ·rw[d,e];go_simp
  ·have c:(a.b==b.b)=false:=by simpa using e
   rw[d,c];go_simp;omega
 ·have c:(a.h==b.h)=false:=by simpa using d
  rw[c];go_simp
end
end Go.Proofs.YtfhoilcbhmeofaaGreat
