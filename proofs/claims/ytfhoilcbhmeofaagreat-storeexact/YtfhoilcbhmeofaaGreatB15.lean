/- Lists of writes that a call makes itself; contract of the shelf's changes. -/
import Derived.Test.YtfhoilcbhmeofaaGreatB14
import Derived.Deep.CutBlock
set_option maxRecDepth 100000
set_option maxHeartbeats 16000000
namespace Go.Proofs.YtfhoilcbhmeofaaGreat
open Go.RowKit
section
def M4(Ls:List (List Cl))(k:Nat):Option (Nat × Cl):=match lO Ls k with
 |some i=>some (i,dC Ls i k)
 |none=>match eR Ls with
  |some i=>some (i,⟨k,K0,K0,0⟩)
  |none=>none
def uR(Ls:List (List Cl))(i:Nat)(c:Cl):Int × List (List Cl):=(((I7 (B3 Ls i) c).2:Nat),Ls.set i (I7 (B3 Ls i) c).1)
def M5(kind b:Int)(Ls:List (List Cl))(k:Nat)(v:Vl):Int × List (List Cl):=match M4 Ls k with
 |none=>(92,Ls)
 |some (i,c)=>if Z1 kind c b≠0 then(Z1 kind c b,Ls)else uR Ls i (N2 kind c b v)
theorem ID{kind b:Int}{Ls:List (List Cl)}{k:Nat}{v:Vl}(h:M4 Ls k=none):M5 kind b Ls k v=(92,Ls):=by simp[M5,h]
theorem Er{kind b:Int}{Ls:List (List Cl)}{k i:Nat}{v:Vl}{c:Cl}(h:M4 Ls k=some (i,c))(ha:Z1 kind c b≠0):M5 kind b Ls k v=(Z1 kind c b,Ls):=by simp[M5,h,ha]
theorem tE{kind b:Int}{Ls:List (List Cl)}{k i:Nat}{v:Vl}{c:Cl}(h:M4 Ls k=some (i,c))(ha:Z1 kind c b=0):M5 kind b Ls k v=uR Ls i (N2 kind c b v):=by simp[M5,h,ha]
def tK(w:d9)(f g:Nat→Value):Prop:= ∀i,i<6→ ∀x,(g i).ownBlock=some x→(f i).ownBlock=some x∨w.heap.size≤x
theorem tK.refl(w:d9)(f:Nat→Value):tK w f f:=fun _ _ _ h=> .inl h
def Jv(Q:Nat)(f:Nat→Value)(r:Int × List (List Cl))(w:d9)(e:Ending)(w':d9):Prop:=
 e= .returned (.int .i64 r.1)∧(∃g,SH w' Q g r.2∧tK w f g)∧Ch (fun x=>x=Q) w w'
structure QB(w:d9)(b k:Nat)(v:Vl):Prop where
 c0:w.cell? ⟨b,0,none⟩=some (.int .u64 k)
 c1:w.cell? ⟨b,1,none⟩=some (.bool v.h)
 c2:w.cell? ⟨b,2,none⟩=some (.int .u64 v.b)
theorem QB.keep{w w':d9}{b k:Nat}{v:Vl}(h:QB w b k v)(hb:f8 w w'):QB w' b k v:=
 ⟨by rw[hb.cell (p:=⟨b,0,none⟩) (c8 h.c0)];exact h.c0,by rw[hb.cell (p:=⟨b,1,none⟩) (c8 h.c1)];exact h.c1,by rw[hb.cell (p:=⟨b,2,none⟩) (c8 h.c2)];exact h.c2⟩
theorem QB.ch{D:n9}{w w':d9}{b k:Nat}{v:Vl}(h:QB w b k v)(hc:Ch D w w')(hd: ¬D b):QB w' b k v:=⟨hc.cell h.c0 hd,hc.cell h.c1 hd,hc.cell h.c2 hd⟩
theorem yN(w:d9)(k:Nat)(v:Vl):QB (w.alloc (Obj.cells #[.int .u64 k,.bool v.h,.int .u64 v.b] 57)) w.heap.size k v:=by
 constructor<;>simp[go_sem]
section

variable{w:d9}{Q:Nat}{f:Nat→Value}{Ls:List (List Cl)}

theorem BI(h:SH w Q f Ls)(hok: ∀i,i<6→ ∀c∈B3 Ls i,c.okB)(hle: ∀i,i<6→(B3 Ls i).length≤16)(kind b:Int){k:Nat}{v:Vl}(hv:v.ok):
  Calls Tryz.prog 67 #[.pointer (some ⟨Q,0,none⟩),.int .i64 kind,.int .i64 b,.agg #[.int .u64 k,.bool v.h,.int .u64 v.b]] w (Jv Q f (M5 kind b Ls k v) w):=by
 have M0:=b9 hok;have N0:=b9 hle;have HV:c6 v.ok:=hv;have HW:=b9 h;have v0:c6 (Q<w.heap.size):=h.lt;have H0:c6 (SH (w.alloc (Obj.cells #[.int .u64 k,.bool v.h,.int .u64 v.b] 57)) Q f Ls):=h.below (a8 _ _);have G:c6 _:=yN w k v;have n0:c6 _:=a8 w (Obj.cells #[.int .u64 k,.bool v.h,.int .u64 v.b] 57);clear h hok hle hv;go_in;go_upto_region 1 with fail
 generalize hN:w.heap.size=N at G v0⊢;have HN:=b9 hN;clear hN;generalize w.alloc (Obj.cells #[.int .u64 k,.bool v.h,.int .u64 v.b] 57)=w0 at H0 G n0⊢;have q0:=G.o.c0;go_wp2_with fail;refine(sO H0.o k).mono ?_;rintro e U ⟨i,c,t,rfl,L,P⟩;have HF:=b9 L;have H1:=b9 (H0.o.below P);have j0:=b9 (G.o.keep P);have G0:=b9 (a9 n0.o P);clear L P H0 G n0 q0;go_upto_region 2 with fail
 have H2:c6 (SH (U.alloc (Obj.cells #[.int .u64 c.k,.bool c.p.h,.int .u64 c.p.b,.bool c.c.h,.int .u64 c.c.b,.int .i64 c.n] 132)) Q f Ls):=H1.o.below (a8 _ _);have F:c6 (QB (U.alloc (Obj.cells #[.int .u64 c.k,.bool c.p.h,.int .u64 c.p.b,.bool c.c.h,.int .u64 c.c.b,.int .i64 c.n] 132)) N k v):=j0.o.keep (a8 _ _);have T:c6 (f8 w (U.alloc (Obj.cells #[.int .u64 c.k,.bool c.p.h,.int .u64 c.p.b,.bool c.c.h,.int .u64 c.c.b,.int .i64 c.n] 132))):=a9 G0.o (a8 _ _);have B:c6 _:=B0 U c;have H:c6 (N<U.heap.size):=c8 j0.o.c0;have m:c6 (¬U.heap.size=Q):=by have D:=v0.o;have C:=H.o;show¬_;omega
 generalize hM:U.heap.size=M at B H m⊢;clear hM H1 j0 G0;generalize U.alloc (Obj.cells #[.int .u64 c.k,.bool c.p.h,.int .u64 c.p.b,.bool c.c.h,.int .u64 c.c.b,.int .i64 c.n] 132)=w2 at H2 F T B⊢;go_upto_if 22 with fail;go_cut [9,11] (fun av tv wx=> ∃(a:Nat) (t':Bool) (d:Cl),av= .int .i64 a∧tv= .bool t'∧((t'=true∧a<6∧M4 Ls k=some (a,d)∧d.ok)∨(t'=false∧M4 Ls k=none))∧CB wx M d∧QB wx N k v∧f8 w wx)
 case first=>
  rcases HF.o with ⟨D,C,rfl,h4,h5,h6⟩|⟨D,rfl,rfl,rfl⟩
  ·have HO:c6 (M4 Ls k=some (i,c)):=by show _=_;unfold M4;rw[D,h4]
   have HD:c6 c.ok:=by have:=M0.o i C c h5;exact⟨this.2.1,this.2.2.1⟩
   clear D h4 h5 h6;go_wp2_with fail;go_meet;exact⟨i,true,c,rfl,rfl,.inl ⟨rfl,C,HO.o,HD.o⟩,B.o,F.o,T.o⟩
  ·go_wp2_with fail;refine B4 (RE H2.o) ?_;obtain⟨c0,c1,c2,c3,c4,c5,zz⟩:=B.o;have y0:=zz 0;have y1:=zz 1;have y2:=zz 2;have y3:=zz 3;have y4:=zz 4;have y5:=zz 5;have q0:=F.o.c0;have z0:=b9 (B.o.set ⟨k,K0,K0,0⟩);clear zz;obtain⟨o,ho⟩:=c7 (eR Ls);rw[←ho];have HO:c6 (M4 Ls k=o.map fun a=>(a,⟨k,K0,K0,0⟩)):=by show _=_;unfold M4;rw[D,←ho];cases o<;>rfl
   have HR:c6 (∀a,o=some a→a<6):=fun a e=>by
    rw[e]at ho;have h:=eS 6 0 ho.symm;omega
   have C0:c6 _:=R7 T.o (show w.heap.size≤M by have D:=HN.o;have C:=H.o;omega) (.int .u64 k) (.bool false) (.int .u64 0) (.bool false) (.int .u64 0) (.int .i64 0)
   have x0:c6 (∀a b c d e f,QB ((((((w2.setCell ⟨M,0,none⟩ a).setCell ⟨M,1,none⟩ b).setCell ⟨M,2,none⟩ c).setCell ⟨M,3,none⟩ d).setCell ⟨M,4,none⟩ e).setCell ⟨M,5,none⟩ f) N k v):=fun a b c d e f=>by
    have s: ∀{x:d9} (i:Nat) (u:Value),QB x N k v→QB (x.setCell ⟨M,i,none⟩ u) N k v:=fun i u O=>O.ch (k8 _ M i u) (by have:=H.o;omega);exact s _ _ (s _ _ (s _ _ (s _ _ (s _ _ (s _ _ F.o)))))
   clear D ho
   cases o with
   |none=>
    go_wp2_with fail;go_meet;exact⟨0,false,⟨k,K0,K0,0⟩,rfl,rfl,.inr ⟨rfl,HO.o⟩,z0.o,x0.o _ _ _ _ _ _,C0.o⟩
   |some a=>
    go_wp2_with fail;go_meet;exact⟨a,true,⟨k,K0,K0,0⟩,rfl,rfl,.inl ⟨rfl,HR.o a rfl,HO.o,⟨by show(0:Nat)<_;omega,by show(0:Nat)<_;omega⟩⟩,z0.o,x0.o _ _ _ _ _ _,C0.o⟩
 case rest=>
  obtain⟨a,t',d,rfl,rfl,hd,r0,o0,s0⟩:=hcut;have HD:=b9 hd;have l0:=b9 r0;have i0:=b9 o0;have R:=b9 s0;clear hd r0 o0 s0 H2 F T B HF;rcases HD.o with ⟨rfl,D,C,h3⟩|⟨rfl,C⟩;rotate_left
  ·have HR:c6 (M5 kind b Ls k v=(92,Ls)):=ID C;clear C;go_wp2_with fail;go_ret;rw[HR.o];exact⟨rfl,⟨f,HW.o.below R.o,tK.refl _ _⟩,Ch.of_below R.o⟩
  ·have HO:=b9 C;have O0:c6 d.ok:=h3;have l:=b9 D;obtain⟨c0,c1,c2,c3,c4,c5,zz⟩:=l0.o;have q1:=i0.o.c1;have q2:=i0.o.c2;clear D C h3 zz;go_wp2_with fail;refine(MI kind O0.o b HV.o _).mono ?_;rintro e w3 ⟨rfl,f0⟩;obtain⟨E,hE⟩:=c7 (N2 kind d b v);obtain⟨I,X⟩:=c7 (Z1 kind d b);rw[←hE,←X];have HE:=b9 hE;have HI:=b9 X;have k0:=b9 (l0.o.keep f0);have Z:=b9 (a9 R.o f0);clear hE X f0 c0 c1 c2 c3 c4 c5 q1 q2 l0 i0 R;have r:=b9 (k0.o.set E);have D0:c6 _:=R7 Z.o (show w.heap.size≤M by have D:=HN.o;have C:=H.o;omega) (.int .u64 E.k) (.bool E.p.h) (.int .u64 E.p.b) (.bool E.c.h) (.int .u64 E.c.b) (.int .i64 E.n);obtain⟨c0,c1,c2,c3,c4,c5,zz⟩:=k0.o;have y0:=zz 0;have y1:=zz 1;have y2:=zz 2;have y3:=zz 3;have y4:=zz 4;have y5:=zz 5;clear zz;go_upto_region 8 with fail
   generalize ((((((w3.setCell ⟨M,0,none⟩ (.int .u64 E.k)).setCell ⟨M,1,none⟩ (.bool E.p.h)).setCell ⟨M,2,none⟩ (.int .u64 E.p.b)).setCell ⟨M,3,none⟩ (.bool E.c.h)).setCell ⟨M,4,none⟩ (.int .u64 E.c.b)).setCell ⟨M,5,none⟩ (.int .i64 E.n))=A at r D0⊢;clear c0 c1 c2 c3 c4 c5 y0 y1 y2 y3 y4 y5 k0 Z;have J:=b9 D0.o;by_cases X:I=0;rotate_left
   ·have HR:c6 (M5 kind b Ls k v=(I,Ls)):=by show _=_;rw[HI.o];exact Er HO.o (by rw[←HI.o];exact X)
    have R0:(I !=0)=true:=by rw[bne_iff_ne];exact X
    clear X;go_wp2_with fail;go_ret;rw[HR.o];exact⟨rfl,⟨f,HW.o.below J.o,tK.refl _ _⟩,Ch.of_below J.o⟩
   ·subst X;have HR:c6 (M5 kind b Ls k v=uR Ls a E):=by show _=_;rw[HE.o];exact tE HO.o HI.o.symm
    have h0:=b9 (HW.o.below J.o);obtain⟨fa,fc,b0⟩:=h0.o.form l.o;have m0:=h0.o.c a l.o;rw[b0]at m0;have Y:c6 (Cv A.drew (.slice fa (B3 Ls a).length fc) (B3 Ls a)):=by have:=(h0.o.cv a l.o).below (d8 A 1);rw[b0]at this;exact this
    have J0:c6 (((B3 Ls a).length+1)*48≤140737488355328):=by show _≤_;have:=N0.o a l.o;omega
    have Q0:(a:Int)<6:=by have:=l.o;omega
    have P0:=l.o;obtain⟨pn,p0⟩:=c7 ((B3 Ls a).length);rw[←p0]at m0 Y;have c0: ∀wx,Ch (fun x=>x=Q) A wx→wx.cell? ⟨M,0,none⟩=some (.int .u64 E.k):=fun wx h=>h.cell r.o.c0 m.o;have c1: ∀wx,Ch (fun x=>x=Q) A wx→wx.cell? ⟨M,1,none⟩=some (.bool E.p.h):=fun wx h=>h.cell r.o.c1 m.o;have c2: ∀wx,Ch (fun x=>x=Q) A wx→wx.cell? ⟨M,2,none⟩=some (.int .u64 E.p.b):=fun wx h=>h.cell r.o.c2 m.o;have c3: ∀wx,Ch (fun x=>x=Q) A wx→wx.cell? ⟨M,3,none⟩=some (.bool E.c.h):=fun wx h=>h.cell r.o.c3 m.o;have c4: ∀wx,Ch (fun x=>x=Q) A wx→wx.cell? ⟨M,4,none⟩=some (.int .u64 E.c.b):=fun wx h=>h.cell r.o.c4 m.o;have c5: ∀wx,Ch (fun x=>x=Q) A wx→wx.cell? ⟨M,5,none⟩=some (.int .i64 E.n):=fun wx h=>h.cell r.o.c5 m.o;clear p0 b0;go_wp2_with fail;refine wp_region_noPanic ?_;refine wp_region_held_drew (S:=fun wx=>Ch (fun x=>x=Q) A wx) (by kernel_rfl) ?_ fun g=>?_
    ·exact Ch.of_below ((Below.refl _ _).drew)
    refine g6 0 46 rfl g ?_;refine g6 1 47 rfl g ?_;refine g6 2 48 rfl g ?_;refine g6 3 49 rfl g ?_;refine g6 4 50 rfl g ?_;refine g6 5 51 rfl g ?_;refine g6 7 53 rfl g ?_;refine g6 12 57 rfl g ?_;refine C7 6 52 rfl fun K W=>?_;go_simp;refine W.out _ _ ?_ fun g=>?_
    ·exact Ch.of_below ((Below.refl _ _).drew)
    clear W K;try simp only[Act.put,zz]
    refine C7 8 54 rfl fun K W=>?_;go_simp;refine(KI Y.o E J0.o).mono ?_;rintro e9 w5 ⟨v5,rfl,a0,d0⟩;have t0:=b9 ((cX a0).1);have L0:c6 (∀x,v5.ownBlock=some x→w.heap.size≤x):=fun x O=>by have D:=(a0.lt x O).1;have C:=J.o.size;have h3:A.drew.heap.size=A.heap.size:=rfl;omega
    have F0:=b9 (a9 J.o (a9 (d8 A 1) d0));have A0:c6 (Ch (fun x=>x=Q) A w5):=Ch.of_below (a9 (d8 A 1) d0);have g0:=b9 (HW.o.below F0.o);have m5:=g0.o.c a l.o;have z5:=g0.o.z a;obtain⟨va,vn,vcap,I0⟩: ∃x y z,v5= .slice x y z:=by obtain⟨x,y,z⟩:=t0.o.form;exact⟨x,_,y,z⟩
    subst I0;clear a0 d0;refine W.out _ _ ?_ fun g=>?_
    ·exact A0.o
    clear W K;try simp only[Act.put,zz]
    refine g6 9 45 rfl g ?_;refine g6 10 55 rfl g ?_;refine g6 11 56 rfl g ?_;refine g6 13 58 rfl g ?_;refine wpAnyH_ready (rs:=[14]) (by kernel_rfl) (by simp) ?_;refine AllReadyH.cons (o:=⟨none,_,_,_,_,_⟩) rfl (fun K W=>?_) AllReadyH.nil;go_simp;refine W.out _ _ ?_ fun g=>?_
    ·exact(A0.o.self (k8 w5 Q a _))
    clear W K;try simp only[Act.put,zz]
    refine g6 15 12 rfl g ?_;refine wpAnyH_done (by kernel_rfl) ?_ _;refine NoPanic.normal ?_;go_wp2_with fail;go_ret;rw[HR.o];refine⟨rfl,⟨pR f a (.slice va vn vcap),g0.o.set l.o t0.o,fun j hj x O=>?_⟩,?_⟩
    ·unfold pR at O;by_cases q:a=j
     ·rw[if_pos q]at O;exact .inr (L0.o x O)
     ·rw[if_neg q]at O;exact .inl O
    ·exact(Ch.of_below F0.o).self (k8 w5 Q a _)
end
end
theorem LA(l:f7)(x b off cap:Nat)(w:d9)(hl:l.length≤maxLen)(hc: ∀i,(hi:i<l.length)→w.cell? ⟨b,off+i,none⟩=some (.int .u64 (l[i]:Nat))):
  Calls Tryz.prog 211 #[.slice (some ⟨b,off,none⟩) l.length cap,.int .u64 x] w fun e w'=>(∃r:Int,e= .returned (.int .i64 r)∧((0≤r∧x∈l)∨(r= -1∧x∉l)))∧w'=w:=by
 unfold maxLen at hl;have u:(l.length:Int)≤9223372036854775807:=by omega
 have HC:=b9 hc;clear hc hl;go_in;go_wp2_with fail;go_loop [8] (fun iv=> ∃i:Nat,iv= .int .i64 i∧i≤l.length∧ ∀j,(a:j<l.length)→j<i→l[j]≠x) (fun iv=>l.length-(intOf iv).toNat)
 case atStart=>exact⟨0,rfl,by omega,fun j a h=>by omega⟩
 case round=>
  obtain⟨i,rfl,z,d⟩:=hrel;have g:=b9 d;clear d;by_cases f:i<l.length
  ·have k:(i:Int)<(l.length:Int):=by omega
   have s:=HC.o i f;obtain⟨y,m⟩: ∃y,l[i]=y:=⟨_,rfl⟩;rw[m]at s;have HY:=b9 m;clear m;by_cases c:x=y
   ·have n:((x:Int)==(y:Int))=true:=by simp[c]
    have HM:c6 (x∈l):=by rw[c,←HY.o];exact List.getElem_mem _
    clear c;go_wp2_with fail;go_ret;exact⟨⟨_,rfl,.inl ⟨by omega,HM.o⟩⟩,rfl⟩
   ·have n:((x:Int)==(y:Int))=false:=by rw[beq_eq_false_iff_ne];omega
    have p:c6 (∀j,(a:j<l.length)→j<i+1→l[j]≠x):=fun j a v=>by
     rcases Nat.lt_or_ge j i with q|q
     ·exact g.o j a q
     ·obtain rfl:j=i:=by omega
      rw[HY.o];exact fun e=>c e.symm
    clear c;go_wp2_with fail;go_round
    case rel=>exact⟨i+1,by go_num,f,p.o⟩
    case measure=>simp[intOf];omega
  ·have k: ¬(i:Int)<(l.length:Int):=by omega
   have HM:c6 (x∉l):=fun t=>by
    obtain⟨j,a,e⟩:=List.mem_iff_getElem.1 t;exact g.o j a (by omega) e
   go_wp2_with fail;go_ret;exact⟨⟨_,rfl,.inr ⟨rfl,HM.o⟩⟩,rfl⟩
theorem LB(x:Nat)(ao:Option Addr)(cap:Nat)(w:d9):
  Calls Tryz.prog 211 #[.slice ao 0 cap,.int .u64 x] w fun e w'=>(∃r:Int,e= .returned (.int .i64 r)∧((0≤r∧x∈([]:f7))∨(r= -1∧x∉([]:f7))))∧w'=w:=by
 go_in;go_wp2;refine wp_loop_rounds 1 ?_;rw[rounds_succ];go_wp2;go_ret;exact⟨⟨_,rfl,.inr ⟨rfl,by simp⟩⟩,rfl⟩
theorem pL{w:d9}{v:Value}{l:f7}(h:Kv w v l)(x:Nat):
  Calls Tryz.prog 211 #[v,.int .u64 x] w fun e w'=>(∃r:Int,e= .returned (.int .i64 r)∧((0≤r∧x∈l)∨(r= -1∧x∉l)))∧w'=w:=by
 rcases T2 h with ⟨rfl,f,a,rfl⟩|⟨b,c,a,rfl,g,j,i,d⟩
 ·exact LB x f a w
 ·exact LA l x b c a w (by omega) d
theorem sV{w:d9}{v:Value}{l:f7}(h:Kv w v l)(x:Nat):
  Calls Tryz.prog 182 #[v,.int .u64 x] w fun e w'=>e= .returned (.bool (decide (x∈l)))∧w'=w:=by
 have HV:=b9 h;clear h;by_cases a:x∈l
 ·rw[decide_eq_true a];have HX:=b9 a;clear a;go_in;go_wp2_with fail;refine(pL HV.o x).mono ?_;rintro e d ⟨⟨r,rfl,b⟩,rfl⟩;have c:0≤r:=by rcases b with ⟨q,_⟩|⟨_,q⟩;exact q;exact absurd HX.o q
  clear b;go_wp2_with fail;go_ret;exact⟨rfl,rfl⟩
 ·rw[decide_eq_false a];have HX:=b9 a;clear a;go_in;go_wp2_with fail;refine(pL HV.o x).mono ?_;rintro e d ⟨⟨r,rfl,b⟩,rfl⟩;have c:r= -1:=by rcases b with ⟨_,q⟩|⟨q,_⟩;exact absurd q HX.o;exact q
  subst c;clear b;go_wp2_with fail;go_ret;exact⟨rfl,rfl⟩
theorem oI{w:d9}{v:Value}{k:f7}(h:Kv w v k)(b a:Int)(x:Nat):
  Calls Tryz.prog 134 #[.agg #[.int .i64 b,.int .i64 a,v],.int .u64 x] w fun e w'=>e= .returned (.bool (decide (x∈k)))∧f8 w w':=by
 have HB:c6 (f8 w (w.alloc (Obj.cells #[.int .i64 b,.int .i64 a,v] 62))):=a8 _ _;have HV:c6 (Kv (w.alloc (Obj.cells #[.int .i64 b,.int .i64 a,v] 62)) v k):=h.below (a8 _ _);clear h;go_in;go_wp2_with fail;refine B4 (sV HV.o x) ?_;go_wp2_with fail;go_ret;exact⟨rfl,HB.o⟩
theorem RK(l:f7)(x kb off cap:Nat)(b a:Int)(w:d9)(hl:l.length≤maxLen)(hc: ∀i,(hi:i<l.length)→w.cell? ⟨kb,off+i,none⟩=some (.int .u64 (l[i]:Nat))):
  Calls Tryz.prog 109 #[.agg #[.int .i64 b,.int .i64 a,.slice (some ⟨kb,off,none⟩) l.length cap],.int .u64 x] w fun e w'=>e= .returned (.bool (decide (x∈l)))∧f8 w w':=by
 unfold maxLen at hl;have v:(l.length:Int)≤9223372036854775807:=by omega
 have HC:c6 (∀i,(hi:i<l.length)→(w.alloc (Obj.cells #[.int .i64 b,.int .i64 a,.slice (some ⟨kb,off,none⟩) l.length cap] 62)).cell? ⟨kb,off+i,none⟩=some (.int .u64 (l[i]:Nat))):=fun i hi=>by rw[(a8 w _).cell (p:=⟨kb,off+i,none⟩) (c8 (hc i hi))];exact hc i hi
 have HB:c6 (f8 w (w.alloc (Obj.cells #[.int .i64 b,.int .i64 a,.slice (some ⟨kb,off,none⟩) l.length cap] 62))):=a8 _ _;clear hc hl;go_in;go_wp2_with fail;go_loop [5] (fun iv=> ∃i:Nat,iv= .int .i64 i∧i≤l.length∧ ∀j,(c:j<l.length)→j<i→l[j]≠x) (fun iv=>l.length-(intOf iv).toNat)
 case atStart=>exact⟨0,rfl,by omega,fun j c h=>by omega⟩
 case round=>
  obtain⟨i,rfl,A,f⟩:=hrel;have k:=b9 f;clear f;by_cases g:i<l.length
  ·have m:(i:Int)<(l.length:Int):=by omega
   have t:=HC.o i g;obtain⟨y,n⟩: ∃y,l[i]=y:=⟨_,rfl⟩;rw[n]at t;have HY:=b9 n;clear n;by_cases d:y=x
   ·have r:((y:Int)==(x:Int))=true:=by simp[d]
    have HM:c6 (decide (x∈l)=true):=decide_eq_true (by rw[←d,←HY.o];exact List.getElem_mem _);clear d;go_wp2_with fail;go_ret;exact⟨by rw[HM.o];rfl,HB.o⟩
   ·have r:((y:Int)==(x:Int))=false:=by rw[beq_eq_false_iff_ne];omega
    have s:c6 (∀j,(c:j<l.length)→j<i+1→l[j]≠x):=fun j c z=>by
     rcases Nat.lt_or_ge j i with q|q
     ·exact k.o j c q
     ·obtain rfl:j=i:=by omega
      rw[HY.o];exact d
    clear d;go_wp2_with fail;go_round
    case rel=>exact⟨i+1,by go_num,g,s.o⟩
    case measure=>simp[intOf];omega
  ·have m: ¬(i:Int)<(l.length:Int):=by omega
   have HM:c6 (decide (x∈l)=false):=decide_eq_false fun u=>by
    obtain⟨j,c,e⟩:=List.mem_iff_getElem.1 u;exact k.o j c (by omega) e
   go_wp2_with fail;go_ret;exact⟨by rw[HM.o];rfl,HB.o⟩
theorem RL(x:Nat)(ao:Option Addr)(cap:Nat)(b a:Int)(w:d9):
  Calls Tryz.prog 109 #[.agg #[.int .i64 b,.int .i64 a,.slice ao 0 cap],.int .u64 x] w fun e w'=>e= .returned (.bool (decide (x∈([]:f7))))∧f8 w w':=by
 have HM:c6 (decide (x∈([]:f7))=false):=by simp[c6]
 go_in;go_wp2_with fail;refine wp_loop_rounds 1 ?_;rw[rounds_succ];go_wp2_with fail;go_ret;exact⟨by rw[HM.o];rfl,a8 _ _⟩
theorem bF{w:d9}{v:Value}{k:f7}(h:Kv w v k)(b a:Int)(x:Nat):
  Calls Tryz.prog 109 #[.agg #[.int .i64 b,.int .i64 a,v],.int .u64 x] w fun e w'=>e= .returned (.bool (decide (x∈k)))∧f8 w w':=by
 rcases T2 h with ⟨rfl,i,c,rfl⟩|⟨f,d,c,rfl,j,m,l,g⟩
 ·exact RL x i c b a w
 ·exact RK k x f d c b a w (by omega) g
def tY(c:Int):Nat:=if c<0 then 130 else if 0<c then 131 else 0
def M9(mb ma b a:Int):Nat:=if b<1∨a<1 then 1 else tY (eI b a mb ma)
theorem sW(x y:Int):(x<y∧aR x y= -1)∨(y<x∧aR x y=1)∨(x=y∧aR x y=0):=by
 unfold aR;by_cases a:x<y
 ·exact .inl ⟨a,if_pos a⟩
 ·by_cases b:y<x
  ·exact .inr (.inl ⟨b,by rw[if_neg a,if_pos b]⟩)
  ·exact .inr (.inr ⟨by omega,by rw[if_neg a,if_neg b]⟩)
theorem kU(b a ob oa:Int):((b<ob∨b=ob∧a<oa)∧eI b a ob oa= -1)∨((ob<b∨b=ob∧oa<a)∧eI b a ob oa=1)∨(b=ob∧a=oa∧eI b a ob oa=0):=by
 unfold eI;by_cases h:b=ob
 ·rw[if_pos h];rcases sW a oa with ⟨c,d⟩|⟨c,d⟩|⟨c,d⟩
  ·exact .inl ⟨.inr ⟨h,c⟩,d⟩
  ·exact .inr (.inl ⟨.inr ⟨h,c⟩,d⟩)
  ·exact .inr (.inr ⟨h,c,d⟩)
 ·rw[if_neg h];rcases sW b ob with ⟨c,d⟩|⟨c,d⟩|⟨c,d⟩
  ·exact .inl ⟨.inl c,d⟩
  ·exact .inr (.inl ⟨.inl c,d⟩)
  ·exact absurd c h
theorem sG{v:Value}(mb ma b a:Int)(w:d9):
  Calls Tryz.prog 62 #[.agg #[.int .i64 mb,.int .i64 ma,v],.int .i64 b,.int .i64 a] w fun e w'=>e= .returned (.int .i64 (M9 mb ma b a:Nat))∧f8 w w':=by
 have HB:c6 (f8 w (w.alloc (Obj.cells #[.int .i64 mb,.int .i64 ma,v] 62))):=a8 _ _;by_cases i:b<1
 ·have e:M9 mb ma b a=1:=if_pos (.inl i);rw[e];go_in;go_wp2_with fail;go_ret;exact⟨rfl,HB.o⟩
 ·by_cases h:a<1
  ·have e:M9 mb ma b a=1:=if_pos (.inr h);rw[e];go_in;go_wp2_with fail;go_ret;exact⟨rfl,HB.o⟩
  ·have e:M9 mb ma b a=tY (eI b a mb ma):=if_neg (by omega);rw[e];rcases kU b a mb ma with ⟨f,d⟩|⟨f,d⟩|⟨f,j,d⟩
   ·rw[d,show tY (-1)=130 from rfl];clear e;go_in;go_wp2_with fail;refine(oE b a mb ma _).mono ?_;rw[d];rintro e g ⟨rfl,c⟩;replace c:=c.symm;subst c;go_wp2_with fail;go_ret;exact⟨rfl,HB.o⟩
   ·rw[d,show tY 1=131 from rfl];clear e f;go_in;go_wp2_with fail;refine(oE b a mb ma _).mono ?_;rw[d];rintro e g ⟨rfl,c⟩;replace c:=c.symm;subst c;go_wp2_with fail;go_ret;exact⟨rfl,HB.o⟩
   ·rw[d,show tY 0=0 from rfl];clear e f j;go_in;go_wp2_with fail;refine(oE b a mb ma _).mono ?_;rw[d];rintro e g ⟨rfl,c⟩;replace c:=c.symm;subst c;go_wp2_with fail;go_ret;exact⟨rfl,HB.o⟩
theorem kA(b a ob oa:Int)(w:d9):
  Calls Tryz.prog 171 #[.int .i64 b,.int .i64 a,.int .i64 ob,.int .i64 oa] w fun e w'=>e= .returned (.int .i64 (eI b a ob oa))∧w'=w:=by
 rcases kU b a ob oa with ⟨h,c⟩|⟨h,c⟩|⟨l,k,c⟩
 ·rw[c];by_cases i:b<ob
  ·go_in;go_wp2_with fail;go_ret;exact⟨rfl,rfl⟩
  ·have f:(b==ob)=true:=by rw[beq_iff_eq];omega
   have j:a<oa:=by omega
   clear h c;go_in;go_wp2_with fail;go_ret;exact⟨rfl,rfl⟩
 ·rw[c];have i: ¬b<ob:=by omega
  by_cases f:b=ob
  ·have d:(b==ob)=true:=by rw[beq_iff_eq];exact f
   have j: ¬a<oa:=by omega
   have g:(a==oa)=false:=by rw[beq_eq_false_iff_ne];omega
   clear h c f;go_in;go_wp2_with fail;go_ret;exact⟨rfl,rfl⟩
  ·have d:(b==ob)=false:=by rw[beq_eq_false_iff_ne];exact f
   clear h c;go_in;go_wp2_with fail;go_ret;exact⟨rfl,rfl⟩
 ·rw[c];have i: ¬b<ob:=by omega
  have d:(b==ob)=true:=by rw[beq_iff_eq];exact l
  have j: ¬a<oa:=by omega
  have g:(a==oa)=true:=by rw[beq_iff_eq];exact k
  clear l k c;go_in;go_wp2_with fail;go_ret;exact⟨rfl,rfl⟩
theorem gT{v:Value}(mb ma b a:Int)(w:d9):
  Calls Tryz.prog 114 #[.agg #[.int .i64 mb,.int .i64 ma,v],.int .i64 b,.int .i64 a] w fun e w'=>e= .returned (.int .i64 (M9 mb ma b a:Nat))∧f8 w w':=by
 have HB:c6 (f8 w (w.alloc (Obj.cells #[.int .i64 mb,.int .i64 ma,v] 62))):=a8 _ _;by_cases i:b<1
 ·have e:M9 mb ma b a=1:=if_pos (.inl i);rw[e];go_in;go_wp2_with fail;go_ret;exact⟨rfl,HB.o⟩
 ·by_cases h:a<1
  ·have e:M9 mb ma b a=1:=if_pos (.inr h);rw[e];go_in;go_wp2_with fail;go_ret;exact⟨rfl,HB.o⟩
  ·have e:M9 mb ma b a=tY (eI b a mb ma):=if_neg (by omega);rw[e];rcases kU b a mb ma with ⟨f,d⟩|⟨f,d⟩|⟨f,j,d⟩
   ·rw[d,show tY (-1)=130 from rfl];clear e f;go_in;go_wp2_with fail;refine(kA b a mb ma _).mono ?_;rw[d];rintro e g ⟨rfl,c⟩;replace c:=c.symm;subst c;go_wp2_with fail;go_ret;exact⟨rfl,HB.o⟩
   ·rw[d,show tY 1=131 from rfl];clear e f;go_in;go_wp2_with fail;refine(kA b a mb ma _).mono ?_;rw[d];rintro e g ⟨rfl,c⟩;replace c:=c.symm;subst c;go_wp2_with fail;go_ret;exact⟨rfl,HB.o⟩
   ·rw[d,show tY 0=0 from rfl];clear e f j;go_in;go_wp2_with fail;refine(kA b a mb ma _).mono ?_;rw[d];rintro e g ⟨rfl,c⟩;replace c:=c.symm;subst c;go_wp2_with fail;go_ret;exact⟨rfl,HB.o⟩
section
def U1(ks:f7)(b:Int)(c:Cl):Cl:=if c.k∈ks then bP c b else c
def A4(ks:f7)(b:Int)(l:List Cl):List Cl:=(l.map (U1 ks b)).filter (fun c=>!aG c)
theorem lW(ks:f7)(b:Int)(l:List Cl):(A4 ks b l).length≤l.length:=by
 unfold A4;have:=List.length_filter_le (fun c=>!aG c) (l.map (U1 ks b));simpa using this
theorem rM{ks:f7}{b:Int}{l:List Cl}{j:Nat}(hj:j<l.length)(h:aG (U1 ks b l[j])=false):A4 ks b (l.take (j+1))=A4 ks b (l.take j)++[U1 ks b l[j]]:=by
 unfold A4;rw[List.take_succ_eq_append_getElem hj,List.map_append,List.filter_append];simp[h]
theorem yA{ks:f7}{b:Int}{l:List Cl}{j:Nat}(hj:j<l.length)(h:aG (U1 ks b l[j])=true):A4 ks b (l.take (j+1))=A4 ks b (l.take j):=by
 unfold A4;rw[List.take_succ_eq_append_getElem hj,List.map_append,List.filter_append];simp[h]
def ZZ(g:List Cl→List Cl)(Ls:List (List Cl))(i:Nat):List (List Cl):=(Ls.take i).map g++Ls.drop i
theorem XQ(g:List Cl→List Cl)(Ls:List (List Cl)):ZZ g Ls 0=Ls:=by simp[ZZ]
theorem Cm{g:List Cl→List Cl}{Ls:List (List Cl)}{n:Nat}(h:Ls.length=n):ZZ g Ls n=Ls.map g:=by
 subst h;simp[ZZ]
theorem aW{Ls:List (List Cl)}{i:Nat}(hi:i<Ls.length):B3 Ls i=Ls[i]:=by unfold B3;simp[hi]
theorem Hz{g:List Cl→List Cl}{Ls:List (List Cl)}{i:Nat}(hi:i<Ls.length):B3 (ZZ g Ls i) i=B3 Ls i:=by
 unfold B3 ZZ;rw[List.getD_eq_getElem?_getD,List.getElem?_append_right (by simp;omega)];simp[List.getD_eq_getElem?_getD,Nat.min_eq_left (Nat.le_of_lt hi)]
theorem Ck{g:List Cl→List Cl}{Ls:List (List Cl)}{i:Nat}(hi:i<Ls.length):(ZZ g Ls i).set i (g (B3 Ls i))=ZZ g Ls (i+1):=by
 unfold ZZ;have a:((Ls.take i).map g).length=i:=by simp;omega
 rw[List.set_append_right _ _ (by omega),a,Nat.sub_self,List.drop_eq_getElem_cons hi,List.set_cons_zero,List.take_succ_eq_append_getElem hi,List.map_append,aW hi];simp
theorem Cy{w:d9}{v:Value}{l:f7}(h:Kv w v l){p:Addr}{ao:Option Addr}{n c:Nat}(hp:w.cell? p=some (.slice ao n c))(u':Value):Kv (w.setCell p u') v l:=by
 obtain⟨ao',f,e,o,m,k,j⟩:=h;refine⟨ao',f,e,o,m,k,fun i g=>?_⟩;obtain⟨b,d,q,a⟩:=j i g;refine⟨b,d,q,?_⟩;rw[World.cell?_setCell_other _ _ _ _ (by rintro rfl;rw[hp]at a;cases a)];exact a
section

variable{w:d9}{Q:Nat}{f:Nat→Value}{Ls:List (List Cl)}

theorem oD{D:n9}{w w':d9}{base e size n:Nat}{v:Value}{xs:List Value}(h:w.ownsRow base e size v n xs)(hc:Ch D w w')(hd: ∀x,v.ownBlock=some x→ ¬D x):w'.ownsRow base e size v n xs:=by
 refine⟨h.1,?_⟩;rcases h.2 with f|⟨g,a,cur,b,d,c,r⟩
 ·exact .inl f
 ·exact .inr ⟨g,a,cur,b,d,by rw[hc.block g ((Array.getElem?_eq_some_iff.1 c).1) (hd g (by rw[b];rfl))];exact c,r⟩
def Nf(w:d9)(Q N:Nat)(f:Nat→Value)(Ls:List (List Cl))(ks:f7)(mb ma:Int)(kv iv:Value)(wr:d9):Prop:=
 ∃(i:Nat) (g:Nat→Value),iv= .int .i64 i∧i≤6∧SH wr Q g (ZZ (A4 ks mb) Ls i)∧tK w f g∧MB wr N mb ma kv∧Kv wr kv ks∧Ch (fun x=>x=Q) w wr
theorem xK(h:SH w Q f Ls)(hle: ∀i,i<6→(B3 Ls i).length≤16){kv:Value}{ks:f7}(hk:Kv w kv ks)(mb ma:Int)(hmb:mb≤9223372036854775807):
  Calls Tryz.prog 131 #[.pointer (some ⟨Q,0,none⟩),.agg #[.int .i64 mb,.int .i64 ma,kv]] w fun e w'=>e= .returned (.tuple #[])∧(∃g,SH w' Q g (Ls.map (A4 ks mb))∧tK w f g)∧Ch (fun x=>x=Q) w w':=by
 have l1:=b9 hle;have j1:=b9 hmb;have L0:=b9 h.len;have f1:=b9 h.lt;have t0:c6 _:=a8 w (Obj.cells #[.int .i64 mb,.int .i64 ma,kv] 62)
 have H0:c6 (Nf w Q w.heap.size f Ls ks mb ma kv (.int .i64 0) (w.alloc (Obj.cells #[.int .i64 mb,.int .i64 ma,kv] 62))):=
  ⟨0,f,rfl,by omega,by rw[XQ];exact h.below t0.o,tK.refl _ _,A9 w mb ma kv,hk.below t0.o,Ch.of_below t0.o⟩
 obtain⟨ka,kn,kc,W⟩:=F2 hk;subst W;clear h hle hk hmb t0;go_in;go_upto_region 1 with fail
 obtain⟨N,hN⟩:=c7 w.heap.size;rw[←hN]at H0⊢;have HN:=b9 hN;clear hN;generalize w.alloc (Obj.cells #[.int .i64 mb,.int .i64 ma,.slice ka kn kc] 62)=w0 at H0⊢;go_wp2_with fail;go_loopw [8] (fun iv wr=>Nf w Q N f Ls ks mb ma (.slice ka kn kc) iv wr) (fun iv _=>6-(intOf iv).toNat)
 case atStart=>exact H0.o
 case round=>
  clear H0;obtain⟨i,g,rfl,hi,C0,Q0,j0,W,D0⟩:=hrel;obtain⟨wo,P0⟩:=c7 wr;rw[←P0]at C0 j0 W D0⊢;clear P0;have b0:=b9 C0;have V0:=b9 Q0;have HM:=b9 j0;have HK:=b9 W;have HC:=b9 D0;clear C0 Q0 j0 W D0;by_cases B:i<6;rotate_left
  ·have W0: ¬(i:Int)<6:=by omega
   obtain rfl:i=6:=by omega
   have HF:c6 (SH wo Q g (Ls.map (A4 ks mb))):=by have h:=b0.o;rw[Cm L0.o]at h;exact h
   go_wp2_with fail;go_end0;exact⟨rfl,⟨g,HF.o,V0.o⟩,HC.o⟩
  ·have W0:(i:Int)<6:=by omega
   obtain⟨l,hl⟩:=c7 (B3 Ls i);have HL:=b9 hl;have Z:=b0.o.cv i B;rw[Hz (by rw[L0.o];exact B),←hl]at Z;obtain⟨pa,pc,U⟩:=Z.form;obtain⟨pn,l0⟩:=c7 l.length;rw[←l0]at U;rw[U]at Z;have r1:=b9 Z;have p0:=b9 l0;have m0:=b0.o.c i B;rw[U]at m0;have O0:c6 (pn≤16):=by show _≤_;rw[l0,hl];exact l1.o i B
   have t1:(pn:Int)≤16:=by have:=O0.o;omega
   have n1:=b9 U;have g1:=b9 b0.o.lt;have K0:c6 ((wo.alloc (Obj.cells #[] 132)).ownsRow wo.heap.size 132 6 (.slice (some ⟨wo.heap.size,0,none⟩) 0 0) 0 []):=World.ownsRow_made wo #[] 0 (Nat.le_refl _) (by simp[maxLen]) rfl;have M0:c6 (f8 wo (wo.alloc (Obj.cells #[] 132))):=a8 _ _;have m1:(wo.alloc (Obj.cells #[] 132)).cell? ⟨Q,i,none⟩=some (.slice pa pn pc):=by rw[M0.o.cell (p:=⟨Q,i,none⟩) g1.o];exact m0
   clear hl Z U l0 m0;go_upto_region 5 with fail
   generalize wo.alloc (Obj.cells #[] 132)=wa at K0 M0 m1⊢;obtain⟨E0,F0⟩:=c7 wo.heap.size;rw[←F0]at K0⊢;have p1:=b9 F0;clear F0;go_upto_block 2 with fail;go_cut [5,7] (fun lv _ wx=>wx.ownsRow wo.heap.size 132 6 lv (A4 ks mb l).length (l9 (A4 ks mb l))∧f8 wo wx)
   case first=>
    clear m1;go_wp2_with fail;go_loopw [5,18] (fun lv jv wx=> ∃j:Nat,jv= .int .i64 j∧j≤pn∧wx.ownsRow wo.heap.size 132 6 lv (A4 ks mb (l.take j)).length (l9 (A4 ks mb (l.take j)))∧f8 wo wx) (fun _ jv _=>pn-(intOf jv).toNat)
    case atStart=>exact⟨0,rfl,by omega,by rw[←p1.o];simpa[A4,l9]using K0.o,M0.o⟩
    case round=>
     obtain⟨j,rfl,hj,a,v⟩:=hrel;have HO:=b9 a;have HB:=b9 v;clear a v;by_cases Y:j<pn;rotate_left
     ·have X0: ¬(j:Int)<(pn:Int):=by omega
      have HE:c6 (A4 ks mb (l.take j)=A4 ks mb l):=by show _=_;rw[List.take_of_length_le (by have:=p0.o;omega)]
      go_wp2_with fail;go_meet;exact⟨by rw[←HE.o];exact HO.o,HB.o⟩
     ·have X0:(j:Int)<(pn:Int):=by omega
      have s1:=decide_eq_true Y;have t:j<l.length:=by have:=p0.o;omega
      rcases B2 (r1.o.below HB.o)with ⟨h0,_⟩|⟨b1,o1,M,e1,_,_,_,k1⟩
      ·rw[h0]at t;simp at t
      simp only[Value.slice.injEq]at e1;have a1:=e1.1;clear e1;subst a1;obtain⟨x0,x1,x2,x3,x4,x5⟩:=k1 j t;obtain⟨c,hc⟩:=c7 (l[j]);rw[←hc]at x0 x1 x2 x3 x4 x5;have K:=b9 hc;clear k1 hc;go_upto_region 8 with fail
      clear x0 x1 x2 x3 x4 x5;have i0:c6 (f8 wo (wr.alloc (Obj.cells #[.int .u64 c.k,.bool c.p.h,.int .u64 c.p.b,.bool c.c.h,.int .u64 c.c.b,.int .i64 c.n] 132))):=a9 HB.o (a8 _ _);have f0:c6 _:=B0 wr c;have J0:c6 ((wr.alloc (Obj.cells #[.int .u64 c.k,.bool c.p.h,.int .u64 c.p.b,.bool c.c.h,.int .u64 c.c.b,.int .i64 c.n] 132)).ownsRow wo.heap.size 132 6 u5 (A4 ks mb (l.take j)).length (l9 (A4 ks mb (l.take j)))):=HO.o.alloc _;have S0:c6 (∀x,u5.ownBlock=some x→x<wr.heap.size):=fun x O=>(HO.o.lt x O).2;obtain⟨X,hX⟩:=c7 wr.heap.size;rw[←hX]at f0 S0⊢;have d1:c6 (wo.heap.size≤X):=by show _≤_;rw[hX];exact HB.o.size
      clear hX;generalize wr.alloc (Obj.cells #[.int .u64 c.k,.bool c.p.h,.int .u64 c.p.b,.bool c.c.h,.int .u64 c.c.b,.int .i64 c.n] 132)=w2 at i0 f0 J0⊢;clear HB HO;have s0:=b9 (HM.o.keep i0.o);have T0:=b9 (HK.o.below i0.o);have y0:=s0.o.c0;have y1:=s0.o.c1;have y2:=s0.o.c2;have I:=f0.o.c0;obtain⟨H,hH⟩:=c7 (decide (c.k∈ks));go_wp2_with fail;refine(oI T0.o mb ma c.k).mono ?_;rw[←hH];rintro e w3 ⟨rfl,o0⟩;have g0:=b9 (a9 i0.o o0);have C:=b9 (f0.o.keep o0);have r0:=b9 (j8 J0.o o0);have U0:=b9 hH;clear o0 hH i0 f0 J0 s0 T0 y0 y1 y2 I
      cases H
      ·obtain⟨D,hD⟩:=c7 (U1 ks mb c);have a0:D=c:=by rw[hD];unfold U1;rw[if_neg (of_decide_eq_false U0.o.symm)]
       have G:=b9 hD;have L:=b9 g0.o;have d:c6 (CB w3 X D):=by rw[a0];exact C.o
       have J:=b9 r0.o;clear hD a0 g0 C r0;have I:=d.o.c0;have M:=d.o.c1;have T:=d.o.c2;have S:=d.o.c3;have R:=d.o.c4;have P:=d.o.c5;go_wp2_with fail;refine(fN D _).mono ?_;obtain⟨EM,s⟩:=c7 (aG D);rw[←s];rintro e w5 ⟨rfl,A⟩;have r:=b9 (a9 L.o A);have m:=b9 (d.o.keep A);have E:=b9 (j8 J.o A);clear A I M T S R P L d J
       cases EM
       rotate_left
       ·have F:=b9 (yA t (by rw[←K.o,←G.o];exact s.symm));clear s;go_wp2_with fail;go_roundw
        case rel=>exact⟨j+1,by go_num,Y,by rw[F.o];exact E.o,r.o⟩
        case measure=>simp[intOf];omega
       ·have F:c6 (A4 ks mb (l.take (j+1))=A4 ks mb (l.take j)++[D]):=by have h:=rM (ks:=ks) (b:=mb) t (by rw[←K.o,←G.o];exact s.symm);rw[←K.o,←G.o]at h;exact h
        clear s;have I:=m.o.c0;have M:=m.o.c1;have T:=m.o.c2;have S:=m.o.c3;have R:=m.o.c4;have P:=m.o.c5;have d0:c6 ((A4 ks mb (l.take j)).length+1≤17):=by show _≤_;have h1:=lW ks mb (l.take j);have h2:=O0.o;have h3:=p0.o;rw[List.length_take]at h1;omega
        go_upto_region 12 with (at_builtin;refine i9 (by rfl) (.tmp 33) (.tmp 35) (by rfl) wo.heap.size _ _ _ (by rfl) (E.o.alloc _) _ [D] (by rfl) (P5 w5 D) (by have:=d0.o;simp only[maxLen,List.length_singleton];omega) (by have:=d0.o;simp only[List.length_singleton];omega) (by rw[g8];have:=r.o.size;omega) ?_;intro v6 w6 a u)
        have N0:c6 (f8 wo w6):=(a9 r.o (a8 _ _)).trans (g9 (E.o.alloc _) u (by rw[g8];have:=r.o.size;omega));have I0:c6 (w6.ownsRow wo.heap.size 132 6 v6 (A4 ks mb (l.take (j+1))).length (l9 (A4 ks mb (l.take (j+1))))):=by show World.ownsRow _ _ _ _ _ _ _;rw[F.o,List.length_append,G4];exact a
        clear a u I M T S R P;go_wp2_with fail;go_roundw
        case rel=>exact⟨j+1,by go_num,Y,I0.o,N0.o⟩
        case measure=>simp[intOf];omega
      ·obtain⟨D,hD⟩:=c7 (U1 ks mb c);have a0:bP c mb=D:=by rw[hD];unfold U1;rw[if_pos (of_decide_eq_true U0.o.symm)]
       have G:=b9 hD;obtain⟨I,M,T,S,R,P,zz⟩:=C.o;have y0:=(HM.o.keep g0.o).c0;clear hD zz;go_wp2_with fail;refine(CE c j1.o _).mono ?_;rw[a0];rintro e w4 ⟨rfl,n0⟩;have A0:=b9 (a9 g0.o n0);have k0:=b9 (C.o.keep n0);have v0:=b9 (j8 r0.o n0);clear I M T S R P y0 n0 a0 g0 C r0;obtain⟨I,M,T,S,R,P,zz⟩:=k0.o;have z0:=zz 0;have z1:=zz 1;have z2:=zz 2;have z3:=zz 3;have z4:=zz 4;have z5:=zz 5;clear zz;have d:=b9 (k0.o.set D);have L:c6 _:=R7 A0.o d1.o (.int .u64 D.k) (.bool D.p.h) (.int .u64 D.p.b) (.bool D.c.h) (.int .u64 D.c.b) (.int .i64 D.n);have J:c6 (((((((w4.setCell ⟨X,0,none⟩ (.int .u64 D.k)).setCell ⟨X,1,none⟩ (.bool D.p.h)).setCell ⟨X,2,none⟩ (.int .u64 D.p.b)).setCell ⟨X,3,none⟩ (.bool D.c.h)).setCell ⟨X,4,none⟩ (.int .u64 D.c.b)).setCell ⟨X,5,none⟩ (.int .i64 D.n)).ownsRow wo.heap.size 132 6 u5 (A4 ks mb (l.take j)).length (l9 (A4 ks mb (l.take j)))):=oD v0.o (AC (D:=fun x=>x=X) (Ch.refl _ w4) (.inl rfl) _ _ _ _ _ _) (fun x O e=>by have:=S0.o x O;omega);go_upto_region 10 with fail
       clear I M T S R P z0 z1 z2 z3 z4 z5 A0 k0 v0;generalize ((((((w4.setCell ⟨X,0,none⟩ (.int .u64 D.k)).setCell ⟨X,1,none⟩ (.bool D.p.h)).setCell ⟨X,2,none⟩ (.int .u64 D.p.b)).setCell ⟨X,3,none⟩ (.bool D.c.h)).setCell ⟨X,4,none⟩ (.int .u64 D.c.b)).setCell ⟨X,5,none⟩ (.int .i64 D.n))=w7 at d L J⊢;have I:=d.o.c0;have M:=d.o.c1;have T:=d.o.c2;have S:=d.o.c3;have R:=d.o.c4;have P:=d.o.c5;go_wp2_with fail;refine(fN D _).mono ?_;obtain⟨EM,s⟩:=c7 (aG D);rw[←s];rintro e w5 ⟨rfl,A⟩;have r:=b9 (a9 L.o A);have m:=b9 (d.o.keep A);have E:=b9 (j8 J.o A);clear A I M T S R P L d J
       cases EM
       rotate_left
       ·have F:=b9 (yA t (by rw[←K.o,←G.o];exact s.symm));clear s;go_wp2_with fail;go_roundw
        case rel=>exact⟨j+1,by go_num,Y,by rw[F.o];exact E.o,r.o⟩
        case measure=>simp[intOf];omega
       ·have F:c6 (A4 ks mb (l.take (j+1))=A4 ks mb (l.take j)++[D]):=by have h:=rM (ks:=ks) (b:=mb) t (by rw[←K.o,←G.o];exact s.symm);rw[←K.o,←G.o]at h;exact h
        clear s;have I:=m.o.c0;have M:=m.o.c1;have T:=m.o.c2;have S:=m.o.c3;have R:=m.o.c4;have P:=m.o.c5;have d0:c6 ((A4 ks mb (l.take j)).length+1≤17):=by show _≤_;have h1:=lW ks mb (l.take j);have h2:=O0.o;have h3:=p0.o;rw[List.length_take]at h1;omega
        go_upto_region 12 with (at_builtin;refine i9 (by rfl) (.tmp 33) (.tmp 35) (by rfl) wo.heap.size _ _ _ (by rfl) (E.o.alloc _) _ [D] (by rfl) (P5 w5 D) (by have:=d0.o;simp only[maxLen,List.length_singleton];omega) (by have:=d0.o;simp only[List.length_singleton];omega) (by rw[g8];have:=r.o.size;omega) ?_;intro v6 w6 a u)
        have N0:c6 (f8 wo w6):=(a9 r.o (a8 _ _)).trans (g9 (E.o.alloc _) u (by rw[g8];have:=r.o.size;omega));have I0:c6 (w6.ownsRow wo.heap.size 132 6 v6 (A4 ks mb (l.take (j+1))).length (l9 (A4 ks mb (l.take (j+1))))):=by show World.ownsRow _ _ _ _ _ _ _;rw[F.o,List.length_append,G4];exact a
        clear a u I M T S R P;go_wp2_with fail;go_roundw
        case rel=>exact⟨j+1,by go_num,Y,I0.o,N0.o⟩
        case measure=>simp[intOf];omega
   case rest=>
    obtain⟨a,v⟩:=hcut;have R0:=b9 ((cX a).1);have i1:c6 (∀x,u5.ownBlock=some x→wo.heap.size≤x):=fun x O=>(a.lt x O).1;have r:=b9 v;have G0:=b9 (b0.o.below v);obtain⟨va,vn,vc,Z0⟩: ∃x y z,u5= .slice x y z:=by obtain⟨x,y,z⟩:=R0.o.form;exact⟨x,_,y,z⟩
    subst Z0;have q0:=G0.o.c i B;rw[n1.o]at q0;have q1:=G0.o.z i
    have Y0:c6 (Nf w Q N f Ls ks mb ma (.slice ka kn kc) (.int .i64 ((i:Int)+1)) (wc.setCell ⟨Q,i,none⟩ (.slice va vn vc))):=by
     refine⟨i+1,pR g i (.slice va vn vc),rfl,B,?_,?_,?_,?_,?_⟩
     ·have h:=G0.o.set B R0.o;rw[HL.o,Ck (by rw[L0.o];exact B)]at h;exact h
     ·intro j hj x O;unfold pR at O;by_cases q:i=j
      ·rw[if_pos q]at O;have h1:=i1.o x O;have h2:=HC.o.size;right;omega
      ·rw[if_neg q]at O;exact V0.o j hj x O
     ·exact(HM.o.keep r.o).ch (k8 wc Q i _) (by have h1:=f1.o;have h2:=HN.o;omega)
     ·exact Cy (HK.o.below r.o) q0 _
     ·exact(HC.o.self (Ch.of_below r.o)).self (k8 wc Q i _)
    clear a v m1;go_wp2_with fail;go_roundw
    case rel=>exact Y0.o
    case measure=>simp[intOf];omega
end
end
theorem FM{o:Option Nat}{c:Cl}{r:List Cl}(h:U3 o (c::r)=0):N0 o c.k=true∧F6 c=true∧U3 (some c.k) r=0:=by
 simp only[U3]at h
 split at h
 ·omega
 ·rename_i b
  split at h
  ·omega
  ·rename_i a
   exact⟨by simpa using b,by simpa using a,h⟩
theorem Is{cs:List Cl}: ∀{o:Option Nat}{r:f7},U3 o cs=0→(∀c∈cs,c.okB)→J9 cs.length o (aO cs++r)=(0,cs,r):=by
 induction cs with
 |nil=>intro o r _ _;rfl
 |cons c t b=>
  intro o r h a;obtain⟨i,g,f⟩:=FM h;have e:aO (c::t)++r=G0 c++(aO t++r):=by simp[aO]
  rw[e];simp only[List.length_cons,J9,Ca (a c (by simp)) g i,b f (fun d hd=>a d (by simp[hd]))];simp
theorem YP{n:Nat}: ∀{o:Option Nat}{l r:f7}{cs:List Cl},(∀c∈l,c<256)→J9 n o l=(0,cs,r)→l=aO cs++r∧U3 o cs=0∧cs.length=n∧ ∀c∈cs,c.okB:=by
 induction n with
 |zero=>
  intro o l r cs _ h;simp only[J9,Prod.mk.injEq,true_and]at h;obtain⟨rfl,rfl⟩:=h;exact⟨rfl,rfl,rfl,by simp⟩
 |succ n p=>
  intro o l r cs i h;obtain⟨e,c,m,g⟩: ∃a b c,L3 o l=(a,b,c):=⟨_,_,_,rfl⟩;simp only[J9,g]at h
  split at h
  ·simp at h;omega
  ·rename_i q
   have q:e=0:=by omega
   subst q;obtain⟨j,w,v,u⟩:=SI i g;have t: ∀x∈m,x<256:=fun x s=>i x (by rw[j];simp[s]);obtain⟨y,D,C,hd⟩: ∃B A z,J9 n (some c.k) m=(B,A,z):=⟨_,_,_,rfl⟩;rw[hd]at h
   split at h
   ·simp at h;omega
   ·rename_i f
    have f:y=0:=by simp only at f;omega
    subst f;simp only[Prod.mk.injEq,true_and]at h;obtain⟨rfl,rfl⟩:=h;obtain⟨i1,i2,i3,i4⟩:=p t hd;refine⟨by rw[j,i1];simp[aO],?_,by simp[i3],fun d hd=>?_⟩
    ·simp[U3,w,v,i2]
    ·simp at hd;rcases hd with rfl|hd
     ·exact u
     ·exact i4 d hd
theorem cS{l:List Cl}(h:(m9 l).2=0):(l=[]∧m9 l=([],0))∨(0<l.length∧l.length≤16∧U3 none l=0∧m9 l=(Wm.enc l.length++aO l,0)):=by
 unfold m9 at h⊢
 split at h
 ·simp at h
 ·rename_i c
  split at h
  ·rename_i b
   have:l=[]:=List.eq_nil_of_length_eq_zero b;subst this;exact .inl ⟨rfl,rfl⟩
  ·rename_i b
   split at h
   ·rename_i a
    rw[if_neg c,if_neg b,if_pos a];exact .inr ⟨by omega,by omega,a,rfl⟩
   ·rename_i a;exact absurd h a
theorem YI{l:List Cl}(h:(m9 l).2=0):(m9 l).1.length≤1024∧((m9 l).1.length=0↔l.length=0):=by
 rcases cS h with ⟨rfl,e⟩|⟨d,c,_,e⟩
 ·rw[e];simp
 ·rw[e];have a:=Wm.enc_len l.length;have b:=IG l;simp only[List.length_append];omega
theorem LN{l:List Cl}(h:(m9 l).2=0)(hok: ∀c∈l,c.okB): ∀x∈(m9 l).1,x<256:=by
 rcases cS h with ⟨rfl,e⟩|⟨n,m,k,e⟩
 ·rw[e];simp
 ·rw[e];intro x a;simp only[List.mem_append]at a;rcases a with a|a
  ·exact Wm.enc_lt _ (by omega) x a
  ·have: ∀(cs:List Cl) (o:Option Nat),U3 o cs=0→(∀c∈cs,c.okB)→ ∀x∈aO cs,x<256:=by
    intro cs
    induction cs with
    |nil=>intro o _ _ x a;simp[aO]at a
    |cons c t i=>
     intro o j b x a;obtain⟨_,g,f⟩:=FM j;simp only[aO,List.mem_append]at a;rcases a with a|a
     ·exact ZC (b c (by simp)) g x a
     ·exact i _ f (fun d hd=>b d (by simp[hd])) x a
   exact this l none k hok x a
theorem kI{l:List Cl}(h:(m9 l).2=0)(hok: ∀c∈l,c.okB):t7 (m9 l).1=(l,0):=by
 rcases cS h with ⟨rfl,e⟩|⟨f,d,b,e⟩
 ·rw[e];rfl
 ·rw[e];have a:=Wm.take_enc l.length (aO l) (by omega);rw[jC a (by have:=Wm.enc_len l.length;simp only[List.length_append];omega) (by omega) d];rw[List.drop_append_of_le_length (Nat.le_refl _),List.drop_length,List.nil_append];have hd:=Is (r:=[]) b hok;rw[List.append_nil]at hd;simp[uB,hd]
theorem oJ{b:f7}(hb: ∀c∈b,c<256)(h:(t7 b).2=0):m9 (t7 b).1=(b,0)∧ ∀c∈(t7 b).1,c.okB:=by
 by_cases i:b.length=0
 ·have:b=[]:=List.eq_nil_of_length_eq_zero i;subst this;exact⟨rfl,by simp[t7]⟩
 ·rcases Wm.take_form b hb with ⟨e,g,t⟩|⟨x,n,g,u,s,q,k⟩
  ·rw[kR g i (by omega)]at h;simp at h;omega
  ·by_cases j:x=0
   ·subst j;rw[iD g i]at h;simp at h
   ·by_cases l:16<x
    ·rw[kQ g i l]at h;simp at h
    ·have o:=jC g i j (by omega);rw[o]at h⊢;by_cases d:(J9 x none (b.drop n)).1=0
     ·by_cases f:(J9 x none (b.drop n)).2.2.length=0
      ·rw[zW d f];obtain⟨e,cs,r,hd⟩: ∃a b' c,J9 x none (b.drop n)=(a,b',c):=⟨_,_,_,rfl⟩;rw[hd]at d f⊢;simp only at d f⊢;subst d;have m:r=[]:=List.eq_nil_of_length_eq_zero f;subst m;obtain⟨i1,i2,i3,i4⟩:=YP (fun c p=>hb c (List.mem_of_mem_drop p)) hd;refine⟨?_,i4⟩;rw[oO (by omega) (by omega) i2,NO,i3];rw[List.append_nil]at i1;rw[←i1,k,List.take_append_drop]
      ·rw[oQ d f]at h;simp at h
     ·rw[kS rfl d]at h;exact absurd h d
section
/-! Cells that are the same. -/
def Iq(c d:Cl):Bool:=decide (c.k=d.k)&&(AK c.p d.p&&(AK c.c d.c&&decide (c.n=d.n)))
def TO:List Cl→List Cl→Bool
 |[],[]=>true
 |c::l,d::m=>Iq c d&&TO l m
 |_,_=>false
theorem zS{v u:Vl}:AK v u=true↔v=u:=by
 obtain⟨a,b⟩:=v;obtain⟨c,d⟩:=u;simp[AK]
theorem YO{c d:Cl}:Iq c d=true↔c=d:=by
 obtain⟨a,p,q,n⟩:=c;obtain⟨b,r,s,m⟩:=d;simp only[Iq,Bool.and_eq_true,decide_eq_true_eq,zS,Cl.mk.injEq]
theorem FG{l:List Cl}: ∀{m:List Cl},TO l m=true↔l=m:=by
 induction l with
 |nil=>intro m;cases m<;>simp[TO]
 |cons c l a=>intro m;cases m with
  |nil=>simp[TO]
  |cons d m=>simp only[TO,Bool.and_eq_true,YO,a,List.cons.injEq]
def aH(old new:List (List Cl)):Nat→List (Int × f7)
 |0=>[]
 |i+1=>aH old new i++(if TO (B3 new i) (B3 old i)=true then []else [(1+(i:Int),(m9 (B3 new i)).1)])
theorem iF{old new:List (List Cl)}{i:Nat}(h:B3 new i=B3 old i):aH old new (i+1)=aH old new i:=by
 rw[aH,if_pos (FG.2 h),List.append_nil]
theorem jE{old new:List (List Cl)}{i:Nat}(h:B3 new i≠B3 old i):aH old new (i+1)=aH old new i++[(1+(i:Int),(m9 (B3 new i)).1)]:=by
 rw[aH,if_neg (fun e=>h (FG.1 e))]
theorem AB(old new:List (List Cl)): ∀i,(aH old new i).length≤i:=by
 intro i
 induction i with
 |zero=>simp[aH]
 |succ i a=>rw[aH,List.length_append];split<;>simp<;>omega
/-! A list of writes, all of it new memory. -/
theorem EN:(Tryz.prog.info? 77).map (fun i=>(i.zero,i.size,i.bytes))=some (some (.agg #[.int .i64 0,.slice none 0 0]),2,32):=by kernel_rfl
def eD(qs:List (Int × Value)):List Value:=qs.flatMap fun q=>[.int .i64 q.1,q.2]
theorem zO(a b:List (Int × Value)):eD (a++b)=eD a++eD b:=by simp[eD]
theorem vU(qs:List (Int × Value))(i:Nat)(hi:i<qs.length):(eD qs)[i*2]?=some (.int .i64 qs[i].1)∧(eD qs)[i*2+1]?=some qs[i].2:=by
 induction qs generalizing i with
 |nil=>simp at hi
 |cons q r a=>
  have e:eD (q::r)=[.int .i64 q.1,q.2]++eD r:=rfl;rw[e]
  cases i with
  |zero=>simp
  |succ i=>
   have h:=a i (by simpa using hi);rw[show(i+1)*2=i*2+2 by omega,List.getElem?_append_right (by simp),List.getElem?_append_right (by simp)];simpa using h
def WL(base:Nat)(w:d9)(v:Value)(ps:List (Int × f7)):Prop:=
 ∃qs:List (Int × Value),qs.length=ps.length∧w.ownsRow base 77 2 v ps.length (eD qs)∧
  (∀i,(h:i<ps.length)→(h':i<qs.length)→qs[i].1=ps[i].1∧w.ownsRow base 5 1 qs[i].2 ps[i].2.length (cb ps[i].2)∧ ∀c∈ps[i].2,c<256)∧ ∀p∈ps,0≤p.1∧p.1<8
theorem WL.nil(base:Nat)(w:d9):WL base w (.slice none 0 0) []:=⟨[],rfl,⟨rfl,.inl ⟨rfl,rfl⟩⟩,fun i hi=>by simp at hi,by simp⟩
theorem WL.below{base:Nat}{w w':d9}{v:Value}{ps:List (Int × f7)}(h:WL base w v ps)(hb:f8 w w'):WL base w' v ps:=by
 obtain⟨qs,f,e,c,d⟩:=h;exact⟨qs,f,j8 e hb,fun i b a=>⟨(c i b a).1,j8 (c i b a).2.1 hb,(c i b a).2.2⟩,d⟩
theorem WL.low{base b2:Nat}{w:d9}{v:Value}{ps:List (Int × f7)}(h:WL base w v ps)(hb:b2≤base):WL b2 w v ps:=by
 obtain⟨qs,f,e,c,d⟩:=h;exact⟨qs,f,q9 e hb,fun i b a=>⟨(c i b a).1,q9 (c i b a).2.1 hb,(c i b a).2.2⟩,d⟩
theorem KQ{w:d9}{base e:Nat}{v:Value}{n:Nat}{xs:List Value}(h:w.ownsRow base e 2 v n xs)(hn:0<n): ∃g cap cur,v= .slice (some ⟨g,0,none⟩) n cap∧base≤g∧n≤cap∧cap≤maxLen∧w.heap[g]?=some (.cells cur e (0,0))∧ ∀j,j<n*2→w.cell? ⟨g,j,none⟩=xs[j]?:=by
 obtain⟨p,k⟩:=h;rcases k with ⟨_,q⟩|⟨g,cap,cur,f,i,d,b,c,m,a⟩
 ·omega
 ·refine⟨g,cap,cur,f,i,b,c,d,fun j o=>?_⟩;rw[cell_of_row w g j cur _ (0,0) d,←Array.getElem?_toList];have e:=congrArg (fun l=>l[j]?) a;simp only[List.getElem?_take]at e;rw[if_pos (by omega)]at e;exact e
theorem WL.tx{A:n9}{base:Nat}{w:d9}{v:Value}{ps:List (Int × f7)}(h:WL base w v ps)(hA: ∀x,A x→x<base):Tx A w v ps:=by
 obtain⟨qs,D,m,l,u⟩:=h;refine⟨?_,fun p f=>by have:=u p f;omega⟩;by_cases r:0<ps.length
 ·obtain⟨g,c,cur,e,t,a,b,s,k⟩:=KQ m r;refine⟨some ⟨g,0,none⟩,c,e,a,b,by simp,fun i d=>⟨g,0,qs[i].2,rfl,fun e=>by have:=hA g e;omega,?_,?_,?_⟩⟩
  ·rw[Nat.zero_add,k (i*2) (by omega),(vU qs i (by omega)).1,(l i d (by omega)).1]
  ·rw[Nat.zero_add,k (i*2+1) (by omega),(vU qs i (by omega)).2]
  ·obtain⟨_,j,n⟩:=l i d (by omega);exact⟨p7 j n,.inr fun x o e=>by have C:=(j.lt x o).1;have B:=hA x e;omega⟩
 ·have f:ps=[]:=List.eq_nil_of_length_eq_zero (by omega);subst f;rcases m.2 with ⟨rfl,_⟩|⟨g,c,cur,q,t,s,a,b,z,y⟩
  ·exact⟨none,0,rfl,by simp,by simp[maxLen],by simp,fun i d=>by simp at d⟩
  ·exact⟨_,c,q,a,b,by simp,fun i d=>by simp at d⟩
theorem gI(w:d9)(g:Nat→Value){Ls:List (List Cl)}(hl:Ls.length=6)(hg: ∀j,j<6→Cv w (g j) (B3 Ls j)):SH (w.alloc (Obj.cells #[g 0,g 1,g 2,g 3,g 4,g 5] 84)) w.heap.size g Ls:=by
 refine⟨hl,fun i a=>?_,fun j=>by simp[go_sem],fun i a=>(hg i a).below (a8 _ _)⟩;have:i=0∨i=1∨i=2∨i=3∨i=4∨i=5:=by omega
 rcases this with rfl|rfl|rfl|rfl|rfl|rfl<;>simp[go_sem]
theorem oP{l:List Cl}(hok: ∀c∈l,c.okB): ∀x∈(m9 l).1,x<256:=by
 by_cases h:(m9 l).2=0
 ·exact LN h hok
 ·have:(m9 l).1=[]:=by
   unfold m9 at h⊢
   split
   ·rfl
   ·split
    ·rfl
    ·split
     ·rename_i d b a;rw[if_neg d,if_neg b,if_pos a]at h;exact absurd rfl h
     ·rfl
  rw[this];simp
theorem WF:(77:Nat)≠5:=by decide
theorem UP{base:Nat}{w w':d9}{v v' u:Value}{ps:List (Int × f7)}{qs:List (Int × Value)}{p:Int}{d:f7}(_hw:WL base w v ps)(k1:qs.length=ps.length)(k2:w.ownsRow base 77 2 v ps.length (eD qs))
  (k3: ∀i,(h:i<ps.length)→(h':i<qs.length)→qs[i].1=ps[i].1∧w.ownsRow base 5 1 qs[i].2 ps[i].2.length (cb ps[i].2)∧ ∀c∈ps[i].2,c<256) (k4: ∀p∈ps,0≤p.1∧p.1<8)
  (hu:w.ownsRow base 5 1 u d.length (cb d)) (hd: ∀c∈d,c<256) (hp:0≤p∧p<8) (hbase:base≤w.heap.size) (g1:w'.ownsRow base 77 2 v' (ps.length+1) (eD qs++[.int .i64 p,u])) (g2:w.grownBy w' v.ownBlock):
  WL base w' v' (ps++[(p,d)])∧Below base w w':=by
 have l:=g9 k2 g2 hbase
 have keep: ∀{y:Value}{n:Nat}{ys:List Value},w.ownsRow base 5 1 y n ys→w'.ownsRow base 5 1 y n ys:=fun {y n ys} m=>by
  refine oD m (Ch.of_grown (D:=fun x=>v.ownBlock=some x) g2 (fun x q=>q)) (fun z j e=>?_);rcases m.2 with ⟨rfl,_⟩|⟨g,F,cur,rfl,_,t,_⟩
  ·cases j
  ·rcases k2.2 with ⟨rfl,_⟩|⟨g',cap',cur',rfl,_,a,_⟩
   ·cases e
   ·simp[Value.ownBlock]at j e;subst j;subst e;rw[t]at a;simp only[Option.some.injEq,Obj.cells.injEq]at a;exact WF a.2.1.symm
 refine⟨⟨qs++[(p,u)],by simp[k1],?_,fun i s E=>?_,fun r b=>?_⟩,l⟩
 ·rw[List.length_append,zO];exact g1
 ·by_cases o:i<ps.length
  ·have f:i<qs.length:=by omega
   simp only[List.getElem_append_left o,List.getElem_append_left f];obtain⟨C,B,A⟩:=k3 i o f;exact⟨C,keep B,A⟩
  ·have k:i=ps.length:=by simp at s;omega
   subst k;simp only[List.getElem_append_right (Nat.le_refl _),Nat.sub_self,List.getElem_singleton];have e:(qs++[(p,u)])[ps.length]=(p,u):=by rw[List.getElem_append_right (by omega)];simp[k1]
   rw[e];exact⟨rfl,keep hu,hd⟩
 ·rcases List.mem_append.1 b with b|b
  ·exact k4 r b
  ·simp at b;subst b;exact hp
theorem W8{w:d9}{ops:Array Oper}{rest:List Oper}{o:Oper}{a:Act}{Q:Exit→Act→d9→Prop}(hgd:o.guard=none)(s x:Operand)
  (ho:o.op= .call {callee:= .builtin .append,args:= #[s,x],argTypes:= #[79,79]})
  (base:Nat) (v:Value) (ps:List (Int × f7)) (hs:a.eval s=v) (hw:WL base w v ps)
  (q:Nat) (p:Int) (u:Value) (d:f7) (hx:a.eval x= .slice (some ⟨q,0,none⟩) 1 1) (h0:w.cell? ⟨q,0,none⟩=some (.int .i64 p)) (h1:w.cell? ⟨q,1,none⟩=some u) (hu:w.ownsRow base 5 1 u d.length (cb d)) (hd: ∀c∈d,c<256) (hp:0≤p∧p<8) (hn:ps.length≤16) (hbase:base≤w.heap.size)
  (h: ∀v' w',WL base w' v' (ps++[(p,d)])→Below base w w'→wpList Tryz.prog ops Q rest (a.put o.dst v') w'):wpList Tryz.prog ops Q (o::rest) a w:=by
 obtain⟨i0,z,k,i,f⟩:=aY EN;obtain⟨qs,r,e,n,m⟩:=hw
 have l:u.oneCell'=true:=by
  rcases hu.2 with ⟨rfl,_⟩|⟨g,E,cur,rfl,_⟩<;>rfl
 refine wpList_append_own w hgd s x 79 ho base 77 i0 (.agg #[.int .i64 0,.slice none 0 0]) 2 32 Tryz.underlying79 z k i f rfl (by decide) v ps.length (eD qs) hs e ⟨q,0,none⟩ 1 1 [.int .i64 p,u] hx rfl ?_ (fun y t=>by simp at t;rcases t with rfl|rfl;rfl;exact l) (by simp only[maxLen];omega) (by omega) hbase (fun v' w' B A F=>?_)
 ·intro j y b
  cases j with
  |zero=>simp at b;subst b;exact h0
  |succ j=>cases j with
   |zero=>simp at b;subst b;exact h1
   |succ j=>simp at b
 ·obtain⟨D,C⟩:=UP ⟨qs,r,e,n,m⟩ r e n m hu hd hp hbase B A;exact h v' w' D C
section

variable{w:d9}{Q:Nat}{f g:Nat→Value}{old new:List (List Cl)}

def Nk(w0:d9)(old new:List (List Cl))(lv iv:Value)(wr:d9):Prop:=
 ∃i:Nat,iv= .int .i64 i∧i≤6∧WL w0.heap.size wr lv (aH old new i)∧f8 w0 wr
theorem nJ(h:SH w Q f new)(ho:old.length=6)(hg: ∀j,j<6→Cv w (g j) (B3 old j))(hok: ∀i,i<6→ ∀c∈B3 new i,c.okB):
  Calls Tryz.prog 68 #[.pointer (some ⟨Q,0,none⟩),.agg #[g 0,g 1,g 2,g 3,g 4,g 5]] w fun e w'=> ∃lv,e= .returned lv∧WL w.heap.size w' lv (aH old new 6)∧f8 w w':=by
 have S:=b9 hok;have p:c6 _:=a8 w (Obj.cells #[g 0,g 1,g 2,g 3,g 4,g 5] 84);have H0:=b9 (h.below p.o);have D:=b9 (gI w g ho hg);obtain⟨F,hF⟩: ∃F:Array Value,F= #[g 0,g 1,g 2,g 3,g 4,g 5]:=⟨_,rfl⟩;clear h hg hok;go_in;go_upto_region 1 with fail
 obtain⟨N,hN⟩:=c7 w.heap.size;rw[←hN]at D⊢;clear hN hF F;generalize w.alloc (Obj.cells #[g 0,g 1,g 2,g 3,g 4,g 5] 84)=s at H0 D p⊢;go_wp2_with fail;go_loopw [5,9] (fun lv iv wr=>Nk s old new lv iv wr) (fun _ iv _=>6-(intOf iv).toNat)
 case atStart=>exact⟨0,rfl,by omega,WL.nil _ _,Below.refl _ _⟩
 case round=>
  obtain⟨i,rfl,hi,L,d⟩:=hrel;have m:=b9 L;have HB:=b9 d;have G:=b9 (a9 p.o d);clear L d;by_cases a:i<6;rotate_left
  ·have W: ¬(i:Int)<6:=by omega
   obtain rfl:i=6:=by omega
   go_wp2_with fail;go_ret;exact⟨_,rfl,m.o.low p.o.size,G.o⟩
  ·have W:(i:Int)<6:=by omega
   have C:=b9 (H0.o.below HB.o);have B:=b9 (D.o.below HB.o);obtain⟨fa,fc,hf⟩:=C.o.form a;obtain⟨ga,gc,hg⟩:=B.o.form a;obtain⟨fn,O⟩: ∃n,n=(B3 new i).length:=⟨_,rfl⟩;obtain⟨gn,M⟩: ∃n,n=(B3 old i).length:=⟨_,rfl⟩;rw[←O]at hf;rw[←M]at hg;have HF:c6 (Cv wr (.slice fa fn fc) (B3 new i)):=by have:=C.o.cv i a;rw[hf]at this;exact this
   have HG:c6 (Cv wr (.slice ga gn gc) (B3 old i)):=by have:=B.o.cv i a;rw[hg]at this;exact this
   have m0: ∀wx,f8 wr wx→wx.cell? ⟨Q,i,none⟩=some (.slice fa fn fc):=fun wx h=>by have:=(C.o.below h).c i a;rw[hf]at this;exact this
   have m1: ∀wx,f8 wr wx→wx.cell? ⟨N,i,none⟩=some (.slice ga gn gc):=fun wx h=>by have:=(B.o.below h).c i a;rw[hg]at this;exact this
   have HM:c6 _:=m0;clear hf hg O M;go_upto_region 5 with fail
   go_region_held3 (fun wx=>f8 wr wx) (first|assumption|exact(Below.refl _ _).drew)
    (first|(go_at_call 139;refine(BH (HF.o.below (by assumption)) (HG.o.below (by assumption))).mono ?_;rintro e w2 ⟨⟨t,rfl,ht⟩,A⟩;have R:=a9 (by assumption) A))
   have b:c6 (f8 wr w2):=by assumption
   have HT:=b9 ht;clear ht
   cases t
   rotate_left
   ·have k:c6 (Nk s old new u5 (.int .i64 ((i:Int)+1)) w2):=⟨i+1,rfl,a,by rw[iF (HT.o.1 rfl)];exact m.o.below b.o,a9 HB.o b.o⟩;clear A R;go_wp2_with fail;go_roundw
    case rel=>exact k.o
    case measure=>simp[intOf];omega
   ·have f0:c6 (B3 new i≠B3 old i):=fun e=>by have:=HT.o.2 e;cases this
    have r:=b9 (m.o.below b.o);have Y:=b9 (a9 G.o b.o);have T:=b9 (HF.o.below b.o);have q0:=HM.o w2 b.o;have l:=b9 (a9 HB.o b.o);clear A R m0 m1 m G HF HG HB b;go_wp2_with fail;refine(FI T.o (S.o i a)).mono ?_;unfold aP;obtain⟨E,hE⟩:=c7 (m9 (B3 new i));rw[←hE];rintro e w3 ⟨v3,rfl,u,v⟩;have HE:=b9 hE;have H:c6 (∀c∈E.1,c<256):=by rw[hE];exact oP (S.o i a)
    have X:=b9 (r.o.below v);have d0:=b9 (q9 u l.o.size);have Z:=b9 (a9 l.o v);obtain⟨K,I,J,a0⟩: ∃x y z,v3= .slice x y z:=by obtain⟨x,z,e⟩:=y9 u;exact⟨x,_,z,e⟩
    subst a0;have g0:IntKind.i64.wrap (1+(i:Int))=1+(i:Int):=by rw[IntKind.wrap_i64];omega
    clear u v hE q0 r Y T l;have b0:c6 (WL s.heap.size (w3.alloc (Obj.cells #[.int .i64 (1+(i:Int)),.slice K I J] 77)) u5 (aH old new i)):=X.o.below (a8 _ _);have c0:c6 ((w3.alloc (Obj.cells #[.int .i64 (1+(i:Int)),.slice K I J] 77)).ownsRow s.heap.size 5 1 (.slice K I J) E.1.length (cb E.1)):=j8 d0.o (a8 _ _);have U:c6 (f8 s (w3.alloc (Obj.cells #[.int .i64 (1+(i:Int)),.slice K I J] 77))):=a9 Z.o (a8 _ _);go_upto_region 8 with (at_builtin;refine W8 (by rfl) (.tmp 30) (.tmp 35) (by rfl) s.heap.size _ (aH old new i) (by rfl) b0.o _ (1+(i:Int)) (.slice K I J) E.1 (by rfl) (by simp[go_sem]) (by simp[go_sem]) c0.o H.o (by omega) (by have:=AB old new i;omega) U.o.size ?_;intro v5 w5 q P)
    have k:c6 (Nk s old new v5 (.int .i64 ((i:Int)+1)) w5):=⟨i+1,rfl,a,by rw[jE f0.o,←HE.o];exact q,U.o.trans P⟩;clear q P;go_wp2_with fail;go_roundw
    case rel=>exact k.o
    case measure=>simp[intOf];omega
end
end
end Go.Proofs.YtfhoilcbhmeofaaGreat
