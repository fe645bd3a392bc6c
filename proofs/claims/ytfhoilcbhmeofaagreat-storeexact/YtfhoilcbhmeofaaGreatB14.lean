/- A store in memory; contracts of page, cells, Mark, Used, Ended. -/
import Derived.Test.YtfhoilcbhmeofaaGreatB13
set_option maxRecDepth 100000
set_option maxHeartbeats 16000000
namespace Go.Proofs.YtfhoilcbhmeofaaGreat
open Go.RowKit
section
structure pQ(M:Nat)(w:d9)(R:Nat)(v:Value)(l:f7)(f:Nat):Prop where
 c0:w.cell? ⟨R,0,none⟩=some v
 c1:w.cell? ⟨R,1,none⟩=some (.int .i64 f)
 z: ∀j,w.frozen? ⟨R,j,none⟩=false
 bv:Bv w v l
 m: ∀x,v.ownBlock=some x→l≠[]→x<M
variable{M:Nat}

theorem pQ.set1{w:d9}{R:Nat}{v:Value}{l:f7}{f:Nat}(h:pQ M w R v l f)(e:Nat):pQ M (w.setCell ⟨R,1,none⟩ (.int .i64 e)) R v l e:=
 ⟨by rw[World.cell?_setCell_other _ _ _ _ (by rintro⟨⟩)];exact h.c0,by simp[go_sem,h.c1],fun j=>by simpa[go_sem]using h.z j,h.bv.set h.c1 (by intro x e;cases e) _,h.m⟩
theorem pQ.set0{w:d9}{R:Nat}{v v':Value}{l l':f7}{f:Nat}(h:pQ M w R v l f)(hb:Bv w v' l')(hm:v'.ownBlock=v.ownBlock)(hl: ∃k,l'=l.drop k:=by exact⟨_,rfl⟩):pQ M (w.setCell ⟨R,0,none⟩ v') R v' l' f:=
 ⟨by simp[go_sem,h.c0],by rw[World.cell?_setCell_other _ _ _ _ (by rintro⟨⟩)];exact h.c1,fun j=>by simpa[go_sem]using h.z j,hb.set h.c0 (GR h.bv) _,fun x b a=>h.m x (by rw[←hm];exact b) (fun e=>a (by obtain⟨k,rfl⟩:=hl;rw[e];simp))⟩
theorem pQ.below{w w':d9}{R:Nat}{v:Value}{l:f7}{f:Nat}(h:pQ M w R v l f)(hb:f8 w w'):pQ M w' R v l f:=by
 have a:=c8 h.c0;exact⟨by rw[hb.cell (p:=⟨R,0,none⟩) a];exact h.c0,by rw[hb.cell (p:=⟨R,1,none⟩) a];exact h.c1,fun j=>by rw[hb.frozen (p:=⟨R,j,none⟩) a];exact h.z j,h.bv.below hb,h.m⟩
theorem pQ.ch{D:n9}{w w':d9}{R:Nat}{v:Value}{l:f7}{f:Nat}(h:pQ M w R v l f)(hc:Ch D w w')(hd: ¬D R)(hM: ∀x,D x→M≤x):pQ M w' R v l f:=by
 have k: ∀j,w'.frozen? ⟨R,j,none⟩=w.frozen? ⟨R,j,none⟩:=fun j=>by
  have:=hc.block R (c8 h.c0) hd;simp only[World.frozen?,this]
 refine⟨hc.cell h.c0 hd,hc.cell h.c1 hd,fun j=>by rw[k j];exact h.z j,?_,h.m⟩;obtain⟨⟨y,c,e,s,r,q,p⟩,o⟩:=h.bv;refine⟨⟨y,c,e,s,r,q,fun i d=>?_⟩,o⟩;obtain⟨b,a,g,t⟩:=p i d;have A:=h.m b (by rw[e,g];rfl) (fun u=>by simp[u,ib]at d);exact⟨b,a,g,hc.cell t (fun n=>by have:=hM b n;omega)⟩
theorem L0{w:d9}{R:Nat}{v:Value}{l:f7}{f:Nat}(h:pQ M w R v l f)(g:Bool)(e:Nat):
  Calls Tryz.prog 145 #[.pointer (some ⟨R,0,none⟩),.bool g,.int .i64 e] w fun en w'=>en= .returned (.tuple #[])∧pQ M w' R v l (G3 g e f)∧Ch (fun x=>x=R) w w':=by
 have HR:=b9 h;have d:=h.c1;have c:=h.z 1;clear h
 cases g
 ·rw[Z6];go_in;go_wp2_with fail;refine bodyPost_end (results_none rfl _ _ _) rfl ?_;exact⟨rfl,HR.o,Ch.refl _ _⟩
 ·by_cases a:f=0
  ·subst a;rw[aC];go_in;go_wp2_with fail;refine bodyPost_end (results_none rfl _ _ _) rfl ?_;exact⟨rfl,HR.o.set1 e,k8 _ _ _ _⟩
  ·rw[y7 a];have b:((f:Int)==0)=false:=by rw[beq_eq_false_iff_ne];omega
   go_in;go_wp2_with fail;refine bodyPost_end (results_none rfl _ _ _) rfl ?_;exact⟨rfl,HR.o,Ch.refl _ _⟩
theorem V8{w:d9}{R:Nat}{v:Value}{l:f7}{f:Nat}(h:pQ M w R v l f):
  Calls Tryz.prog 190 #[.pointer (some ⟨R,0,none⟩)] w fun e w'=>e= .returned (.int .u64 ((Wm.take l).1:Nat))∧(∃v',pQ M w' R v' (B1 l) (M8 l f))∧Ch (fun x=>x=R) w w':=by
 have HR:=b9 h
 obtain⟨B,n,c,Q⟩: ∃a n q,v= .slice a n q:=by
  obtain⟨⟨B,c,e,_⟩,_⟩:=h.bv;exact⟨B,_,c,e⟩
 subst Q;obtain⟨S,t,s⟩:=cU h.bv;subst S;have L:=h.c0;have A:=b9 t;unfold maxLen at s;have a0:(c:Int)≤9223372036854775807:=by omega
 have Z:(l.length:Int)≤(c:Int):=by omega
 have T:=Wm.take_form l h.bv.2;clear h t s;rcases T with ⟨e,i,G⟩|⟨x,n,i,hx,E,r,D⟩
 ·have p:(Wm.take l).1=0:=by rw[i]
  have m:B1 l=l.drop 0:=by unfold B1;rw[i]
  have k:M8 l f=G3 true e f:=by
   unfold M8;rw[i];have:e≠0:=by omega
   simp[this]
  have HT:=b9 i;rw[p,m,k];have W:((e:Int) !=0)=true:=by rw[bne_iff_ne];omega
  clear p m k i G;go_in;go_wp2_with fail;refine(G9 HR.o.bv).mono ?_;rw[K7 HT.o];rintro C O ⟨rfl,rfl⟩;go_wp2_with fail;refine(L0 HR.o true e).mono ?_;rintro C J ⟨rfl,b,j⟩;have d:=b9 b;have g:=b9 j;have K:=b.c0;have N:=b.z 0;clear b j L;by_cases y:c=0
  ·have F:l.length=0:=by have:=A.o;omega
   have I:c6 (l.length≤0):=by show _≤_;omega
   subst y;rw[F]at K⊢;go_wp2_with fail;go_ret;exact⟨rfl,⟨_,d.o.set0 (bC I.o) (bT)⟩,g.o.self (k8 _ _ _ _)⟩
  ·go_wp2_with fail;go_ret;have P:Bv J (.slice (B.map fun a=>a.add 0) l.length c) (l.drop 0):=by simpa using bD d.o.bv rfl 0 (Nat.zero_le _) y
   first
    |exact⟨rfl,⟨_,d.o.set0 P gY⟩,g.o.self (k8 _ _ _ _)⟩
    |exact⟨rfl,⟨_,d.o.set0 (v':= .slice B l.length c) (by simpa using d.o.bv) bT⟩,g.o.self (k8 _ _ _ _)⟩
 ·have p:(Wm.take l).1=x:=by rw[i]
  have m:B1 l=l.drop n:=by unfold B1;rw[i]
  have k:M8 l f=G3 false 0 f:=by unfold M8;rw[i];rfl
  have HT:=b9 i;rw[p,m,k];have HN:=b9 r;have U:(n:Int)≤(l.length:Int):=by omega
  have X:(n:Int)≤(c:Int):=by omega
  clear p m k i D E r;go_in;go_wp2_with fail;refine(G9 HR.o.bv).mono ?_;rw[K7 HT.o];rintro C O ⟨rfl,rfl⟩;go_wp2_with fail;refine(L0 HR.o false 0).mono ?_;rintro C J ⟨rfl,b,j⟩;have d:=b9 b;have g:=b9 j;have K:=b.c0;have N:=b.z 0;clear b j L;by_cases u:c=n
  ·have Y:l.length=n:=by have:=A.o;have:=HN.o;omega
   have H:c6 (l.length≤n):=by show _≤_;omega
   subst u;go_wp2_with fail;go_ret;exact⟨rfl,⟨_,d.o.set0 (bC H.o) bT⟩,g.o.self (k8 _ _ _ _)⟩
  ·go_wp2_with fail;go_ret;exact⟨rfl,⟨_,d.o.set0 (bD d.o.bv rfl n HN.o u) gY⟩,g.o.self (k8 _ _ _ _)⟩
theorem pQ.setB{w:d9}{R B j:Nat}{v u:Value}{l:f7}{f:Nat}(h:pQ M w R v l f)(hne:B≠R)(hp:w.cell? ⟨B,j,none⟩=some u)(hu: ∀x,u≠ .int .u8 x)(u':Value):pQ M (w.setCell ⟨B,j,none⟩ u') R v l f:=
 ⟨by rw[World.cell?_setCell_other _ _ _ _ (by rintro⟨⟩;exact hne rfl)];exact h.c0,by rw[World.cell?_setCell_other _ _ _ _ (by rintro⟨⟩;exact hne rfl)];exact h.c1,fun k=>by simpa[go_sem]using h.z k,h.bv.set hp hu _,h.m⟩
end
section
variable{M:Nat}

theorem oG:(Tryz.prog.info? 37).map (fun i=>(i.zero,i.size,i.bytes))=some (some (.int .u64 0),1,8):=by kernel_rfl
def uE(l:f7)(f:Nat):Nat:=G3 (decide (1099511627776<(Wm.take l).1)) 4 (M8 l f)
theorem sU{w:d9}{R:Nat}{v:Value}{l:f7}{f:Nat}(h:pQ M w R v l f):
  Calls Tryz.prog 143 #[.pointer (some ⟨R,0,none⟩)] w fun e w'=>e= .returned (.int .i64 (wrap64 ((Wm.take l).1:Nat)))∧(∃v',pQ M w' R v' (B1 l) (uE l f))∧Ch (fun x=>x=R) w w':=by
 have HR:=b9 h;obtain⟨x,p⟩:=c7 ((Wm.take l).1);have HX:=b9 p;have HF:c6 (uE l f=G3 (decide (1099511627776<x)) 4 (M8 l f)):=by rw[p];rfl
 rw[HF.o,←p];clear h p;by_cases q:1099511627776<x
 ·have g:=decide_eq_true q;have n:(1099511627776:Int)<(x:Int):=by omega
  rw[g];clear q;go_in;go_wp2_with fail;refine(V8 HR.o).mono ?_;rw[←HX.o];rintro e t ⟨rfl,⟨u,b⟩,d⟩;have j:=b9 b;have m:=b9 d;clear b d;go_wp2_with fail;refine(L0 j.o true 4).mono ?_;rintro e s ⟨rfl,a,c⟩;have i:=b9 a;have k:=b9 (m.o.self c);clear a c;go_wp2_with fail;go_ret;exact⟨rfl,⟨_,i.o⟩,k.o⟩
 ·have g:=decide_eq_false q;have n: ¬(1099511627776:Int)<(x:Int):=by omega
  have r:=decide_eq_false n;rw[g,show wrap64 (x:Int)=(x:Int) by unfold wrap64;omega];clear q;go_in;go_wp2_with fail;refine(V8 HR.o).mono ?_;rw[←HX.o];rintro e t ⟨rfl,⟨u,b⟩,d⟩;have j:=b9 b;have m:=b9 d;clear b d;go_wp2_with fail;refine(L0 j.o false 4).mono ?_;rintro e s ⟨rfl,a,c⟩;have i:=b9 a;have k:=b9 (m.o.self c);clear a c;go_wp2_with fail;go_ret;exact⟨rfl,⟨_,i.o⟩,k.o⟩
def Aa(D:Nat × f7 × f7)(n i:Nat)(acc l:f7)(f:Nat):Prop:=
 (f=0∧acc.length=i∧D.1=(Q2 (n-i) l).1∧(D.1=0→D.2.1=acc++(Q2 (n-i) l).2.1∧D.2.2=(Q2 (n-i) l).2.2))∨(f≠0∧D.1=f)
theorem vM(n:Nat)(l:f7):Aa (Q2 n l) n 0 [] l 0:= .inl ⟨rfl,rfl,rfl,fun _=>⟨rfl,rfl⟩⟩
theorem yV(l:f7):M8 l 0=(Wm.take l).2.2:=by
 unfold M8 G3;by_cases h:(Wm.take l).2.2=0<;>simp[h]
theorem sF{D:Nat × f7 × f7}{n i:Nat}{acc l:f7}(h:Aa D n i acc l 0)(hi:i<n):Aa D n (i+1) (acc++[(Wm.take l).1]) (B1 l) (M8 l 0):=by
 rcases h with ⟨_,g,c,d⟩|⟨h,_⟩
 ·rw[show n-i=(n-(i+1))+1 by omega]at c d;simp only[Q2]at c d;rw[yV];by_cases q:(Wm.take l).2.2=0
  ·rw[if_neg (by simpa using q)]at c d;refine .inl ⟨q,by simp[g],?_⟩;by_cases e:(Q2 (n-(i+1)) (l.drop (Wm.take l).2.1)).1=0
   ·rw[if_neg (by simpa using e)]at c d;refine⟨by rw[c];exact e.symm,fun f=>?_⟩;obtain⟨a,b⟩:=d f;exact⟨by rw[a];simp[B1],b⟩
   ·rw[if_pos e]at c d;exact⟨c,fun f=>absurd (c.symm.trans f) e⟩
  ·rw[if_pos q]at c;exact .inr ⟨q,c⟩
 ·exact absurd rfl h
def ZW(x f1:Nat)(l1 ks l':f7)(f':Nat):Prop:=
 (f1≠0∧f'=f1)∨(f1=0∧((f'=0∧(Q2 x l1).1=0∧ks=(Q2 x l1).2.1∧l'=(Q2 x l1).2.2)∨(f'≠0∧(Q2 x l1).1=f')))
def pV(l:f7)(f:Nat):Nat:=G3 (decide (64<(Wm.take l).1)) 6 (M8 l f)
def Jt(M R:Nat)(l:f7)(f:Nat)(w:d9)(e:Ending)(w':d9):Prop:=
 ∃(v v':Value) (ks l':f7) (f':Nat),e= .returned v∧w'.ownsRow w.heap.size 37 1 v ks.length ((ib ks).map (Value.int .u64))∧pQ M w' R v' l' f'∧Ch (fun x=>x=R) w w'∧ZW (Wm.take l).1 (pV l f) (B1 l) ks l' f'
def Js(M R x:Nat)(l1:f7)(w:d9)(kv iv:Value)(wr:d9):Prop:=
 ∃(i:Nat) (acc:f7) (v:Value) (l:f7) (f:Nat),iv= .int .u64 i∧i≤x∧acc.length≤i∧Aa (Q2 x l1) x i acc l f∧pQ M wr R v l f∧wr.ownsRow w.heap.size 37 1 kv acc.length ((ib acc).map (Value.int .u64))∧Ch (fun x=>x=R) w wr
theorem XX{w:d9}{R:Nat}{v:Value}{l:f7}{f:Nat}(h:pQ M w R v l f)(hM:M≤R)(hf:pV l f≠0):
  Calls Tryz.prog 144 #[.pointer (some ⟨R,0,none⟩)] w (Jt M R l f w):=by
 have HR:c6 (pQ M w R v l f):=h;have L:c6 (M≤R):=hM;have K:c6 (R<w.heap.size):=by have:=c8 h.c0;show _<_;simp only at this;omega
 obtain⟨x,A⟩:=c7 ((Wm.take l).1);have HX:c6 (x=(Wm.take l).1):=A;obtain⟨F,z⟩:=c7 (pV l f);rw[←z]at hf;have q:c6 (F=pV l f):=z;have p:c6 (G3 (decide (64<x)) 6 (M8 l f)=F):=by rw[z,A];rfl
 have J:((F:Int)==0)=false:=by rw[beq_eq_false_iff_ne];omega
 have r:c6 (F≠0):=hf;clear h hM A z hf;obtain⟨g,B⟩:=c7 (decide (64<x));have C:decide ((64:Int)<(x:Int))=g:=by rw[B];congr 1;simp only[eq_iff_iff];omega
 have c:decide (64<x)=g:=B.symm;rw[c]at p;clear B;go_in;go_wp2_with fail;refine(V8 HR.o).mono ?_;rw[←HX.o];rintro e E ⟨rfl,⟨G,i⟩,k⟩;have m:=b9 i;have u:c6 (Ch (fun x=>x=R) w E):=k;clear i k;go_wp2_with fail;refine(L0 m.o g 6).mono ?_;rw[p.o];rintro e a ⟨rfl,d,j⟩;have D:=b9 d;have t:c6 (Ch (fun x=>x=R) w a):=u.o.self j;clear d j m u C c;have b:c6 (pQ M (a.alloc (Obj.cells #[] 37)) R G (B1 l) F):=D.o.below (a8 _ _);have s:c6 (Ch (fun x=>x=R) w (a.alloc (Obj.cells #[] 37))):=t.o.self (Ch.of_below (a8 _ _));have n:c6 ((a.alloc (Obj.cells #[] 37)).ownsRow w.heap.size 37 1 (.slice (some ⟨a.heap.size,0,none⟩) 0 0) 0 []):=q9 (World.ownsRow_made a #[] 0 (Nat.le_refl _) (by simp[maxLen]) rfl) t.o.size;have I:(a.alloc (Obj.cells #[] 37)).cell? ⟨R,1,none⟩=some (.int .i64 F):=b.o.c1;go_wp2_with fail;refine wp_loop_rounds 1 ?_;rw[rounds_succ];by_cases H:0<x
 ·have y:(0:Int)<(x:Int):=by omega
  go_wp2_with fail;go_ret;exact⟨_,_,[],_,F,rfl,n.o,b.o,s.o,by rw[←q.o];exact .inl ⟨r.o,rfl⟩⟩
 ·have y: ¬(0:Int)<(x:Int):=by omega
  go_wp2_with fail;go_ret;exact⟨_,_,[],_,F,rfl,n.o,b.o,s.o,by rw[←q.o];exact .inl ⟨r.o,rfl⟩⟩
theorem TE{w:d9}{R:Nat}{v:Value}{l:f7}{f:Nat}(h:pQ M w R v l f)(hM:M≤R)(hf:pV l f=0):
  Calls Tryz.prog 144 #[.pointer (some ⟨R,0,none⟩)] w (Jt M R l f w):=by
 have HR:=b9 h;have v0:=b9 hM;have C:c6 (R<w.heap.size):=by have:=c8 h.c0;show _<_;simp only at this;omega
 obtain⟨x,t⟩:=c7 ((Wm.take l).1);have HX:=b9 t;obtain⟨F,hF⟩:=c7 (pV l f);rw[←hF]at hf;have m0:=b9 hF;have G:c6 (G3 (decide (64<x)) 6 (M8 l f)=F):=by rw[hF,t];rfl
 have r:c6 (x≤64):=by
  show _≤_;rcases Nat.lt_or_ge 64 x with q|q
  ·have e:=G.o;rw[decide_eq_true q,hf]at e;unfold G3 at e;by_cases z:M8 l f=0
   ·simp[z]at e
   ·simp[z]at e
  ·exact q
 have H:=b9 hf;clear h hM t hF hf;obtain⟨g,hg⟩:=c7 (decide (64<x));have t0:decide ((64:Int)<(x:Int))=g:=by rw[hg];congr 1;simp only[eq_iff_iff];omega
 have P:=hg.symm;rw[P]at G;clear hg;go_in;go_wp2_with fail;refine(V8 HR.o).mono ?_;rw[←HX.o];rintro e w2 ⟨rfl,⟨v2,X⟩,Z⟩;have g0:=b9 X;have p0:=b9 Z;clear X Z;go_wp2_with fail;refine(L0 g0.o g 6).mono ?_;rw[G.o];rintro e s ⟨rfl,W,Y⟩;have f0:=b9 W;have I:=b9 (p0.o.self Y);clear W Y g0 p0 t0 P;have D:c6 (pQ M (s.alloc (Obj.cells #[] 37)) R v2 (B1 l) F):=f0.o.below (a8 _ _);have o0:c6 (Ch (fun x=>x=R) w (s.alloc (Obj.cells #[] 37))):=I.o.self (Ch.of_below (a8 _ _));have h0:c6 ((s.alloc (Obj.cells #[] 37)).ownsRow w.heap.size 37 1 (.slice (some ⟨s.heap.size,0,none⟩) 0 0) 0 []):=q9 (World.ownsRow_made s #[] 0 (Nat.le_refl _) (by simp[maxLen]) rfl) I.o.size;have A:=D.o.c1;obtain⟨K,u⟩:=c7 (B1 l);have l0:=b9 u
 have a0:c6 (Js M R x K w (.slice (some ⟨s.heap.size,0,none⟩) 0 0) (.int .u64 0) (s.alloc (Obj.cells #[] 37))):=
  ⟨0,[],v2,K,0,rfl,by omega,by simp,vM x K,by have q:=D.o;rw[H.o]at q;rw[u];exact q,h0.o,o0.o⟩
 clear u A D o0 h0 f0 I;have w0:(x:Int)≤64:=by have:=r.o;omega
 go_wp2_with fail;go_loopw [4,5] (fun kv iv wr=>Js M R x K w kv iv wr) (fun _ iv _=>x-(intOf iv).toNat)
 case atStart=>exact a0.o
 case round=>
  clear a0;obtain⟨i,acc,v4,l4,f4,rfl,x0,T,S,N,c,Q⟩:=hrel;have J:=b9 S;have j:=b9 N;have HO:=b9 c;have HC:=b9 Q;have q0:=b9 T;clear S N c Q T;have A:=j.o.c1;by_cases O:i<x
  ·have r0:(i:Int)<(x:Int):=by omega
   by_cases hf:f4=0
   ·subst hf;have i0:=b9 (sF J.o O);obtain⟨y,hy⟩:=c7 ((Wm.take l4).1);rw[←hy]at i0;have HY:=b9 hy;clear hy;go_wp2_with fail;refine(V8 j.o).mono ?_;rw[←HY.o];rintro e w5 ⟨rfl,⟨v5,U⟩,B⟩;have d0:=b9 U;have m:=b9 (HC.o.self B);have E:=b9 (U2 HO.o B (fun x t=>by have:=C.o;omega));have k0:c6 (acc.length≤64):=by have:=q0.o;have:=r.o;show _≤_;omega
    clear U B A j HO HC;go_upto_region 6 with (at_builtin;refine g7 (by rfl) (.tmp 25) (.tmp 28) 38 (by rfl) w.heap.size 37 .u64 8 Tryz.underlying38 oG _ _ _ (by rfl) (E.o.alloc _) _ [_] (by rfl) (U0 .u64 _ _ _) (by have:=k0.o;simp only[maxLen,List.length_singleton];omega) (by have:=k0.o;simp only[List.length_singleton];omega) (by rw[g8];have:=m.o.size;omega) ?_;intro v6 w6 c p)
    have d:Below w.heap.size w5 w6:=((a8 w5 _).mono m.o.size).trans (g9 (E.o.alloc _) p (by rw[g8];have:=m.o.size;omega));have n:Ch (fun x=>w.heap.size≤x) w5 w6:=⟨d.os,d.tape,d.output,d.size,fun k hk hd=>d.block k (by omega)⟩;have b0:=b9 (d0.o.ch n (by have:=C.o;omega) (fun x t=>by have h1:=v0.o;have L:=C.o;omega));have n0:=b9 (m.o.trans n (fun x t=> .inr t))
    have s0:c6 (Js M R x K w v6 (.int .u64 ((i:Int)+1)) w6):=⟨i+1,acc++[y],v5,_,_,rfl,O,by have:=q0.o;simp;omega,i0.o,b0.o,by
     rw[List.length_append,o7,List.map_append];exact c,n0.o⟩
    clear c p d n b0 n0 d0 m E;go_wp2_with fail;go_roundw
    case rel=>exact s0.o
    case measure=>simp[intOf];omega
   ·have y0:((f4:Int)==0)=false:=by rw[beq_eq_false_iff_ne];omega
    have j0:=b9 hf;clear hf;go_wp2_with fail;go_ret;refine⟨_,_,acc,l4,f4,rfl,HO.o,j.o,HC.o,?_⟩;rw[←HX.o,←m0.o,←l0.o];refine .inr ⟨H.o,.inr ⟨j0.o,?_⟩⟩;rcases J.o with ⟨q,_⟩|⟨_,q⟩
    ·exact absurd q j0.o
    ·exact q
  ·have r0: ¬(i:Int)<(x:Int):=by omega
   obtain rfl:i=x:=by omega
   go_wp2_with fail;go_ret;refine⟨_,_,acc,l4,f4,rfl,HO.o,j.o,HC.o,?_⟩;rw[←HX.o,←m0.o,←l0.o];refine .inr ⟨H.o,?_⟩;rcases J.o with ⟨q,_,L,h3⟩|⟨q1,q2⟩
   ·rw[Nat.sub_self]at L h3;simp only[Q2]at L h3;obtain⟨a,b⟩:=h3 L;exact .inl ⟨q,L,by rw[a];simp,b.symm⟩
   ·exact .inr ⟨q1,q2⟩
theorem KX{w:d9}{R:Nat}{v:Value}{l:f7}{f:Nat}(h:pQ M w R v l f)(hM:M≤R):
  Calls Tryz.prog 144 #[.pointer (some ⟨R,0,none⟩)] w (Jt M R l f w):=by
 by_cases a:pV l f=0
 ·exact TE h hM a
 ·exact XX h hM a
end
/-! The mathematics: the reader's faults are decM's. -/
theorem YX{l:f7}{f:Nat}(h:f≠0):uE l f=f:=by unfold uE M8;rw[y7 h,y7 h]
theorem DX{l:f7}{f:Nat}(h:f≠0):pV l f=f:=by unfold pV M8;rw[y7 h,y7 h]
theorem GG(l:f7):uE l 0=(I8 l).1:=by
 unfold uE M8 I8;by_cases h:(Wm.take l).2.2=0
 ·rw[h];by_cases a:1099511627776<(Wm.take l).1<;>simp[G3,a]
 ·simp[G3,h]
theorem GF{l:f7}(h:(I8 l).1=0):(I8 l).2.1=(Wm.take l).1∧(I8 l).2.2=B1 l∧(Wm.take l).1≤1099511627776:=by
 unfold I8 at h⊢;by_cases a:(Wm.take l).2.2=0
 ·by_cases b:1099511627776<(Wm.take l).1
  ·simp[a,b]at h
  ·simp[a,b,B1];omega
 ·simp[a]at h
theorem XT(l:f7):pV l 0=if(Wm.take l).2.2≠0 then(Wm.take l).2.2 else if 64<(Wm.take l).1 then 6 else 0:=by
 unfold pV M8;by_cases h:(Wm.take l).2.2=0
 ·rw[h];by_cases a:64<(Wm.take l).1<;>simp[G3,a]
 ·simp[G3,h]
theorem AN{x:Nat}(h:x≤1099511627776):wrap64 (x:Int)=(x:Int):=by unfold wrap64;omega
def zT(b a:Int)(ks l':f7)(f':Nat):Nat:=G3 (!o4 ⟨b,a,ks⟩) 1 (G3 (decide (0<l'.length)) 5 f')
theorem iC{b a:Int}{ks l':f7}{f:Nat}(h:f≠0):zT b a ks l' f=f:=by unfold zT;rw[y7 (by rw[y7 h];exact h),y7 h]
theorem iV{x f1 f':Nat}{l1 ks l':f7}(h:ZW x f1 l1 ks l' f')(h0:f1≠0):f'=f1:=by
 rcases h with ⟨_,h⟩|⟨h,_⟩
 ·exact h
 ·exact absurd h h0
theorem Mo{l ks l':f7}{f':Nat}(hk:ZW (Wm.take (B1 (B1 l))).1 (pV (B1 (B1 l)) (uE (B1 l) (uE l 0))) (B1 (B1 (B1 l))) ks l' f'):
  (zT (wrap64 ((Wm.take l).1:Nat)) (wrap64 ((Wm.take (B1 l)).1:Nat)) ks l' f'≠0→(B7 l).2=zT (wrap64 ((Wm.take l).1:Nat)) (wrap64 ((Wm.take (B1 l)).1:Nat)) ks l' f')∧
  (zT (wrap64 ((Wm.take l).1:Nat)) (wrap64 ((Wm.take (B1 l)).1:Nat)) ks l' f'=0→B7 l=(⟨wrap64 ((Wm.take l).1:Nat),wrap64 ((Wm.take (B1 l)).1:Nat),ks⟩,0)):=by
 rw[GG]at hk;by_cases a:(I8 l).1=0
 ·obtain⟨r,q,p⟩:=GF a;rw[a,GG]at hk;rw[AN p];unfold B7;rw[if_neg (by omega),r,q];unfold uC;by_cases b:(I8 (B1 l)).1=0
  ·obtain⟨o,n,m⟩:=GF b;rw[b,XT]at hk;rw[AN m,if_neg (by omega),o,n];unfold oR;by_cases d:(Wm.take (B1 (B1 l))).2.2=0
   ·rw[if_neg (by omega)]at hk⊢;by_cases g:64<(Wm.take (B1 (B1 l))).1
    ·rw[if_pos g]at hk⊢;have e:=iV hk (by decide);subst e;rw[iC (by decide)];exact⟨fun _=>rfl,fun h=>absurd h (by decide)⟩
    ·rw[if_neg g]at hk⊢;rw[show(B1 (B1 l)).drop (Wm.take (B1 (B1 l))).2.1=B1 (B1 (B1 l))from rfl];rcases hk with ⟨h,_⟩|⟨_,⟨c,f,k,j⟩|⟨c,f⟩⟩
     ·exact absurd rfl h
     ·subst c;unfold iE;rw[if_neg (by omega),←k,←j];by_cases i:l'.length=0
      ·rw[if_neg (by omega)];unfold zT;rw[show decide (0<l'.length)=false from decide_eq_false (by omega),Z6]
       cases hs:o4 ⟨((Wm.take l).1:Nat),((Wm.take (B1 l)).1:Nat),ks⟩
       ·rw[if_pos rfl];exact⟨fun _=>rfl,fun h=>absurd h (by decide)⟩
       ·rw[if_neg (by simp)];exact⟨fun h=>absurd rfl h,fun _=>rfl⟩
      ·rw[if_pos i];unfold zT;rw[show decide (0<l'.length)=true from decide_eq_true (by omega),aC,y7 (by decide)];exact⟨fun _=>rfl,fun h=>absurd h (by decide)⟩
     ·rw[iC c];unfold iE;rw[if_pos (by rw[f];exact c),f];exact⟨fun _=>rfl,fun h=>absurd h c⟩
   ·rw[if_pos d]at hk⊢;have e:=iV hk d;rw[e,iC d];exact⟨fun _=>rfl,fun h=>absurd h d⟩
  ·rw[DX b]at hk;have e:=iV hk b;rw[e,iC b,if_pos b];exact⟨fun _=>rfl,fun h=>absurd h b⟩
 ·rw[YX a,DX a]at hk;have e:=iV hk a;rw[e,iC a];unfold B7;rw[if_pos a];exact⟨fun _=>rfl,fun h=>absurd h a⟩
/-! The blocks of Decode: N its result, N + 1 the reader, N + 2 the mark. -/
theorem MB.ch{D:n9}{w w':d9}{P:Nat}{b a:Int}{v:Value}(h:MB w P b a v)(hc:Ch D w w')(hd: ¬D P):MB w' P b a v:=
 ⟨hc.cell h.c0 hd,hc.cell h.c1 hd,hc.cell h.c2 hd,fun j=>by
  have e:=hc.block P (c8 h.c0) hd;have hz:=h.z j;unfold World.frozen? at hz⊢;rw[e];exact hz⟩
theorem MB.set0{w:d9}{P:Nat}{b a:Int}{v:Value}(h:MB w P b a v)(x:Int):MB (w.setCell ⟨P,0,none⟩ (.int .i64 x)) P x a v:=
 ⟨by simp[go_sem,h.c0],by rw[World.cell?_setCell_other _ _ _ _ (by rintro⟨⟩)];exact h.c1,by rw[World.cell?_setCell_other _ _ _ _ (by rintro⟨⟩)];exact h.c2,fun j=>by simpa[go_sem]using h.z j⟩
theorem MB.set1{w:d9}{P:Nat}{b a:Int}{v:Value}(h:MB w P b a v)(x:Int):MB (w.setCell ⟨P,1,none⟩ (.int .i64 x)) P b x v:=
 ⟨by rw[World.cell?_setCell_other _ _ _ _ (by rintro⟨⟩)];exact h.c0,by simp[go_sem,h.c1],by rw[World.cell?_setCell_other _ _ _ _ (by rintro⟨⟩)];exact h.c2,fun j=>by simpa[go_sem]using h.z j⟩
theorem MB.set2{w:d9}{P:Nat}{b a:Int}{v:Value}(h:MB w P b a v)(x:Value):MB (w.setCell ⟨P,2,none⟩ x) P b a x:=
 ⟨by rw[World.cell?_setCell_other _ _ _ _ (by rintro⟨⟩)];exact h.c0,by rw[World.cell?_setCell_other _ _ _ _ (by rintro⟨⟩)];exact h.c1,by simp[go_sem,h.c2],fun j=>by simpa[go_sem]using h.z j⟩
theorem sA(w:d9)(p:Addr)(u:Value):(w.setCell p u).heap.size=w.heap.size:=by simp[go_sem]
structure DS(N:Nat)(w0 w:d9)(v:Value)(l:f7)(f:Nat)(b a:Int)(kv:Value):Prop where
 n:N=w0.heap.size
 rd:pQ N w (N+1) v l f
 q:MB w (N+2) b a kv
 kvs: ∀x,kv≠ .int .u8 x
 z:MB w N 0 0 (.slice none 0 0)
 below:Below N w0 w
theorem DS.turn{N:Nat}{w0 w w':d9}{v v':Value}{l l':f7}{f f':Nat}{b a:Int}{kv:Value}(h:DS N w0 w v l f b a kv)(hr:pQ N w' (N+1) v' l' f')(hc:Ch (fun x=>x=N+1) w w'):DS N w0 w' v' l' f' b a kv:=
 ⟨h.n,hr,h.q.ch hc (by simp),h.kvs,h.z.ch hc (by simp),h.below.trans (hc.to_below (Nat.le_of_lt (c8 h.z.c0)) (fun x hx=>by omega))⟩
theorem DS.old{N:Nat}{w0 w w':d9}{v:Value}{l:f7}{f:Nat}{b a:Int}{kv:Value}(h:DS N w0 w v l f b a kv)(hb:Below w.heap.size w w'):DS N w0 w' v l f b a kv:=
 h.turn (h.rd.below hb) (Ch.of_below hb)
theorem DS.s0{N:Nat}{w0 w:d9}{v:Value}{l:f7}{f:Nat}{b a:Int}{kv:Value}(h:DS N w0 w v l f b a kv)(x:Int):DS N w0 (w.setCell ⟨N+2,0,none⟩ (.int .i64 x)) v l f x a kv:=
 ⟨h.n,h.rd.setB (by omega) h.q.c0 (by intro x e;cases e) _,h.q.set0 x,h.kvs,h.z.ch (k8 w (N+2) 0 _) (by omega),h.below.trans ((k8 w (N+2) 0 _).to_below (Nat.le_of_lt (c8 h.z.c0)) (fun x hx=>by omega))⟩
theorem DS.s1{N:Nat}{w0 w:d9}{v:Value}{l:f7}{f:Nat}{b a:Int}{kv:Value}(h:DS N w0 w v l f b a kv)(x:Int):DS N w0 (w.setCell ⟨N+2,1,none⟩ (.int .i64 x)) v l f b x kv:=
 ⟨h.n,h.rd.setB (by omega) h.q.c1 (by intro x e;cases e) _,h.q.set1 x,h.kvs,h.z.ch (k8 w (N+2) 1 _) (by omega),h.below.trans ((k8 w (N+2) 1 _).to_below (Nat.le_of_lt (c8 h.z.c0)) (fun x hx=>by omega))⟩
theorem DS.s2{N:Nat}{w0 w:d9}{v:Value}{l:f7}{f:Nat}{b a:Int}{kv:Value}(h:DS N w0 w v l f b a kv)(x:Value)(hx: ∀y,x≠ .int .u8 y):DS N w0 (w.setCell ⟨N+2,2,none⟩ x) v l f b a x:=
 ⟨h.n,h.rd.setB (by omega) h.q.c2 h.kvs _,h.q.set2 x,hx,h.z.ch (k8 w (N+2) 2 _) (by omega),h.below.trans ((k8 w (N+2) 2 _).to_below (Nat.le_of_lt (c8 h.z.c0)) (fun x hx=>by omega))⟩
def IN(l:f7)(w:d9)(e:Ending)(w':d9):Prop:=
 ∃v,e= .returned (.tuple #[.agg #[.int .i64 (B7 l).1.b,.int .i64 (B7 l).1.a,v],.int .i64 ((B7 l).2:Nat)])∧w'.ownsRow w.heap.size 37 1 v (B7 l).1.k.length ((ib (B7 l).1.k).map (Value.int .u64))∧Below w.heap.size w w'
theorem FP{l:f7}{w w':d9}{e:Nat}{x:Int}(h:(B7 l).2=e)(h0:e≠0)(hx:x=e)(hb:Below w.heap.size w w'):IN l w (.returned (.tuple #[.agg #[.int .i64 0,.int .i64 0,.slice none 0 0],.int .i64 x])) w':=by
 subst hx;have a:=YR (l:=l) (by rw[h];exact h0);exact⟨_,by rw[a,h];rfl,by rw[a];exact⟨rfl,.inl ⟨rfl,rfl⟩⟩,hb⟩
theorem OZ{l ks:f7}{b a:Int}{v:Value}{w w':d9}(h:B7 l=(⟨b,a,ks⟩,0))(ho:w'.ownsRow w.heap.size 37 1 v ks.length ((ib ks).map (Value.int .u64)))(hb:Below w.heap.size w w'):IN l w (.returned (.tuple #[.agg #[.int .i64 b,.int .i64 a,v],.int .i64 0])) w':=
 ⟨v,by rw[h];rfl,by rw[h];exact ho,hb⟩
theorem GS{w:d9}{v:Value}{l:f7}(hv:Bv w v l): ∀x,v.ownBlock=some x→l≠[]→x<w.heap.size:=by
 intro x c a;obtain⟨⟨o,i,e,n,m,k,d⟩,j⟩:=hv;obtain⟨b,h,g,f⟩:=d 0 (by rw[i8];cases l with|nil=>exact absurd rfl a|cons _ _=>simp);subst g;subst e
 cases c
 exact c8 f
theorem Ir{w:d9}{v:Value}{l:f7}(hv:Bv w v l):
  DS w.heap.size w (((w.alloc (Obj.cells #[.int .i64 0,.int .i64 0,.slice none 0 0] 62)).alloc (Obj.cells #[v,.int .i64 0] 169)).alloc (Obj.cells #[.int .i64 0,.int .i64 0,.slice none 0 0] 62)) v l 0 0 0 (.slice none 0 0):=by
 have a:Below w.heap.size w (((w.alloc (Obj.cells #[.int .i64 0,.int .i64 0,.slice none 0 0] 62)).alloc (Obj.cells #[v,.int .i64 0] 169)).alloc (Obj.cells #[.int .i64 0,.int .i64 0,.slice none 0 0] 62)):=
  a9 (a9 (a8 _ _) (a8 _ _)) (a8 _ _)
 refine⟨rfl,⟨by simp[go_sem],by simp[go_sem],by intro j;simp[go_sem],hv.below a,GS hv⟩,?_,(by intro x e;cases e),?_,a⟩
 ·have h:=A9 ((w.alloc (Obj.cells #[.int .i64 0,.int .i64 0,.slice none 0 0] 62)).alloc (Obj.cells #[v,.int .i64 0] 169)) 0 0 (.slice none 0 0);rw[g8,g8]at h;exact h
 ·exact((A9 w 0 0 (.slice none 0 0)).keep (a8 _ _)).keep (a8 _ _)
theorem MH{w:d9}{N:Nat}{x y z:Value}(h:N<w.heap.size):Below N w (((w.setCell ⟨N,0,none⟩ x).setCell ⟨N,1,none⟩ y).setCell ⟨N,2,none⟩ z).drew:=by
 have c:=k8 w N 0 x;have b:=k8 (w.setCell ⟨N,0,none⟩ x) N 1 y;have a:=k8 ((w.setCell ⟨N,0,none⟩ x).setCell ⟨N,1,none⟩ y) N 2 z;exact(((c.self b).self a).to_below (Nat.le_of_lt h) (fun x d=>by omega)).drew
theorem BE{ao:Option Addr}{n cap:Nat}: ∀x,Value.slice ao n cap≠ .int .u8 x:=by intro x e;cases e
theorem TA{w:d9}{v:Value}{l:f7}(hv:Bv w v l):
  Calls Tryz.prog 71 #[v] w (IN l w):=by
 obtain⟨N,hN⟩:=c7 w.heap.size;have h:=Ir hv;rw[←hN]at h;replace h:c6 _:=h;obtain⟨ao,n,b0,rfl⟩:=r8 hv;clear hv;go_in;go_upto_region 3 with fail
 rw[←hN,show N+1+1=N+2 from rfl];have HN:=b9 hN;clear hN;generalize (((w.alloc (Obj.cells #[.int .i64 0,.int .i64 0,.slice none 0 0] 62)).alloc (Obj.cells #[.slice ao n b0,.int .i64 0] 169)).alloc (Obj.cells #[.int .i64 0,.int .i64 0,.slice none 0 0] 62))=w1 at h⊢;go_wp2_with fail;refine(sU h.o.rd).mono ?_;rintro E w2 ⟨rfl,⟨v2,R⟩,W⟩;have J:c6 _:=h.o.turn R W;clear R W h;have HE:c6 _:= @Mo l;obtain⟨xb,K⟩:=c7 (wrap64 ((Wm.take l).1:Nat));rw[←K]at HE⊢;clear K;obtain⟨l2,j⟩:=c7 (B1 l);obtain⟨f2,p⟩:=c7 (uE l 0);rw[←j,←p]at J;rw[←j,←p]at HE;clear j p;have G:=J.o.q.c0;have e:=J.o.q.z 0;have H3:c6 _:=J.o.s0 xb;clear J;go_wp2_with fail;refine(sU H3.o.rd).mono ?_;clear G e;rintro E w4 ⟨rfl,⟨v4,Q⟩,U⟩;have I:c6 _:=H3.o.turn Q U;clear Q U H3;obtain⟨xa,L⟩:=c7 (wrap64 ((Wm.take l2).1:Nat));rw[←L]at HE⊢;clear L;obtain⟨l4,i⟩:=c7 (B1 l2);obtain⟨f4,m⟩:=c7 (uE l2 f2);rw[←i,←m]at I;rw[←i,←m]at HE;clear i m;have G:=I.o.q.c1;have e:=I.o.q.z 1;have H5:c6 _:=I.o.s1 xa;clear I;go_wp2_with fail;refine(KX H5.o.rd (by omega)).mono ?_;clear G e;rintro E w6 ⟨kv,v6,A,Z,f6,rfl,hO,P,T,S⟩;have b:c6 _:=HE.o S;clear S HE;have H6:c6 _:=H5.o.turn P T;have h1:N+2<w4.heap.size:=by have:=c8 H5.o.q.c0;rw[sA]at this;exact this
 have y:c6 (w6.ownsRow (N+3) 37 1 kv A.length ((ib A).map (Value.int .u64))):=q9 hO (by rw[sA];omega);clear h1;clear hO P T H5;obtain⟨D,B,C,rfl⟩:=F2 (z9 y.o);have G:=H6.o.q.c2;have e:=H6.o.q.z 2;have g:c6 _:=H6.o.s2 (.slice D B C) BE;have u:c6 _:=U2 y.o (k8 w6 (N+2) 2 (.slice D B C)) (fun x hx=>by omega);clear H6 y;obtain⟨ra,rn,rc,a0⟩:=r8 g.o.rd.bv;subst a0;obtain⟨M,_,_⟩:=cU g.o.rd.bv;have f0:=b9 M;clear M;go_upto_region 6 with fail
 generalize w6.setCell ⟨N+2,2,none⟩ (.slice D B C)=w7 at g u⊢;clear G e;have s0:=g.o.rd.c0;go_wp2_with fail;refine(L0 g.o.rd _ 5).mono ?_;rw[show G3 (decide (0<rn)) 5 f6=G3 (decide (0<Z.length)) 5 f6 by rw[f0.o]];rintro E w8 ⟨rfl,O,r⟩;have H:c6 _:=g.o.turn O r;have t:c6 _:=U2 u.o r (fun x hx=>by omega);clear O r g u s0;have q0:=H.o.q.c0;have q1:=H.o.q.c1;have q2:=H.o.q.c2;go_wp2_with fail;refine(gH (z9 t.o) xb xa).mono ?_;rintro E w9 ⟨rfl,s⟩;have H9:c6 _:=H.o.old s;have X:c6 _:=j8 t.o s;clear s H t q0 q1 q2;go_wp2_with fail;refine(L0 H9.o.rd _ 1).mono ?_;rw[show G3 (!o4 ⟨xb,xa,A⟩) 1 (G3 (decide (0<Z.length)) 5 f6)=zT xb xa A Z f6 from rfl];rintro E d ⟨rfl,f,c⟩;have a:c6 _:=H9.o.turn f c;have Y:c6 _:=U2 X.o c (fun x hx=>by omega);clear f c H9 X;obtain⟨F,hF⟩:=c7 (zT xb xa A Z f6);rw[←hF]at a b;clear hF;have s1:=a.o.rd.c1;have e:=a.o.z.c0;have z1:=a.o.z.c1;have z2:=a.o.z.c2;have y0:=a.o.z.z 0;have y1:=a.o.z.z 1;have y2:=a.o.z.z 2;by_cases hf:F=0
 ·subst hf;have HD:c6 _:=b.o.2 rfl;have q0:=a.o.q.c0;have q1:=a.o.q.c1;have q2:=a.o.q.c2;clear b;go_wp2_with fail
  (try simp only[Exit.inBlock,Exit.then])
  refine bodyPost_ret (v:= .tuple #[.agg #[.int .i64 xb,.int .i64 xa,.slice D B C],.int .i64 0]) (by rw[results_cell_tmp rfl];go_simp) rfl ?_;have k1:=k8 d N 0 (.int .i64 xb);have k2:=k8 (d.setCell ⟨N,0,none⟩ (.int .i64 xb)) N 1 (.int .i64 xa);have k3:=k8 ((d.setCell ⟨N,0,none⟩ (.int .i64 xb)).setCell ⟨N,1,none⟩ (.int .i64 xa)) N 2 (.slice D B C);have k:=(k1.self k2).self k3
  exact OZ HD.o (q9 (U2 Y.o k (fun x hx=>by omega)) (by rw[←HN.o];omega)) (by
   rw[←HN.o];exact a.o.below.trans (k.to_below (Nat.le_of_lt (c8 e)) (fun x hx=>by omega)))
 ·have d0:=b9 hf;have HD:c6 _:=b.o.1 hf;have g0:(((F:Nat):Int) !=0)=true:=by rw[bne_iff_ne];omega
  have s2: ∀n,(d.drewN n).cell? ⟨N+1,1,none⟩=some (.int .i64 (F:Nat)):=fun _=>s1;clear b;go_wp2_with fail;go_region_with (fail)
  all_goals
   go_wp2_with fail
   (try simp only[Exit.inBlock,Exit.then])
   refine bodyPost_ret (v:= .tuple #[.agg #[.int .i64 0,.int .i64 0,.slice none 0 0],.int .i64 (F:Nat)]) (by rw[results_cell_tmp rfl];go_simp) rfl ?_
   exact FP HD.o d0.o rfl (by
    rw[←HN.o];exact a.o.below.trans (MH (c8 e)))
section
def F0(k:Nat)(S S':Dk):Prop:= ∃r,S'={S with rd:=r}∧S.rd≤r∧r≤S.rd+k
section

variable{k j:Nat}{P:Bo}{S S' S'':Dk}{p:Int}

theorem F0.refl(S:Dk):F0 k S S:=⟨S.rd,rfl,Nat.le_refl _,Nat.le_add_right _ _⟩
theorem F0.trans(h:F0 k S S')(h':F0 j S' S''):F0 (k+j) S S'':=by
 obtain⟨r,rfl,c,d⟩:=h;obtain⟨s,rfl,b,a⟩:=h';exact⟨s,rfl,Nat.le_trans c b,by simp only at a;omega⟩
theorem F0.mono(h:F0 k S S')(hj:k≤j):F0 j S S':=by obtain⟨r,e,a,b⟩:=h;exact⟨r,e,a,by omega⟩
theorem F0.bl(h:F0 k S S'):S'.bl=S.bl:=by obtain⟨r,rfl,_⟩:=h;rfl
theorem F0.dn(h:F0 k S S'):S'.down=S.down:=by obtain⟨r,rfl,_⟩:=h;rfl
theorem F0.wr(h:F0 k S S'):S'.wr=S.wr:=by obtain⟨r,rfl,_⟩:=h;rfl
theorem F0.left(h:F0 k S S'):S'.left=S.left:=by obtain⟨r,rfl,_⟩:=h;rfl
theorem F0.rd(h:F0 k S S'):S'.rd≤S.rd+k:=by obtain⟨r,rfl,_,h⟩:=h;exact h
theorem yK(h:F0 k S S')(i:Int):I2 S' i=I2 S i:=by unfold I2;rw[h.dn,h.bl]
theorem C3(h:F0 k S S'):i6 P S'=i6 P S:=by unfold i6;rw[h.dn]
theorem J3(h:F0 k S S'):A0 P S' p=A0 P S p:=by unfold A0 M6;rw[C3 h,yK h,h.bl]
theorem J5:F0 1 S (aF P S p):=by
 unfold aF
 split
 ·exact F0.refl _
 ·split
  ·exact F0.refl _
  ·split
   ·exact F0.refl _
   ·unfold R8
    split
    ·exact⟨S.rd+1,rfl,by omega,Nat.le_refl _⟩
    ·exact F0.refl _
theorem OO(hs:i6 P S=false)(h7:P.tab.length=7)(hk:P.ok S.bl.length)(h0:0≤p)(hp:p<7):uA P S p=0:=by
 have hd:S.down=false:=by cases e:S.down;rfl;simp[i6,e]at hs
 unfold uA;rw[if_neg (by rw[hs];simp),if_neg (by unfold fV;simp;omega)]
 split
 ·rfl
 ·rename_i b
  have a:p.toNat<P.tab.length:=by omega
  exact yF hd (gE hk.tok _ (jU a))
theorem vR(hs:i6 P S=true):uA P S p=80:=by unfold uA;rw[if_pos hs]
theorem F5(hs:i6 P S=false):fW P S=P:=by unfold fW;rw[if_neg (by rw[hs];simp)]
end

def ST(A:n9)(w:d9)(sv dv:Value)(k:Int)(P:Bo)(S:Dk):Prop:=
 ∃sp bv,sv= .pointer (some ⟨sp,0,none⟩)∧w.heap[sp]?=some (.cells #[bv,.int .i64 k] 81 (0,0))∧ ¬A sp∧BP A w bv dv P S∧P.tab.length=7
section

variable{A:n9}{w w':d9}{sv dv:Value}{k:Int}{P:Bo}{S:Dk}

theorem ST.ch{E:n9}(h:ST A w sv dv k P S)(hc:Ch E w w')(hE: ∀x,x<w.heap.size→ ¬E x):ST A w' sv dv k P S:=by
 obtain⟨sp,i,e,c,g,b,f⟩:=h;have a:=(Array.getElem?_eq_some_iff.1 c).1;exact⟨sp,i,e,by rw[hc.block sp a (hE sp a)];exact c,g,b.ch hc (fun x d=>hE x (b.lt d)),f⟩
theorem ST.below(h:ST A w sv dv k P S)(hb:f8 w w'):ST A w' sv dv k P S:=h.ch (E:=fun _=>False) (Ch.of_below hb) (fun _ _ h=>h)
theorem ST.lt(h:ST A w sv dv k P S){x:Nat}(hx:A x):x<w.heap.size:=by
 obtain⟨sp,f,e,d,c,a,b⟩:=h;exact a.lt hx
theorem ST.ok(h:ST A w sv dv k P S):P.ok S.bl.length∧P.tab.length=7:=by
 obtain⟨sp,f,e,d,c,b,a⟩:=h;exact⟨b.good,a⟩
theorem ST.setB(h:ST A w sv dv k P S){g i:Nat}{v:Value}(hg: ∀x,x<w.heap.size→A x→x≠g)(hp: ∀sp,sv= .pointer (some ⟨sp,0,none⟩)→sp≠g):ST A (w.setCell ⟨g,i,none⟩ v) sv dv k P S:=by
 obtain⟨sp,m,e,d,l,c,j⟩:=h;have b:=k8 w g i v;have f:=(Array.getElem?_eq_some_iff.1 d).1;exact⟨sp,m,e,by rw[b.block sp f (hp sp e)];exact d,l,c.ch b (fun x a=>hg x (c.lt a) a),j⟩
def IK(A:n9)(w:d9)(sv dv:Value)(k:Int)(P:Bo)(S:Dk)(p:Int)(e:Ending)(w':d9):Prop:=
 ∃r,e= .returned (.tuple #[r,.int .i64 (uA P S p)])∧w'.ownsRow w.heap.size 5 1 r (A0 P S p).length (cb (A0 P S p))∧ST A w' sv dv k (fW P S) (aF P S p)∧Ch A w w'
theorem DA(p:Int)(w:d9):Calls Tryz.prog 70 #[.pointer none,.int .i64 p] w fun e w'=>e= .returned (.tuple #[.slice none 0 0,.int .i64 2])∧w'=w:=by
 go_in;go_wp2_with fail;go_ret2;exact⟨rfl,rfl⟩
theorem oC(h:ST A w sv dv k P S)(p:Int)(hrd:S.rd<9223372036854775807):Calls Tryz.prog 70 #[sv,.int .i64 p] w (IK A w sv dv k P S p):=by
 obtain⟨sp,u,rfl,a,i,g,f⟩:=h;have HB:=b9 g;have m:=b9 a;have l:=b9 i;have j:=b9 f;have c:=b9 hrd;have n:w.cell? ⟨sp,0,none⟩=some u:=by rw[cell_of_row w sp 0 _ _ (0,0) a];rfl
 obtain⟨D,y,x,b,_⟩:=g;subst b;clear a i f hrd;go_in;go_wp2_with fail;refine(YG HB.o p c.o).mono ?_;rintro e v ⟨r,rfl,q,t,d⟩;clear n;go_wp2_with fail;go_ret2;have s:=(Array.getElem?_eq_some_iff.1 m.o).1;exact⟨r,rfl,q,⟨sp,_,rfl,by rw[d.block sp s l.o];exact m.o,l.o,t,by unfold fW;split;exact j.o;exact j.o⟩,d⟩
end

def C8(P:Bo)(S:Dk):Nat→Option (List (List Cl))
 |0=>some []
 |k+1=>match C8 P S k with
  |none=>none
  |some l=>if(t7 (A0 P S (1+(k:Int)))).2=0 then some (l++[(t7 (A0 P S (1+(k:Int)))).1])else none
theorem T4{P:Bo}{S:Dk}: ∀{k:Nat}{l:List (List Cl)},C8 P S k=some l→l.length=k:=by
 intro k
 induction k with
 |zero=>intro l h;cases h;rfl
 |succ k a=>
  intro l h;unfold C8 at h
  split at h
  ·cases h
  ·rename_i l' b
   split at h
   ·cases h;simp[a b]
   ·cases h
theorem Ea{P:Bo}{S:Dk}{k:Nat}(h:C8 P S k=none): ∀j,C8 P S (k+j)=none:=by
 intro j
 induction j with
 |zero=>exact h
 |succ j a=>rw[←Nat.add_assoc];unfold C8;rw[a]
theorem FU{P:Bo}{S:Dk}{i:Nat}{l:List (List Cl)}(hi:i<6)(h:C8 P S i=some l)(hd:(t7 (A0 P S (1+(i:Int)))).2≠0):C8 P S 6=none:=by
 have b:C8 P S (i+1)=none:=by unfold C8;rw[h];exact if_neg hd
 have a:=Ea b (6-(i+1));rw[show i+1+(6-(i+1))=6 by omega]at a;exact a
theorem zX{P:Bo}{S:Dk}{i:Nat}{l:List (List Cl)}(h:C8 P S i=some l)(hd:(t7 (A0 P S (1+(i:Int)))).2=0):C8 P S (i+1)=some (l++[(t7 (A0 P S (1+(i:Int)))).1]):=by
 unfold C8;rw[h];exact if_pos hd
theorem Bl{l:List (List Cl)}{i:Nat}{x:List Cl}(hi:i<6)(h:l.length=i):(l++List.replicate (6-i) []).set i x=(l++[x])++List.replicate (6-(i+1)) []:=by
 rw[List.set_append_right _ _ (by omega),h,Nat.sub_self,show 6-i=(6-(i+1))+1 by omega,List.replicate_succ,List.set_cons_zero];simp
theorem Hm{l:List (List Cl)}{n j:Nat}:B3 (l++List.replicate n []) j=B3 l j:=by
 unfold B3;rw[List.getD_eq_getElem?_getD,List.getD_eq_getElem?_getD,List.getElem?_append]
 split
 ·rfl
 ·rename_i h
  rw[List.getElem?_replicate,List.getElem?_eq_none (l:=l) (by omega)]
  split<;>rfl
theorem mV{A:n9}{w:d9}{sv dv:Value}{k:Int}{P:Bo}{S:Dk}(h:ST A w sv dv k P S)(p:Int):(A0 P S p).length≤1024∧ ∀c∈A0 P S p,c<256:=by
 obtain⟨sp,m,e,j,i,⟨D,f,d,l,b⟩,g⟩:=h;have a:=b.dsk.good;unfold A0
 split
 ·simp
 ·split
  ·simp
  ·split
   ·simp
   ·exact dQ a _
def kD:Nat→Value:=fun _=> .slice none 0 0
theorem XM(j:Nat):B3 (List.replicate 6 []) j=[]:=by
 unfold B3;rw[List.getD_eq_getElem?_getD,List.getElem?_replicate]
 split<;>rfl
theorem xL(w:d9):SH (w.alloc (Obj.cells #[.slice none 0 0,.slice none 0 0,.slice none 0 0,.slice none 0 0,.slice none 0 0,.slice none 0 0] 84)) w.heap.size kD (List.replicate 6 []):=by
 refine⟨by simp,fun i a=>?_,fun j=>by simp[go_sem],fun i a=>by rw[XM];exact Cv.nil _⟩;have:i=0∨i=1∨i=2∨i=3∨i=4∨i=5:=by omega
 rcases this with rfl|rfl|rfl|rfl|rfl|rfl<;>simp[go_sem,kD]
def ZQ(A:n9)(w:d9)(sv dv:Value)(k:Int)(P:Bo)(S:Dk)(e:Ending)(w':d9):Prop:=
 ∃(c:Nat) (f:Nat→Value) (S':Dk),e= .returned (.tuple #[.agg #[f 0,f 1,f 2,f 3,f 4,f 5],.int .i64 c])∧(∀j,j<6→ ∃a n q,f j= .slice a n q)∧(∀j,j<6→ ∀x,(f j).ownBlock=some x→w.heap.size≤x)∧
  ((c=80∧i6 P S=true)∨(c=133∧i6 P S=false∧C8 P S 6=none)∨(c=0∧i6 P S=false∧ ∃Ls,C8 P S 6=some Ls∧ ∀j,j<6→Cv w' (f j) (B3 Ls j)))∧ST A w' sv dv k (fW P S) S'∧F0 6 S S'∧Ch A w w'
section

variable{A:n9}{w w':d9}{sv dv:Value}{k:Int}{P:Bo}{S:Dk}{sp:Nat}

theorem AC{D:n9}{w0 w1:d9}{g:Nat}(h:Ch D w0 w1)(hg:D g∨w0.heap.size≤g)(a b c d e f:Value):Ch D w0 ((((((w1.setCell ⟨g,0,none⟩ a).setCell ⟨g,1,none⟩ b).setCell ⟨g,2,none⟩ c).setCell ⟨g,3,none⟩ d).setCell ⟨g,4,none⟩ e).setCell ⟨g,5,none⟩ f):=by
 have s: ∀{x:d9} (i:Nat) (u:Value),Ch D w0 x→Ch D w0 (x.setCell ⟨g,i,none⟩ u):=fun i u k=>k.trans (k8 _ g i u) (fun y j=>by subst j;exact hg);exact s _ _ (s _ _ (s _ _ (s _ _ (s _ _ (s _ _ h)))))
theorem ST.six(h:ST A w (.pointer (some ⟨sp,0,none⟩)) dv k P S){g:Nat}(hg: ¬A g)(hp:sp≠g)(a b c d e f:Value):ST A ((((((w.setCell ⟨g,0,none⟩ a).setCell ⟨g,1,none⟩ b).setCell ⟨g,2,none⟩ c).setCell ⟨g,3,none⟩ d).setCell ⟨g,4,none⟩ e).setCell ⟨g,5,none⟩ f) (.pointer (some ⟨sp,0,none⟩)) dv k P S:=by
 have s: ∀{x:d9} (i:Nat) (u:Value),ST A x (.pointer (some ⟨sp,0,none⟩)) dv k P S→ST A (x.setCell ⟨g,i,none⟩ u) (.pointer (some ⟨sp,0,none⟩)) dv k P S:=fun i u j=>j.setB (fun y _ l e=>by subst e;exact hg l) (fun s e=>by cases e;exact hp);exact s _ _ (s _ _ (s _ _ (s _ _ (s _ _ (s _ _ h)))))
theorem SH.chA{D:n9}{w w1:d9}{Q:Nat}{f:Nat→Value}{Ls:List (List Cl)}(h:SH w Q f Ls)(hc:Ch D w w1)(hq: ¬D Q)(hf: ∀j,j<6→ ∀x,(f j).ownBlock=some x→ ¬D x):SH w1 Q f Ls:=
 ⟨h.len,fun i hi=>hc.cell (h.c i hi) hq,fun j=>by
  have e:=hc.block Q h.lt hq;have hz:=h.z j;unfold World.frozen? at hz⊢;rw[e];exact hz,fun i hi=>(h.cv i hi).ch hc (hf i hi)⟩
theorem Cv.sixS{w:d9}{R:Nat}{f:Nat→Value}{Ls:List (List Cl)}{v:Value}{l:List Cl}(h:Cv w v l)(hR:SH w R f Ls)(a b c d e g:Value):Cv ((((((w.setCell ⟨R,0,none⟩ a).setCell ⟨R,1,none⟩ b).setCell ⟨R,2,none⟩ c).setCell ⟨R,3,none⟩ d).setCell ⟨R,4,none⟩ e).setCell ⟨R,5,none⟩ g) v l:=by
 have n: ∀i,i<6→ ∀c:Cl,f i∉W6 c:=fun i p c=>by obtain⟨x,y,e⟩:=hR.form p;rw[e];exact bK c
 have o: ∀{x:d9}{i j:Nat} (u:Value),i≠j→x.cell? ⟨R,j,none⟩=some (f j)→(x.setCell ⟨R,i,none⟩ u).cell? ⟨R,j,none⟩=some (f j):=fun u k m=>by rw[World.cell?_setCell_other _ _ _ _ (by rintro⟨⟩;exact k rfl)];exact m
 have z:=h.set (hR.c 0 (by omega)) (n 0 (by omega)) a;have t:=z.set (o a (by omega) (hR.c 1 (by omega))) (n 1 (by omega)) b;have s:=t.set (o b (by omega) (o a (by omega) (hR.c 2 (by omega)))) (n 2 (by omega)) c;have r:=s.set (o c (by omega) (o b (by omega) (o a (by omega) (hR.c 3 (by omega))))) (n 3 (by omega)) d;have q:=r.set (o d (by omega) (o c (by omega) (o b (by omega) (o a (by omega) (hR.c 4 (by omega)))))) (n 4 (by omega)) e;exact q.set (o e (by omega) (o d (by omega) (o c (by omega) (o b (by omega) (o a (by omega) (hR.c 5 (by omega))))))) (n 5 (by omega)) g
def Ju(A:n9)(w:d9)(sv dv:Value)(k:Int)(P:Bo)(S:Dk)(R Q:Nat)(iv:Value)(wr:d9):Prop:=
 ∃(i:Nat) (f:Nat→Value) (l:List (List Cl)) (S':Dk),iv= .int .i64 i∧i≤6∧C8 P S i=some l∧SH wr Q f (l++List.replicate (6-i) [])∧(∀j,j<6→ ∀x,(f j).ownBlock=some x→w.heap.size≤x)∧SH wr R kD (List.replicate 6 [])∧ST A wr sv dv k P S'∧F0 i S S'∧Ch A w wr
theorem ST.o(h:ST A w sv dv k P S){w1:d9}{D:n9}(hc:Ch D w w1)(hd: ∀x,D x→w.heap.size≤x):ST A w1 sv dv k P S:=h.ch hc (fun x hx e=>by have:=hd x e;omega)
theorem MC(h:ST A w sv dv k P S)(hs:i6 P S=false)(hrd:S.rd<4611686018427387904):Calls Tryz.prog 41 #[sv] w (ZQ A w sv dv k P S):=by
 have HS:=b9 hs;have C0:=b9 hrd;have t0:=b9 h.ok;obtain⟨sp,j0⟩: ∃sp,sv= .pointer (some ⟨sp,0,none⟩):=by obtain⟨sp,bv,e,_⟩:=h;exact⟨sp,e⟩
 have c0:c6 (sp<w.heap.size):=by
  obtain⟨sp',bv,e,L,_⟩:=h;rw[j0]at e
  cases e
  exact(Array.getElem?_eq_some_iff.1 L).1
 have F:c6 (∀x,A x→x<w.heap.size):=fun x t=>h.lt t;subst j0;have R1:=xL w;have Q1:=xL (w.alloc (Obj.cells #[.slice none 0 0,.slice none 0 0,.slice none 0 0,.slice none 0 0,.slice none 0 0,.slice none 0 0] 84));rw[g8]at Q1;have HB:c6 (f8 w ((w.alloc (Obj.cells #[.slice none 0 0,.slice none 0 0,.slice none 0 0,.slice none 0 0,.slice none 0 0,.slice none 0 0] 84)).alloc (Obj.cells #[.slice none 0 0,.slice none 0 0,.slice none 0 0,.slice none 0 0,.slice none 0 0,.slice none 0 0] 84))):=a9 (a8 _ _) (a8 _ _)
 have H0:c6 (Ju A w (.pointer (some ⟨sp,0,none⟩)) dv k P S w.heap.size (w.heap.size+1) (.int .i64 0) ((w.alloc (Obj.cells #[.slice none 0 0,.slice none 0 0,.slice none 0 0,.slice none 0 0,.slice none 0 0,.slice none 0 0] 84)).alloc (Obj.cells #[.slice none 0 0,.slice none 0 0,.slice none 0 0,.slice none 0 0,.slice none 0 0,.slice none 0 0] 84))):=
  ⟨0,kD,[],S,rfl,by omega,rfl,Q1,fun j _ x t=>(by cases t),R1.below (a8 _ _),h.below HB.o,F0.refl _,Ch.of_below HB.o⟩
 clear h hs hrd R1 Q1;go_in;go_upto_region 2 with fail
 obtain⟨R,hR⟩:=c7 w.heap.size;rw[←hR]at H0⊢;have HR:=b9 hR;clear hR;generalize (w.alloc (Obj.cells #[.slice none 0 0,.slice none 0 0,.slice none 0 0,.slice none 0 0,.slice none 0 0,.slice none 0 0] 84)).alloc (Obj.cells #[.slice none 0 0,.slice none 0 0,.slice none 0 0,.slice none 0 0,.slice none 0 0,.slice none 0 0] 84)=w0 at H0 HB⊢;obtain⟨Q,hQ⟩:=c7 (R+1);rw[←hQ]at H0⊢;have HQ:=b9 hQ;clear hQ;go_wp2_with fail;go_loopw [9] (fun iv wr=>Ju A w (.pointer (some ⟨sp,0,none⟩)) dv k P S R Q iv wr) (fun iv _=>6-(intOf iv).toNat)
 case atStart=>exact H0.o
 case round=>
  clear H0;obtain⟨i,f,l,S',rfl,hi,T,hq,k0,hr,i0,O,l0⟩:=hrel;have y:=b9 T;have u:=b9 hq;have d0:=b9 k0;have d:=b9 hr;have HT:=b9 i0;have m:=b9 O;have HC:=b9 l0;clear T hq k0 hr i0 O l0;by_cases C:i<6
  ·have x0:(i:Int)<6:=by omega
   have K0:IntKind.i64.wrap (1+(i:Int))=1+(i:Int):=by rw[IntKind.wrap_i64];omega
   go_wp2_with fail;refine(oC HT.o (1+(i:Int)) (by have L:=m.o.rd;have X:=C0.o;omega)).mono ?_;unfold IK;rw[OO (by rw[C3 m.o];exact HS.o) t0.o.2 (by rw[m.o.bl];exact t0.o.1) (by omega) (by omega),F5 (by rw[C3 m.o];exact HS.o),J3 m.o];rintro e w2 ⟨r,rfl,ho,G,N⟩;have hL:=(mV G (1+(i:Int))).2;rw[J3 (m.o.trans J5)]at hL;obtain⟨D,hD⟩:=c7 (t7 (A0 P S (1+(i:Int))));have o0:=b9 (p7 ho hL);have HD:=b9 hD;have b0:=b9 G;have I:c6 (F0 (i+1) S (aF P S' (1+(i:Int)))):=m.o.trans J5;have p:c6 (w.heap.size≤R∧w.heap.size≤Q):=by have L:=HR.o;have X:=HQ.o;exact⟨by omega,by omega⟩
   have B:c6 (¬A R∧ ¬A Q):=⟨fun e=>by have:=F.o _ e;have:=p.o.1;omega,fun e=>by have:=F.o _ e;have:=p.o.2;omega⟩;have W:=b9 (u.o.chA N B.o.2 (fun j K x t e=>by have L:=d0.o j K x t;have X:=F.o x e;omega));have U:=b9 (d.o.chA N B.o.1 (fun j K x t e=>(by cases t)));have f0:=b9 (HC.o.self N);generalize aF P S' (1+(i:Int))=S2 at b0 I;clear ho G N hL hD HT m u d HC;go_wp2_with fail;refine(FQ o0.o).mono ?_;unfold cH;rw[←HD.o];rintro e w3 ⟨v3,rfl,Y,E⟩;have s0:=b9 (b0.o.below E);have H:=b9 (W.o.below E);have b:=b9 (U.o.below E);have v0:=b9 (f0.o.self (Ch.of_below E));have m0:=b9 ((cX Y).1);have I0:c6 (∀x,v3.ownBlock=some x→w.heap.size≤x):=fun x t=>by have L:=(Y.lt x t).1;have X:=f0.o.size;omega
   clear Y E b0 W U f0 o0;by_cases M:D.2=0;rotate_left
   ·have G0:=b9 (FU C y.o (by rw[←HD.o];exact M));have B0:((D.2:Int) !=0)=true:=by rw[bne_iff_ne];omega
    have J:c6 (Ch A w ((((((w3.setCell ⟨R,0,none⟩ (.slice none 0 0)).setCell ⟨R,1,none⟩ (.slice none 0 0)).setCell ⟨R,2,none⟩ (.slice none 0 0)).setCell ⟨R,3,none⟩ (.slice none 0 0)).setCell ⟨R,4,none⟩ (.slice none 0 0)).setCell ⟨R,5,none⟩ (.slice none 0 0))):=AC v0.o (.inr p.o.1) _ _ _ _ _ _;have Z:c6 (ST A ((((((w3.setCell ⟨R,0,none⟩ (.slice none 0 0)).setCell ⟨R,1,none⟩ (.slice none 0 0)).setCell ⟨R,2,none⟩ (.slice none 0 0)).setCell ⟨R,3,none⟩ (.slice none 0 0)).setCell ⟨R,4,none⟩ (.slice none 0 0)).setCell ⟨R,5,none⟩ (.slice none 0 0)) (.pointer (some ⟨sp,0,none⟩)) dv k P S2):=s0.o.six B.o.1 (by have L:=c0.o;have X:=p.o.1;omega) _ _ _ _ _ _;have r0:=b.o.c 0 (by omega);have r1:=b.o.c 1 (by omega);have r2:=b.o.c 2 (by omega);have r3:=b.o.c 3 (by omega);have r4:=b.o.c 4 (by omega);have r5:=b.o.c 5 (by omega);have z0:=b.o.z 0;have z1:=b.o.z 1;have z2:=b.o.z 2;have z3:=b.o.z 3;have z4:=b.o.z 4;have z5:=b.o.z 5;unfold kD at r0 r1 r2 r3 r4 r5;clear M;go_wp2_with fail
    (try simp only[Exit.inBlock,Exit.then])
    refine bodyPost_ret (v:= .tuple #[.agg #[.slice none 0 0,.slice none 0 0,.slice none 0 0,.slice none 0 0,.slice none 0 0,.slice none 0 0],.int .i64 133]) (by rw[results_cell_tmp rfl];go_simp) rfl ?_;exact⟨133,kD,S2,rfl,fun j _=>⟨_,_,_,rfl⟩,fun j _ x t=>(by cases t),.inr (.inl ⟨rfl,HS.o,G0.o⟩),by rw[F5 HS.o];exact Z.o,I.o.mono (by omega),J.o⟩
   ·have D0:c6 (C8 P S (i+1)=some (l++[D.1])):=by have h:=zX y.o (by rw[←HD.o];exact M);rw[←HD.o]at h;exact h
    have B0:((D.2:Int) !=0)=false:=by rw[bne_eq_false_iff_eq];omega
    obtain⟨va,vc,g0⟩:=m0.o.form;obtain⟨vn,h0⟩:=c7 D.1.length;rw[←h0]at g0;subst g0;have q0:=H.o.c i C;have q1:=H.o.z i
    have y0:c6 (Ju A w (.pointer (some ⟨sp,0,none⟩)) dv k P S R Q (.int .i64 ((i:Int)+1)) (w3.setCell ⟨Q,i,none⟩ (.slice va vn vc))):=by
     refine⟨i+1,pR f i (.slice va vn vc),l++[D.1],S2,rfl,C,D0.o,?_,?_,?_,?_,I.o,v0.o.trans (k8 w3 Q i _) (fun x t=>by subst t;exact .inr p.o.2)⟩
     ·have h:=H.o.set C m0.o;rw[Bl C (T4 y.o)]at h;exact h
     ·intro j K x t;unfold pR at t;by_cases q:i=j
      ·rw[if_pos q]at t;exact I0.o x t
      ·rw[if_neg q]at t;exact d0.o j K x t
     ·exact b.o.chA (k8 w3 Q i _) (by have:=HQ.o;omega) (fun j K x t e=>(by cases t))
     ·exact s0.o.setB (fun x t hA e=>by subst e;exact B.o.2 hA) (fun s e=>by cases e;have L:=c0.o;have X:=p.o.2;omega)
    clear M h0;go_wp2_with fail;go_roundw
    case rel=>exact y0.o
    case measure=>simp[intOf];omega
  ·have x0: ¬(i:Int)<6:=by omega
   obtain rfl:i=6:=by omega
   have p:c6 (w.heap.size≤R∧w.heap.size≤Q):=by have L:=HR.o;have X:=HQ.o;exact⟨by omega,by omega⟩
   have B:c6 (¬A R∧ ¬A Q):=⟨fun e=>by have:=F.o _ e;have:=p.o.1;omega,fun e=>by have:=F.o _ e;have:=p.o.2;omega⟩;have r0:=d.o.c 0 (by omega);have r1:=d.o.c 1 (by omega);have r2:=d.o.c 2 (by omega);have r3:=d.o.c 3 (by omega);have r4:=d.o.c 4 (by omega);have r5:=d.o.c 5 (by omega);have z0:=d.o.z 0;have z1:=d.o.z 1;have z2:=d.o.z 2;have z3:=d.o.z 3;have z4:=d.o.z 4;have z5:=d.o.z 5;unfold kD at r0 r1 r2 r3 r4 r5;have g:c6 (∀j,j<6→ ∃a n q,f j= .slice a n q):=fun j K=>by obtain⟨a,q,e⟩:=u.o.form K;exact⟨a,_,q,e⟩
   obtain⟨a0,n0,p0,e0⟩:=g.o 0 (by omega);obtain⟨a1,n1,p1,e1⟩:=g.o 1 (by omega);obtain⟨a2,n2,p2,e2⟩:=g.o 2 (by omega);obtain⟨a3,n3,p3,e3⟩:=g.o 3 (by omega);obtain⟨a4,n4,p4,e4⟩:=g.o 4 (by omega);obtain⟨a5,n5,p5,e5⟩:=g.o 5 (by omega);have q0:=u.o.c 0 (by omega);have q1:=u.o.c 1 (by omega);have q2:=u.o.c 2 (by omega);have q3:=u.o.c 3 (by omega);have q4:=u.o.c 4 (by omega);have q5:=u.o.c 5 (by omega);rw[e0]at q0;rw[e1]at q1;rw[e2]at q2;rw[e3]at q3;rw[e4]at q4;rw[e5]at q5;have HE:c6 (f 0= .slice a0 n0 p0∧f 1= .slice a1 n1 p1∧f 2= .slice a2 n2 p2∧f 3= .slice a3 n3 p3∧f 4= .slice a4 n4 p4∧f 5= .slice a5 n5 p5):=⟨e0,e1,e2,e3,e4,e5⟩;have J:c6 (Ch A w ((((((wr.setCell ⟨R,0,none⟩ (.slice a0 n0 p0)).setCell ⟨R,1,none⟩ (.slice a1 n1 p1)).setCell ⟨R,2,none⟩ (.slice a2 n2 p2)).setCell ⟨R,3,none⟩ (.slice a3 n3 p3)).setCell ⟨R,4,none⟩ (.slice a4 n4 p4)).setCell ⟨R,5,none⟩ (.slice a5 n5 p5))):=AC HC.o (.inr p.o.1) _ _ _ _ _ _;have Z:c6 (ST A ((((((wr.setCell ⟨R,0,none⟩ (.slice a0 n0 p0)).setCell ⟨R,1,none⟩ (.slice a1 n1 p1)).setCell ⟨R,2,none⟩ (.slice a2 n2 p2)).setCell ⟨R,3,none⟩ (.slice a3 n3 p3)).setCell ⟨R,4,none⟩ (.slice a4 n4 p4)).setCell ⟨R,5,none⟩ (.slice a5 n5 p5)) (.pointer (some ⟨sp,0,none⟩)) dv k P S'):=HT.o.six B.o.1 (by have L:=c0.o;have X:=p.o.1;omega) _ _ _ _ _ _
   have J0:c6 (∀j,j<6→Cv ((((((wr.setCell ⟨R,0,none⟩ (.slice a0 n0 p0)).setCell ⟨R,1,none⟩ (.slice a1 n1 p1)).setCell ⟨R,2,none⟩ (.slice a2 n2 p2)).setCell ⟨R,3,none⟩ (.slice a3 n3 p3)).setCell ⟨R,4,none⟩ (.slice a4 n4 p4)).setCell ⟨R,5,none⟩ (.slice a5 n5 p5)) (f j) (B3 l j)):=fun j K=>by
    have h:=u.o.cv j K;rw[Hm]at h;exact h.sixS d.o _ _ _ _ _ _
   clear e0 e1 e2 e3 e4 e5;go_wp2_with fail
   (try simp only[Exit.inBlock,Exit.then])
   refine bodyPost_ret (v:= .tuple #[.agg #[.slice a0 n0 p0,.slice a1 n1 p1,.slice a2 n2 p2,.slice a3 n3 p3,.slice a4 n4 p4,.slice a5 n5 p5],.int .i64 0]) (by rw[results_cell_tmp rfl];go_simp) rfl ?_;obtain⟨e0,e1,e2,e3,e4,e5⟩:=HE.o;exact⟨0,f,S',by rw[e0,e1,e2,e3,e4,e5];rfl,g.o,d0.o,.inr (.inr ⟨rfl,HS.o,l,y.o,J0.o⟩),by rw[F5 HS.o];exact Z.o,m.o,J.o⟩
end
end
end Go.Proofs.YtfhoilcbhmeofaaGreat
