/- Put that lays and comes to the root's write. -/
import Derived.Test.YtfhoilcbhmeofaaGreatB11
import Derived.Defers
import Derived.Recover
set_option maxRecDepth 100000
set_option maxHeartbeats 16000000
namespace Go.Proofs.YtfhoilcbhmeofaaGreat
open Go.RowKit
section
theorem pY{t:f7}{B:Nat}:II t B↔1≤t.length∧2+2*t.length≤B∧(∀i,i<t.length→tn t i=0∨(2≤tn t i∧tn t i<B))∧ ∀i j,i<j→j<t.length→tn t j≠0→tn t i≠tn t j:=by
 constructor
 ·rintro⟨k,g,f⟩;refine⟨k,g,fun i d=>?_,fun i j p l o e=>?_⟩
  ·rcases f i d with h|⟨a,b,_⟩
   ·exact .inl h
   ·exact .inr ⟨a,b⟩
  ·rcases f j l with h|⟨_,_,c⟩
   ·exact o h
   ·refine c ?_;rw[←e,aA (by omega)];exact List.mem_take_iff_getElem.2 ⟨i,by omega,rfl⟩
 ·rintro⟨k,g,f,n⟩;refine⟨k,g,fun i d=>?_⟩;rcases f i d with h|⟨a,b⟩
  ·exact .inl h
  ·refine .inr ⟨a,b,fun m=>?_⟩;obtain⟨j,l,e⟩:=List.mem_take_iff_getElem.1 m;exact n j i (by omega) d (by omega) (by rw[aA (by omega)];exact e)
structure LI(tab t tk:f7)(b B:Nat):Prop where
 len:t.length=tab.length
 src: ∀i,i<tab.length→tn t i=0∨tn t i=tn tab i∨tn t i∈tk
 tk2: ∀x∈tk,2≤x∧x≤b∧x<B∧x∉tab
 dist: ∀i j,i<j→j<tab.length→tn t j≠0→tn t i≠tn t j
 fr:Kd tab tk b
 b1:1≤b
theorem LI.start{tab:f7}{B:Nat}(h:II tab B):LI tab tab [] 1 B:=
 ⟨rfl,fun _ _=> .inr (.inl rfl),fun x hx=>by simp at hx,(pY.1 h).2.2.2,fun y h1 h2=>by omega,Nat.le_refl _⟩
theorem LI.zero{tab t tk:f7}{b B:Nat}(h:LI tab t tk b B)(q:Nat):LI tab (t.set q 0) tk b B:=by
 have d:=h.len;refine⟨by rw[List.length_set];exact d,fun i g=>?_,h.tk2,fun i j c f=>?_,h.fr,h.b1⟩
 ·rw[W9 (by omega)]
  split
  ·exact .inl rfl
  ·exact h.src i g
 ·rw[W9 (by omega),W9 (by omega)]
  split
  ·intro a;exact absurd rfl a
  ·split
   ·intro a e;exact a e.symm
   ·exact h.dist i j c f
theorem LI.next{tab t tk:f7}{b B:Nat}(h:LI tab t tk b B)(h64: ∀x∈tab,x<64)(hx:q8 tab b<B)(q:Nat):LI tab (t.set q (q8 tab b)) (q8 tab b::tk) (q8 tab b) B:=by
 have n:=h.len;have o:=mN (t:=tab) (b:=b);have f:=rW (b:=b) h64;have p:=h.b1
 have old: ∀i,i<tab.length→tn t i≠q8 tab b:=by
  intro i g e;rcases h.src i g with q|q|q
  ·omega
  ·rw[e]at q;exact f (by rw[q];exact jU g)
  ·have:=(h.tk2 _ q).2.1;omega
 refine⟨by rw[List.length_set];exact n,fun i g=>?_,fun x k=>?_,fun i j l m=>?_,OP h.fr,by omega⟩
 ·rw[W9 (by omega)]
  split
  ·exact .inr (.inr (by simp))
  ·rcases h.src i g with q|q|q
   ·exact .inl q
   ·exact .inr (.inl q)
   ·exact .inr (.inr (by simp[q]))
 ·rcases List.mem_cons.1 k with rfl|q
  ·exact⟨by omega,Nat.le_refl _,hx,f⟩
  ·obtain⟨a,c,d,e⟩:=h.tk2 x q;exact⟨a,by omega,d,e⟩
 ·rw[W9 (by omega),W9 (by omega)]
  split
  ·split
   ·omega
   ·intro _;exact old i (by omega)
  ·split
   ·intro _ e;exact old j m e.symm
   ·exact h.dist i j l m
theorem LI.tok{tab t tk:f7}{b B:Nat}(h:LI tab t tk b B)(hT:II tab B):II t B:=by
 have g:=h.len;obtain⟨o,n,e,m⟩:=pY.1 hT;refine pY.2 ⟨by omega,by omega,fun i l=>?_,fun i j d k f=>h.dist i j d (by omega) f⟩;rcases h.src i (by omega)with q|q|q
 ·exact .inl q
 ·rw[q];exact e i (by omega)
 ·obtain⟨a,_,c,_⟩:=h.tk2 _ q;exact .inr ⟨a,c⟩
theorem zL{tab t tk:f7}{b B:Nat}(h:LI tab t tk b B)(hT:II tab B)(hk:tk.length<tab.length):q8 tab b<B:=by
 have:=kH h.fr;have:=hT.2.1;omega
theorem Ie{tab:f7}{B:Nat}(hT:II tab B)(h64: ∀x∈tab,x<64): ∀(ps:List (Int × f7)) (b:Nat) (t tk:f7) (S:Dk) (t':f7),LI tab t tk b B→tk.length+ps.length≤tab.length→(D4 tab ps b t S).1=some t'→ ∃tk' b',LI tab t' tk' b' B:=by
 intro ps
 induction ps with
 |nil=>intro b t tk S t' h _ e;unfold D4 at e;cases e;exact⟨tk,b,h⟩
 |cons a l c=>
  obtain⟨p,d⟩:=a;intro b t tk S t' h f e;rw[List.length_cons]at f;unfold D4 at e
  split at e
  ·exact c b _ tk S t' (h.zero _) (by omega) e
  ·split at e
   ·exact c _ _ _ _ t' (h.next h64 (zL h hT (by omega)) _) (by simp;omega) e
   ·cases e
def A5(P:Bo)(S:Dk)(ps:List (Int × f7)):Int × Bo × Dk:=
 if i6 P S=true then(80,J6 P,S)
 else if x9 P.tab.length ps≠0 then(x9 P.tab.length ps,P,S)
 else if ps=[]then(0,P,S)
 else if P.gen=1099511627776 then(92,P,S)
 else match D4 P.tab ps 1 P.tab S with
  |(none,S')=>(80,J6 P,S')
  |(some t,S')=>if l7 S' ((1-P.home:Nat):Int) (k9 (P.gen+1) t)=0 then(0,⟨P.gen+1,t,1-P.home,P.over⟩,i7 S' ((1-P.home:Nat):Int) (k9 (P.gen+1) t))else(80,J6 P,i7 S' ((1-P.home:Nat):Int) (k9 (P.gen+1) t))
section

variable{P:Bo}{S S':Dk}{ps:List (Int × f7)}{t:f7}

theorem CR(h:i6 P S=true):A5 P S ps=(80,J6 P,S):=by unfold A5;rw[if_pos h]
theorem uZ(h:i6 P S=false)(hf:x9 P.tab.length ps≠0):A5 P S ps=(x9 P.tab.length ps,P,S):=by unfold A5;rw[if_neg (by rw[h];simp),if_pos hf]
theorem vA(h:i6 P S=false)(hp:ps=[]):A5 P S ps=(0,P,S):=by unfold A5;rw[if_neg (by rw[h];simp),hp,if_neg (fun e=>e rfl),if_pos rfl]
theorem CS(h:i6 P S=false)(hf:x9 P.tab.length ps=0)(hp:ps≠[])(hg:P.gen=1099511627776):A5 P S ps=(92,P,S):=by unfold A5;rw[if_neg (by rw[h];simp),if_neg (fun e=>e hf),if_neg hp,if_pos hg]
theorem yO(h:i6 P S=false)(hf:x9 P.tab.length ps=0)(hp:ps≠[])(hg:P.gen≠1099511627776)(hl:D4 P.tab ps 1 P.tab S=(none,S')):A5 P S ps=(80,J6 P,S'):=by
 unfold A5;rw[if_neg (by rw[h];simp),if_neg (fun e=>e hf),if_neg hp,if_neg hg,hl]
theorem KJ(h:i6 P S=false)(hf:x9 P.tab.length ps=0)(hp:ps≠[])(hg:P.gen≠1099511627776)(hl:D4 P.tab ps 1 P.tab S=(some t,S'))(hw:l7 S' ((1-P.home:Nat):Int) (k9 (P.gen+1) t)=0):
  A5 P S ps=(0,⟨P.gen+1,t,1-P.home,P.over⟩,i7 S' ((1-P.home:Nat):Int) (k9 (P.gen+1) t)):=by
 unfold A5;rw[if_neg (by rw[h];simp),if_neg (fun e=>e hf),if_neg hp,if_neg hg,hl];simp only;rw[if_pos hw]
theorem yQ(h:i6 P S=false)(hf:x9 P.tab.length ps=0)(hp:ps≠[])(hg:P.gen≠1099511627776)(hl:D4 P.tab ps 1 P.tab S=(some t,S'))(hw:l7 S' ((1-P.home:Nat):Int) (k9 (P.gen+1) t)≠0):
  A5 P S ps=(80,J6 P,i7 S' ((1-P.home:Nat):Int) (k9 (P.gen+1) t)):=by
 unfold A5;rw[if_neg (by rw[h];simp),if_neg (fun e=>e hf),if_neg hp,if_neg hg,hl];simp only;rw[if_neg hw]
theorem KV{B:Nat}(hk:P.ok B)(hB:B≤64)(hf:UB P.tab.length ps)(hl:D4 P.tab ps 1 P.tab S=(some t,S')):II t B∧t.length=P.tab.length:=by
 obtain⟨tk,b,h⟩:=Ie hk.tok (fun x a=>by have:=gE hk.tok x a;omega) ps 1 P.tab [] S t (LI.start hk.tok) (by simp;exact aX hf) (by rw[hl]);exact⟨h.tok hk.tok,h.len⟩
end
end
section
section

variable{A D:n9}{w w':d9}{v dv tv lv:Value}{P P':Bo}{S S':Dk}{pb:Nat}{ps:List (Int × f7)}

theorem Y7{p q:Nat}{o:Bool}{f:Int}(u:TypeId)(pv:Value)(older:List PanicEntry)(w:d9)(h1:w.cell? ⟨p,0,none⟩=some (.pointer (some ⟨pb,0,none⟩)))(h2:w.cell? ⟨pb,4,none⟩=some (.bool o))(f2:w.frozen? ⟨pb,4,none⟩=false)
  (h3:w.cell? ⟨q,0,none⟩=some (.int .i64 f)) (f3:w.frozen? ⟨q,0,none⟩=false):
  CallsD Tryz.prog 83 #[.pointer (some ⟨p,0,none⟩),.pointer (some ⟨q,0,none⟩)] (.panicking ({v:= .iface u pv,recovered:=false}::older)) w fun e u' w'=>
   e= .returned (.tuple #[])∧u'= .panicking ({v:= .iface u pv,recovered:=true}::older)∧w'=(w.setCell ⟨pb,4,none⟩ (.bool true)).setCell ⟨q,0,none⟩ (.int .i64 80):=by
 refine callsD_of_wpS Tryz.func83 rfl fun c₀ cs a=>?_;apply wpS_seq;apply wpS_region;simp[wpOpsS,go_sem,recoverD,a,Tryz.ntmps83,Exit.thenS];refine wpS_cond (t:=true) (by simp[Act.eval,Array.replicate]) ?_;simp only[if_true];apply wpS_seq;apply wpS_region;simp[wpOpsS,go_sem,h1,h2,f2,Exit.thenS];apply wpS_region;simp[wpOpsS,go_sem,h3,f3,bodyPostS,results,Tryz.results83]
theorem CY(p q:Addr)(w:d9):
  CallsD Tryz.prog 83 #[.pointer (some p),.pointer (some q)] .returning w fun e u' w'=>e= .returned (.tuple #[])∧u'= .returning∧w'=w:=by
 refine callsD_of_wpS Tryz.func83 rfl fun c₀ cs a=>?_;apply wpS_seq;apply wpS_region;simp[wpOpsS,go_sem,recoverD,a,Tryz.ntmps83,Exit.thenS];refine wpS_cond (t:=false) (by simp[Act.eval,Array.replicate]) ?_;simp only[Bool.false_eq_true,if_false];refine wpS_of_wp (wp_skip ?_)
 cases c₀
 simp_all [bodyPostS,results,Tryz.results83]
def Pt(F:Value→Value→Bo→Array Value)(TB TD:TypeId)(A:n9)(w:d9)(v dv:Value)(P:Bo)(S:Dk)(ps:List (Int × f7))(e:Ending)(w':d9):Prop:=
 e= .returned (.int .i64 (A5 P S ps).1)∧(∃A',Bk F TB TD A' w' v dv (A5 P S ps).2.1 (A5 P S ps).2.2∧ ∀x,A' x→A x∨w.heap.size≤x)∧Ch A w w'
theorem dW{F:Value→Value→Bo→Array Value}{TB TD:TypeId}{A' D':n9}{c:Int}(hO:A5 P S ps=(c,P',S'))(h:BM F TB TD A' D' w' pb tv dv P' S')(hA: ∀x,A' x→A x∨w.heap.size≤x)(hC:Ch A w w'):Pt F TB TD A w (.pointer (some ⟨pb,0,none⟩)) dv P S ps (.returned (.int .i64 c)) w':=
 ⟨by rw[hO],⟨A',by rw[hO];exact⟨D',pb,tv,rfl,h⟩,hA⟩,hC⟩
structure Pz(w:d9)(pb:Nat)(wx:d9):Prop where
 c0:wx.cell? ⟨w.heap.size,0,none⟩=some (.pointer (some ⟨pb,0,none⟩))
 c1:wx.cell? ⟨w.heap.size+1,0,none⟩=some (.int .i64 0)
 f1:wx.frozen? ⟨w.heap.size+1,0,none⟩=false
theorem Pz.ch{E:n9}{wx wy:d9}(h:Pz w pb wx)(hc:Ch E wx wy)(h0: ¬E w.heap.size)(h1: ¬E (w.heap.size+1)):Pz w pb wy:=
 ⟨by rw[World.cell?_of_block (w:=wx) (a:=⟨w.heap.size,0,none⟩) (hc.block _ (c8 h.c0) h0)];exact h.c0,by rw[World.cell?_of_block (w:=wx) (a:=⟨w.heap.size+1,0,none⟩) (hc.block _ (c8 h.c1) h1)];exact h.c1,
  by rw[World.frozen?_of_block (w:=wx) (a:=⟨w.heap.size+1,0,none⟩) (hc.block _ (c8 h.c1) h1)];exact h.f1⟩
theorem Pz.below{wx wy:d9}(h:Pz w pb wx)(hb:f8 wx wy):Pz w pb wy:=h.ch (Ch.of_below (D:=fun _=>False) hb) (fun e=>e) (fun e=>e)
theorem rP{w0:d9}(hw:w0=(w.alloc (Obj.cells #[.pointer (some ⟨pb,0,none⟩)] 71)).alloc (Obj.cells #[.int .i64 0] 25)):Pz w pb w0∧f8 w w0∧w0.heap.size=w.heap.size+2:=by
 subst hw;refine⟨⟨?_,?_,?_⟩,a9 (a8 _ _) (a8 _ _),by simp⟩;all_goals simp[go_sem]
theorem RV(h:MP A D w pb tv dv P S)(hl:Tx A w lv ps)(hs:i6 P S=true∨x9 P.tab.length ps≠0∨ps=[]∨P.gen=1099511627776):
  Calls Tryz.prog 37 #[.pointer (some ⟨pb,0,none⟩),lv] w fun e w'=>Pt ES 124 89 A w (.pointer (some ⟨pb,0,none⟩)) dv P S ps e w':=by
 obtain⟨R,t⟩:=c7 ((w.alloc (Obj.cells #[.pointer (some ⟨pb,0,none⟩)] 71)).alloc (Obj.cells #[.int .i64 0] 25));have p:=b9 t;obtain⟨C,j,J⟩:=rP t;have HZ:=b9 C;have q:=b9 j;have b:=b9 (h.below j);have k:=b9 h.al;have v:=b9 (hl.below j);obtain⟨lo,T,rfl,L,F⟩:=hl.form;have O:(ps.length:Int)≤9223372036854775807:=by simp only[maxLen]at F;omega
 clear t J L F
 cases hsh:i6 P S
 ·have f:=b9 hsh
  have n:x9 P.tab.length ps≠0∨ps=[]∨P.gen=1099511627776:=by
   rcases hs with e|e
   ·rw[hsh]at e;cases e
   ·exact e
  clear hs hsh;by_cases i:x9 P.tab.length ps≠0
  ·have HR:=b9 (uZ f.o i);obtain⟨c,H⟩:=c7 (x9 P.tab.length ps);have HC:=b9 H;rw[←H]at i HR;have Q:(c !=0)=true:=by simpa using i
   clear h hl n C j H;go_enter_defers Tryz.func37,Tryz.ntmps37;go_wp2_with fail;rw[←p.o];refine(O0 b.o f.o).mono ?_;rintro e N ⟨rfl,l⟩;have l:=l.symm;subst l;have B:=HZ.o.c0;go_wp2_with fail;refine(cC b.o v.o).mono ?_;rw[←HC.o];rintro e z ⟨rfl,a⟩;have g:=b9 a;have r:=(HZ.o.below a).c1;have I:=(HZ.o.below a).f1;clear a B;go_wp2_with fail
   exact⟨.int .i64 c,by simp[results,Tryz.results37,go_sem,r],
    dW HR.o ((b.o.below g.o).other (fun e=>by have:=k.o _ e;omega) _ _) (fun x s=> .inl s) (P7 (Ch.of_below (a9 q.o g.o)) (by omega) _ _)⟩
  ·have y:=b9 (Classical.not_not.1 i);by_cases d:ps=[]
   ·have HR:=b9 (vA f.o d);have u:(ps.length:Int)=0:=by rw[d];rfl
    have K:((ps.length:Int)==0)=true:=by rw[d];rfl
    clear h hl n C j i d u;go_enter_defers Tryz.func37,Tryz.ntmps37;go_wp2_with fail;rw[←p.o];refine(O0 b.o f.o).mono ?_;rintro e N ⟨rfl,l⟩;have l:=l.symm;subst l;have B:=HZ.o.c0;go_wp2_with fail;refine(cC b.o v.o).mono ?_;rw[y.o];rintro e z ⟨rfl,a⟩;have g:=b9 a;have r:=(HZ.o.below a).c1;have I:=(HZ.o.below a).f1;clear a B;go_wp2_with fail
    exact⟨.int .i64 0,by simp[results,Tryz.results37,go_sem,r],
     dW HR.o ((b.o.below g.o).other (fun e=>by have:=k.o _ e;omega) _ _) (fun x s=> .inl s) (P7 (Ch.of_below (a9 q.o g.o)) (by omega) _ _)⟩
   ·have m:P.gen=1099511627776:=by
     rcases n with e|e|e
     ·exact absurd e i
     ·exact absurd e d
     ·exact e
    have HR:=b9 (CS f.o y.o d m);have u:=List.length_pos_iff.2 d;have K:((ps.length:Int)==0)=false:=by simp;omega
    have HG:=b9 m;clear h hl n C j i d m u;go_enter_defers Tryz.func37,Tryz.ntmps37;go_wp2_with fail;rw[←p.o];refine(O0 b.o f.o).mono ?_;rintro e N ⟨rfl,l⟩;have l:=l.symm;subst l;have B:=HZ.o.c0;go_wp2_with fail;refine(cC b.o v.o).mono ?_;rw[y.o];rintro e z ⟨rfl,a⟩;have g:=b9 a;have W:=(HZ.o.below a).c0;have r:=(HZ.o.below a).c1;have I:=(HZ.o.below a).f1;have U:z.cell? ⟨pb,0,none⟩=some (.int .u64 1099511627776):=by rw[Fo (b.o.below a),HG.o];rfl
    clear a B;go_wp2_with fail
    exact⟨.int .i64 92,by simp[results,Tryz.results37,go_sem,r],
     dW HR.o ((b.o.below g.o).other (fun e=>by have:=k.o _ e;omega) _ _) (fun x s=> .inl s) (P7 (Ch.of_below (a9 q.o g.o)) (by omega) _ _)⟩
 ·have f:=b9 hsh;have HR:c6 (A5 P S ps=(80,J6 P,S)):=CR hsh;clear h hl hs hsh C j;go_enter_defers Tryz.func37,Tryz.ntmps37;go_wp2_with fail;rw[←p.o];refine(jN b.o f.o).mono ?_;rintro e z ⟨rfl,M,G⟩;have E:Pz w pb z:=HZ.o.ch G (fun e=>by have:=k.o _ e;omega) (fun e=>by have:=k.o _ e;omega);have r:=E.c1;have I:=E.f1;go_wp2_with fail
  exact⟨.int .i64 80,by simp[results,Tryz.results37,go_sem,r],
   dW HR.o (M.other (fun e=>by have:=k.o _ e;omega) _ _) (fun x s=> .inl s) (P7 ((Ch.of_below (D:=A) q.o).self G) (by omega) _ _)⟩
end
end
section
theorem DY{P:Program}{fn:Func}{t t':Array Value}{R:Ending→d9→Prop}(h:results fn t=results fn t'): ∀(ds:List Deferred) (u:FrameMode) (w:d9),Leaves P fn t R ds u w=Leaves P fn t' R ds u w:=by
 intro ds
 induction ds with
 |nil=>intro u w;cases u<;>simp only[Leaves,h]
 |cons d ds a=>intro u w;simp only[Leaves,a]
theorem CG(tmps:Array Value)(d:Nat)(v:Value)(hd:d≠4):results Tryz.f37 (tmps.setIfInBounds d v)=results Tryz.f37 tmps:=by
 have e:(tmps.setIfInBounds d v)[4]?=tmps[4]?:=by rw[Array.getElem?_setIfInBounds,if_neg hd]
 unfold results;simp only[Tryz.results37];simp[e]
theorem dS{R:Ending→d9→Prop}{d:Nat}(hd:d≠4)(v:Value)(c:List PanicEntry)(a:Act)(w:d9)(h:bodyPostD Tryz.prog Tryz.f37 R (.panic c) (a.put (some d) v) w):bodyPostD Tryz.prog Tryz.f37 R (.panic c) a w:=by
 have e:=DY (P:=Tryz.prog) (R:=R) (CG a.tmps d v hd) a.defers (.panicking c) w;exact Eq.mp e h
structure Kz(w1:d9)(p pb:Nat)(wx:d9):Prop where
 k0:wx.heap[p]?=w1.heap[p]?
 k1:wx.heap[pb]?=w1.heap[pb]?
 sz:w1.heap.size≤wx.heap.size
theorem Kz.go{w1 wx wy:d9}{p pb:Nat}(h:Kz w1 p pb wx)(hp:p<w1.heap.size)(hq:pb<w1.heap.size)(hb:f8 wx wy):Kz w1 p pb wy:=
 ⟨by rw[hb.block p (Nat.lt_of_lt_of_le hp h.sz)];exact h.k0,by rw[hb.block pb (Nat.lt_of_lt_of_le hq h.sz)];exact h.k1,Nat.le_trans h.sz hb.size⟩
theorem Kz.set{w1 wx:d9}{p pb g:Nat}(h:Kz w1 p pb wx)(hp:p≠g)(hq:pb≠g)(a b:Value):Kz w1 p pb ((wx.setCell ⟨g,0,none⟩ a).setCell ⟨g,1,none⟩ b):=
 ⟨by rw[l8 1 _ hp,l8 0 _ hp];exact h.k0,by rw[l8 1 _ hq,l8 0 _ hq];exact h.k1,by simpa using h.sz⟩
theorem Ih{A A' D D':n9}{w1 wx w3:d9}{pb p:Nat}{tv dv:Value}{P:Bo}{S S':Dk}(hx:Kz w1 p pb wx)(h1:MP A D w1 pb tv dv P S)(h3:MP A' D' w3 pb tv dv P S')(hc:Ch A wx w3)(hp:p<w1.heap.size)(hpA: ¬A p):Kz w1 p pb w3:=
 ⟨by rw[hc.block p (Nat.lt_of_lt_of_le hp hx.sz) hpA];exact hx.k0,by rw[h3.head,h1.head],Nat.le_trans hx.sz hc.size⟩
section

variable{A D:n9}{w w':d9}{v dv tv lv:Value}{P P':Bo}{S S':Dk}{pb:Nat}{ps:List (Int × f7)}{t:f7}

theorem OD{w1:d9}(h:MP A D w1 pb tv dv P S)(hl:Tx A w1 lv ps)(hok:UB P.tab.length ps)(hg:P.gen<1099511627776)(hwr:S.wr<4611686018427387904)(hL:D4 P.tab ps 1 P.tab S=(none,S')):
  Calls Tryz.prog 84 #[.pointer (some ⟨pb,0,none⟩),lv] w1 fun e w'=>(∃u pv,e= .panicked [{v:= .iface u pv,recovered:=false}])∧ ∃A' D',MP A' D' w' pb tv dv P S'∧(∀x,A' x→A x∨w1.heap.size≤x)∧Ch A w1 w':=by
 refine(DZ h hl hok hg hwr).mono ?_;rintro e w' ⟨A',D',b,d,c,g,f,a⟩;rw[hL]at b a;exact⟨a rfl,A',D',b,d,c⟩
theorem XV{w1:d9}(h:MP A D w1 pb tv dv P S)(hl:Tx A w1 lv ps)(hok:UB P.tab.length ps)(hg:P.gen<1099511627776)(hwr:S.wr<4611686018427387904)(hL:D4 P.tab ps 1 P.tab S=(some t,S')):
  Calls Tryz.prog 84 #[.pointer (some ⟨pb,0,none⟩),lv] w1 fun e w'=> ∃A' D' g cap,e= .returned (.agg #[.int .u64 (P.gen+1:Nat),.slice (some ⟨g,0,none⟩) t.length cap])∧MP A' D' w' pb tv dv P S'∧(∀x,A' x→A x∨w1.heap.size≤x)∧Ch A w1 w'∧Zt w' g cap t∧ ¬A' g∧w1.heap.size≤g∧t.length=P.tab.length∧S'.wr≤S.wr+ps.length:=by
 refine(DZ h hl hok hg hwr).mono ?_;rintro e w' ⟨A',D',c,f,d,b,a,n⟩;rw[hL]at c b a;obtain⟨g,cap,m,l,k,j,i⟩:=a t rfl;exact⟨A',D',g,cap,m,c,f,d,l,k,j,i,b⟩
theorem yR{w1 w3:d9}{A' D':n9}(hO:A5 P S ps=(80,J6 P,S'))(h:MP A' D' w3 pb tv dv P S')(hA: ∀x,A' x→A x∨w.heap.size≤x)(hA1: ¬A' (w.heap.size+1))(hB:f8 w w1)(hC:Ch A w1 w3):
  Pt ES 124 89 A w (.pointer (some ⟨pb,0,none⟩)) dv P S ps (.returned (.int .i64 80)) ((w3.setCell ⟨pb,4,none⟩ (.bool true)).setCell ⟨w.heap.size+1,0,none⟩ (.int .i64 80)):=by
 have b:=hA pb h.ab;refine dW hO ((XP h).other hA1 _ _) hA (P7 ?_ (by omega) _ _);refine((Ch.of_below (D:=A) hB).self hC).trans (Ch.of_grown (D:=fun x=>x=pb) (A7 w3 pb 4 _) (fun x a=>by cases a;rfl)) fun x a=>?_;subst a;exact b
theorem KL(h:MP A D w pb tv dv P S)(hl:Tx A w lv ps)(hsh:i6 P S=false)(hfa:x9 P.tab.length ps=0)(hpe:ps≠[])(hgen:P.gen≠1099511627776)(hwr:S.wr<4611686018427387904)(hL:D4 P.tab ps 1 P.tab S=(none,S')):
  Calls Tryz.prog 37 #[.pointer (some ⟨pb,0,none⟩),lv] w fun e w'=>Pt ES 124 89 A w (.pointer (some ⟨pb,0,none⟩)) dv P S ps e w':=by
 have N:=b9 hL;have HR:=b9 (yO hsh hfa hpe hgen hL);clear hL;obtain⟨w0,B⟩:=c7 ((w.alloc (Obj.cells #[.pointer (some ⟨pb,0,none⟩)] 71)).alloc (Obj.cells #[.int .i64 0] 25));have f0:=b9 B;obtain⟨hz,y,a0⟩:=rP B;have HZ:=b9 hz;have l0:=b9 y;have F:=b9 (h.below y);have k:=b9 h.al;have R:=b9 (hl.below y);obtain⟨lo,lc,rfl,d0,I⟩:=hl.form;have o0:(ps.length:Int)≤9223372036854775807:=by simp only[maxLen]at I;omega
 have g0:=b9 hsh;have i0:=b9 hfa;have O:=b9 ((eG ps [] hfa).1);have b0:=List.length_pos_iff.2 hpe;have m0:((ps.length:Int)==0)=false:=by simp;omega
 have T:c6 (P.gen<1099511627776):=by show _<_;have:=h.ok.g40;omega
 have q0:((P.gen:Int)==1099511627776)=false:=by simp;omega
 have M:=b9 hwr;have p0:(P.home:Int)≤1:=by have:=h.ok.h2;omega
 have r1:IntKind.i64.wrap (1-(P.home:Int))=((1-P.home:Nat):Int):=by have:=h.ok.h2;rw[IntKind.wrap_i64];omega
 have n0: ∀(fn:Fn) (first L:Array Value) (w:d9),(Instr.makeFunc fn first L).run Tryz.prog w= .ok (.func fn first L) w:=fun _ _ _ _=>rfl;clear B d0 I h hl hz y hfa hpe hgen hwr hsh b0;go_enter_defers Tryz.func37,Tryz.ntmps37;go_wp2_with fail;rw[←f0.o];refine(O0 F.o g0.o).mono ?_;rintro e w9 ⟨rfl,h9⟩;have h9:=h9.symm;subst h9;have k0:=HZ.o.c0;go_wp2_with fail;refine(cC F.o R.o).mono ?_;rw[i0.o];rintro e u ⟨rfl,p⟩;have s:=b9 (HZ.o.below p);have t:=b9 (F.o.below p);have Q:=b9 (R.o.below p);have U:=b9 (a9 l0.o p);have m:=b9 (c8 s.o.c1);have k2:=s.o.c0;have k3:=Fo t.o;clear p k0 a0;go_wp2_with fail;have j0: ∀wx,Kz u w.heap.size pb wx→wx.cell? ⟨w.heap.size,0,none⟩=some (.pointer (some ⟨pb,0,none⟩)):=fun wx z=>by rw[World.cell?_of_block (w:=u) (a:=⟨w.heap.size,0,none⟩) z.k0];exact s.o.c0
 have j1: ∀wx,Kz u w.heap.size pb wx→wx.cell? ⟨pb,3,none⟩=some (.int .i64 P.home):=fun wx z=>by rw[World.cell?_of_block (w:=u) (a:=⟨pb,3,none⟩) z.k1];exact Na t.o
 have J:Kz u w.heap.size pb u.drew:=⟨rfl,rfl,Nat.le_refl _⟩;have h0:c6 (pb<w.heap.size):=k.o _ t.o.ab;clear k2 k3;refine wp_region_held_drew (S:=fun wx=>Kz u w.heap.size pb wx) (by kernel_rfl) ?_ fun G=>?_
 ·exact J
 refine wpAnyH_take (i:=0) (oi:=⟨some 32,_,_,_,_,_⟩) (v:=?_) rfl (by kernel_rfl) (by kernel_rfl) (by kernel_rfl) (fun c a w h=>dS (by decide) _ c a w h) (Or.inl ⟨by rfl,?_⟩) (by assumption) ?_;rotate_left
 ·intro w b;(try dsimp only at b);go_simp;all_goals (with_reducible rfl)
 try simp only[Act.put,zz]
 refine wpAnyH_take (i:=1) (oi:=⟨some 33,_,_,_,_,_⟩) (v:=?_) rfl (by kernel_rfl) (by kernel_rfl) (by kernel_rfl) (fun c a w h=>dS (by decide) _ c a w h) (Or.inl ⟨by rfl,?_⟩) (by assumption) ?_;rotate_left
 ·intro w b;(try dsimp only at b);go_simp;all_goals (with_reducible rfl)
 try simp only[Act.put,zz]
 refine wpAnyH_take (i:=3) (oi:=⟨some 35,_,_,_,_,_⟩) (v:=?_) rfl (by kernel_rfl) (by kernel_rfl) (by kernel_rfl) (fun c a w h=>dS (by decide) _ c a w h) (Or.inl ⟨by rfl,?_⟩) (by assumption) ?_;rotate_left
 ·intro w b;(try dsimp only at b);go_simp;all_goals (with_reducible rfl)
 try simp only[Act.put,zz]
 refine wpAnyH_take (i:=4) (oi:=⟨some 36,_,_,_,_,_⟩) (v:=?_) rfl (by kernel_rfl) (by kernel_rfl) (by kernel_rfl) (fun c a w h=>dS (by decide) _ c a w h) (Or.inl ⟨by rfl,?_⟩) (by assumption) ?_;rotate_left
 ·intro w b;(try dsimp only at b);go_simp;all_goals (with_reducible rfl)
 try simp only[Act.put,zz]
 refine wpAnyH_take (i:=5) (oi:=⟨some 37,_,_,_,_,_⟩) (v:=?_) rfl (by kernel_rfl) (by kernel_rfl) (by kernel_rfl) (fun c a w h=>dS (by decide) _ c a w h) (Or.inl ⟨by rfl,?_⟩) (by assumption) ?_;rotate_left
 ·intro w b;(try dsimp only at b);go_simp;all_goals (with_reducible rfl)
 try simp only[Act.put,zz]
 refine wpAnyH_take (i:=6) (oi:=⟨some 38,_,_,_,_,_⟩) (v:=?_) rfl (by kernel_rfl) (by kernel_rfl) (by kernel_rfl) (fun c a w h=>dS (by decide) _ c a w h) (Or.inl ⟨by rfl,?_⟩) (by assumption) ?_;rotate_left
 ·intro w b;(try dsimp only at b);go_simp;all_goals (with_reducible rfl)
 try simp only[Act.put,zz]
 refine wpAnyH_take (i:=7) (oi:=⟨some 39,_,_,_,_,_⟩) (v:=?_) rfl (by kernel_rfl) (by kernel_rfl) (by kernel_rfl) (fun c a w h=>dS (by decide) _ c a w h) (Or.inl ⟨by rfl,?_⟩) (by assumption) ?_;rotate_left
 ·intro w b;(try dsimp only at b);go_simp;all_goals (with_reducible rfl)
 try simp only[Act.put,zz]
 refine wpAnyH_ready (rs:=[2,8]) (by kernel_rfl) (by simp) ?_;have l:f8 u u.drew:=d8 _ _;refine AllReadyH.cons (o:=⟨some 34,_,_,_,_,_⟩) rfl (fun K W=>?_) ?_
 ·go_simp;refine(OD (t.o.below l) (Q.o.below l) O.o T.o M.o N.o).mono ?_;rintro e H ⟨⟨pu,Z,rfl⟩,A',D',j,r,C⟩;have g:=(Ch.of_below l).self C;have d:Pz w pb H:=s.o.ch g (fun e=>by have:=k.o _ e;omega) (fun e=>by have:=k.o _ e;omega)
  have E: ¬A' (w.heap.size+1):=fun e=>by
   rcases r _ e with q|q
   ·have:=k.o _ q;omega
   ·have Y:=m.o;have X:=Below.size l;omega
  refine leaves_cons (f:=83) (args:= #[.pointer (some ⟨w.heap.size,0,none⟩),.pointer (some ⟨w.heap.size+1,0,none⟩)]) (by simp) (by simp[go_sem]) ?_;refine(Y7 pu Z [] H d.c0 (Jy j) (j.soft 4) d.c1 d.f1).mono ?_;rintro e u' w'' ⟨rfl,rfl,rfl⟩
  exact⟨.int .i64 80,by simp[results,Tryz.results37,go_sem,d.c1],yR HR.o j (fun x z=>by
   rcases r x z with q|q
   ·exact .inl q
   ·have Y:=m.o;have X:=Below.size l;exact .inr (by omega)) E U.o g⟩
 ·refine AllReadyH.cons (o:=⟨some 7,_,_,_,_,_⟩) rfl (fun K W=>?_) AllReadyH.nil;go_simp;refine W.out _ _ ?_ fun G=>?_
  ·exact Kz.go J (by have:=m.o;omega) (by have Y:=m.o;have X:=h0.o;omega) (a8 _ _)
  clear W K;try simp only[Act.put,zz]
  have n:=a9 l (a8 u.drew (Obj.cells #[.int .u64 0,.slice none 0 0] 120));refine C7 2 34 rfl fun K W=>?_;go_simp;refine(OD (t.o.below n) (Q.o.below n) O.o T.o M.o N.o).mono ?_;rintro e H ⟨⟨pu,Z,rfl⟩,A',D',j,r,C⟩;have g:=(Ch.of_below n).self C;have d:Pz w pb H:=s.o.ch g (fun e=>by have:=k.o _ e;omega) (fun e=>by have:=k.o _ e;omega)
  have E: ¬A' (w.heap.size+1):=fun e=>by
   rcases r _ e with q|q
   ·have:=k.o _ q;omega
   ·have Y:=m.o;have X:=Below.size n;omega
  refine leaves_cons (f:=83) (args:= #[.pointer (some ⟨w.heap.size,0,none⟩),.pointer (some ⟨w.heap.size+1,0,none⟩)]) (by simp) (by simp[go_sem]) ?_;refine(Y7 pu Z [] H d.c0 (Jy j) (j.soft 4) d.c1 d.f1).mono ?_;rintro e u' w'' ⟨rfl,rfl,rfl⟩
  exact⟨.int .i64 80,by simp[results,Tryz.results37,go_sem,d.c1],yR HR.o j (fun x z=>by
   rcases r x z with q|q
   ·exact .inl q
   ·have Y:=m.o;have X:=Below.size n;exact .inr (by omega)) E U.o g⟩
end
end
section
theorem SQ{A:n9}{w w3:d9}{t:TypeId}(h:Ch A (w.alloc (Obj.cells #[.int .u64 0,.slice none 0 0] t)).drew w3)(hn: ¬A w.heap.size):w3.heap[w.heap.size]?=some (.cells #[.int .u64 0,.slice none 0 0] t (0,0)):=by
 have a:(w.alloc (Obj.cells #[.int .u64 0,.slice none 0 0] t)).drew.heap[w.heap.size]?=some (.cells #[.int .u64 0,.slice none 0 0] t (0,0)):=heap_alloc_new w _;rw[h.block w.heap.size (by simp[World.drew]) hn];exact a
theorem Kz.set1{w1 wx:d9}{p pb g i:Nat}(h:Kz w1 p pb wx)(hp:p≠g)(hq:pb≠g)(a:Value):Kz w1 p pb (wx.setCell ⟨g,i,none⟩ a):=
 ⟨by rw[l8 i _ hp];exact h.k0,by rw[l8 i _ hq];exact h.k1,by simpa using h.sz⟩
def Lz(A:n9)(w1:d9)(pb:Nat)(tv dv:Value)(P:Bo)(S':Dk)(t:f7)(nv hv:Value)(wx:d9):Prop:=
 ∃A' D' nb g cap,nv= .pointer (some ⟨nb,0,none⟩)∧hv= .int .i64 ((1-P.home:Nat):Int)∧MP A' D' wx pb tv dv P S'∧(∀x,A' x→A x∨w1.heap.size≤x)∧Ch A w1 wx∧Nx wx nb g cap (P.gen+1) t∧ ¬A' nb∧ ¬A' g∧w1.heap.size≤nb∧w1.heap.size≤g
section

variable{A A' D D':n9}{w w1 w':d9}{v dv tv lv:Value}{P P':Bo}{S S':Dk}{pb g cap nb:Nat}{ps:List (Int × f7)}{t:f7}

theorem TC{w3:d9}(hM:MP A' D' w3 pb tv dv P S')(hA: ∀x,A' x→A x∨w1.heap.size≤x)(hC:Ch A w1 w3)(hZ:Zt w3 g cap t)(hg: ¬A' g)(hg1:w1.heap.size≤g):
  Lz A w1 pb tv dv P S' t (.pointer (some ⟨w3.heap.size,0,none⟩)) (.int .i64 ((1-P.home:Nat):Int)) (w3.alloc (.cells #[.int .u64 (P.gen+1:Nat),.slice (some ⟨g,0,none⟩) t.length cap] 120)):=
 ⟨A',D',_,g,cap,rfl,rfl,hM.below (a8 _ _),hA,hC.self (Ch.of_below (a8 _ _)),vH hZ _,fun e=>by have:=hM.al _ e;omega,hg,hC.size,hg1⟩
theorem XS{w3:d9}{a b:Value}(hn:w3.heap[nb]?=some (.cells #[a,b] 120 (0,0)))(hM:MP A' D' w3 pb tv dv P S')(hA: ∀x,A' x→A x∨w1.heap.size≤x)(hC:Ch A w1 w3)(hZ:Zt w3 g cap t)(hg: ¬A' g)(hg1:w1.heap.size≤g)(hgn:g≠nb)(hnA: ¬A' nb)(hn1:w1.heap.size≤nb):
  Lz A w1 pb tv dv P S' t (.pointer (some ⟨nb,0,none⟩)) (.int .i64 ((1-P.home:Nat):Int)) ((w3.setCell ⟨nb,0,none⟩ (.int .u64 (P.gen+1:Nat))).setCell ⟨nb,1,none⟩ (.slice (some ⟨g,0,none⟩) t.length cap)):=
 ⟨A',D',nb,g,cap,rfl,rfl,(hM.other hnA _ _).other hnA _ _,hA,P7 (P7 hC hn1 _ _) hn1 _ _,DH hn hZ hgn _,hnA,hg,hn1,hg1⟩
theorem Cr: ∀(l:List (Int × f7)) (tab:f7) (b:Nat) (n:f7) (S:Dk),(D4 tab l b n S).2.wr≤S.wr+l.length:=by
 intro l
 induction l with
 |nil=>intro tab b n S;exact Nat.le_refl _
 |cons a l c=>
  obtain⟨p,d⟩:=a;intro tab b n S;unfold D4;rw[List.length_cons]
  split
  ·have:=c tab b (n.set p.toNat 0) S;omega
  ·have e:=dJ (S:=S) (i:=(q8 tab b:Nat)) (b:=d)
   split
   ·have:=c tab (q8 tab b) (n.set p.toNat (q8 tab b)) (i7 S (q8 tab b:Nat) d);omega
   ·show(i7 S (q8 tab b:Nat) d).wr≤_;omega
theorem XU: ∀(l:List (Int × f7)) (tab:f7) (b:Nat) (n:f7) (S:Dk),(D4 tab l b n S).2.bl.length=S.bl.length:=by
 intro l
 induction l with
 |nil=>intro tab b n S;rfl
 |cons a l c=>
  obtain⟨p,d⟩:=a;intro tab b n S;unfold D4
  split
  ·exact c tab b (n.set p.toNat 0) S
  ·split
   ·rw[c tab (q8 tab b) (n.set p.toNat (q8 tab b)) (i7 S (q8 tab b:Nat) d)];exact C6
   ·exact C6
theorem Ct{tab n:f7}{b:Nat}{r:Option f7}(h:D4 tab ps b n S=(r,S')):S'.bl.length=S.bl.length:=by
 have:=XU ps tab b n S;rw[h]at this;exact this
theorem Cj{w:d9}(h:MP A D w pb tv dv P S)(hZ:Zt w g cap t)(hg: ¬A g){gen' home':Nat}(hok:(Bo.mk gen' t home' P.over).ok S.bl.length):
  MP (fun x=>A x∨x=g) D (((w.setCell ⟨pb,0,none⟩ (.int .u64 gen')).setCell ⟨pb,1,none⟩ (.slice (some ⟨g,0,none⟩) t.length cap)).setCell ⟨pb,3,none⟩ (.int .i64 home')) pb (.slice (some ⟨g,0,none⟩) t.length cap) dv ⟨gen',t,home',P.over⟩ S:=by
 have b:g≠pb:=fun e=>hg (e▸h.ab);have c: ∀x,x≠pb→(((w.setCell ⟨pb,0,none⟩ (.int .u64 gen')).setCell ⟨pb,1,none⟩ (.slice (some ⟨g,0,none⟩) t.length cap)).setCell ⟨pb,3,none⟩ (.int .i64 home')).heap[x]?=w.heap[x]?:=fun x a=>by rw[l8 3 _ a,l8 1 _ a,l8 0 _ a]
 refine⟨?_,(hZ.keep (c g b)).tw,h.dsk.keep (fun x a=>c x (fun e=>h.nb (e▸a))) (by simp),fun x a=> .inl (h.sub x a),.inl h.ab,h.nb,fun x a=>?_,fun x a=>?_,hok⟩
 ·rw[V5 (V5 (V5 h.head 0 _) 1 _) 3 _];rfl
 ·simp[Value.ownBlock]at a;subst a;exact⟨.inr rfl,fun e=>hg (h.sub _ e),b⟩
 ·have:x<w.heap.size:=by
   rcases a with q|q
   ·exact h.al x q
   ·subst q;exact hZ.lt
  simpa[go_sem]using this
theorem BM.drew{F:Value→Value→Bo→Array Value}{TB TD:TypeId}{w:d9}(h:BM F TB TD A D w pb tv dv P S):BM F TB TD A D w.drew pb tv dv P S:=h.below (d8 _ _)
theorem Ic{tab n:f7}{b:Nat}{r:Option f7}(h:D4 tab ps b n S=(r,S')):S'.wr≤S.wr+ps.length:=by
 have:=Cr ps tab b n S;rw[h]at this;exact this
theorem CT(h:MP A D w pb tv dv P S)(hl:Tx A w lv ps)(hsh:i6 P S=false)(hfa:x9 P.tab.length ps=0)(hpe:ps≠[])(hgen:P.gen≠1099511627776)(hwr:S.wr<4611686018427387904)(hL:D4 P.tab ps 1 P.tab S=(some t,S')):
  Calls Tryz.prog 37 #[.pointer (some ⟨pb,0,none⟩),lv] w fun e w'=>Pt ES 124 89 A w (.pointer (some ⟨pb,0,none⟩)) dv P S ps e w':=by
 have s0:=b9 hL;have C1:=b9 (Ic hL);have X:=b9 (KV h.ok h.dsk.good.n64 (eG ps [] hfa).1 hL);clear hL;obtain⟨w0,B0⟩:=c7 ((w.alloc (Obj.cells #[.pointer (some ⟨pb,0,none⟩)] 71)).alloc (Obj.cells #[.int .i64 0] 25));have B1:=b9 B0;obtain⟨hz,n0,q1⟩:=rP B0;have HZ:=b9 hz;have H1:=b9 n0;have M0:=b9 (h.below n0);have x0:=b9 h.al;have g1:=b9 (hl.below n0);obtain⟨lo,lc,rfl,v1,V0⟩:=hl.form;have M1:(ps.length:Int)≤9223372036854775807:=by simp only[maxLen]at V0;omega
 have K0:=b9 hsh;have P0:=b9 hfa;have d1:=b9 ((eG ps [] hfa).1);have s1:=List.length_pos_iff.2 hpe;have K1:((ps.length:Int)==0)=false:=by simp;omega
 have Z0:=b9 hpe;have HG:=b9 hgen;have N0:c6 (P.gen<1099511627776):=by show _<_;have:=h.ok.g40;omega
 have O1:((P.gen:Int)==1099511627776)=false:=by simp;omega
 have X0:=b9 hwr;have N1:(P.home:Int)≤1:=by have:=h.ok.h2;omega
 have r1:IntKind.i64.wrap (1-(P.home:Int))=((1-P.home:Nat):Int):=by have:=h.ok.h2;rw[IntKind.wrap_i64];omega
 have L1: ∀(fn:Fn) (first n:Array Value) (w:d9),(Instr.makeFunc fn first n).run Tryz.prog w= .ok (.func fn first n) w:=fun _ _ _ _=>rfl;clear B0 v1 V0 h hl hz n0 hfa hpe hgen hwr hsh s1;go_enter_defers Tryz.func37,Tryz.ntmps37;go_wp2_with fail;rw[←B1.o];refine(O0 M0.o K0.o).mono ?_;rintro e w9 ⟨rfl,h9⟩;have h9:=h9.symm;subst h9;have k0:=HZ.o.c0;go_wp2_with fail;refine(cC M0.o g1.o).mono ?_;rw[P0.o];rintro e j ⟨rfl,Q⟩;have p0:=b9 (HZ.o.below Q);have E:=b9 (M0.o.below Q);have D1:=b9 (g1.o.below Q);have v0:=b9 (a9 H1.o Q);have J:=b9 (c8 p0.o.c1);have k2:=p0.o.c0;have k3:=Fo E.o;clear Q k0 q1;go_wp2_with fail;have j0: ∀wx,Kz j w.heap.size pb wx→wx.cell? ⟨w.heap.size,0,none⟩=some (.pointer (some ⟨pb,0,none⟩)):=fun wx d=>by rw[World.cell?_of_block (w:=j) (a:=⟨w.heap.size,0,none⟩) d.k0];exact p0.o.c0
 have j1: ∀wx,Kz j w.heap.size pb wx→wx.cell? ⟨pb,3,none⟩=some (.int .i64 P.home):=fun wx d=>by rw[World.cell?_of_block (w:=j) (a:=⟨pb,3,none⟩) d.k1];exact Na E.o
 have A1:Kz j w.heap.size pb j.drew:=⟨rfl,rfl,Nat.le_refl _⟩;have r0:=b9 (x0.o _ E.o.ab);clear k2 k3;have F:c6 (w.heap.size<j.heap.size∧pb<j.heap.size∧pb≠j.heap.size∧w.heap.size≠j.heap.size):=by have h1:=J.o;have h2:=r0.o;exact⟨by omega,by omega,by omega,by omega⟩
 have C:c6 (¬A w.heap.size∧ ¬A (w.heap.size+1)∧ ¬A j.heap.size):=by
  have h1:=J.o;exact⟨fun e=>by have:=x0.o _ e;omega,fun e=>by have:=x0.o _ e;omega,fun e=>by have:=x0.o _ e;omega⟩
 go_cut [7,8]from 9 (fun nv hv wx=>Lz A j pb tv dv P S' t nv hv wx)
 case first=>
  go_region_held3 (fun wx=>Kz j w.heap.size pb wx) (first|assumption|exact Kz.go (by assumption) F.o.1 F.o.2.1 (a8 _ _)|exact(Kz.go (wx:=j) ⟨rfl,rfl,Nat.le_refl _⟩ F.o.1 F.o.2.1 ((a8 _ _).drew))|exact Kz.set (by assumption) F.o.2.2.2 F.o.2.2.1 _ _)
   (first
    |(go_at_call 84;refine(XV (E.o.below (by first|exact d8 _ _|exact(a8 _ _).drew)) (D1.o.below (by first|exact d8 _ _|exact(a8 _ _).drew)) d1.o N0.o X0.o s0.o).mono ?_;rintro e w3 ⟨A',D',g,n,rfl,G0,H0,m0,W0,N,O,p1,J1⟩;clear p1;have P1:Kz j w.heap.size pb w3:=Ih (by assumption) E.o G0 m0 F.o.1 C.o.1;try (have S0:=SQ m0 C.o.2.2;obtain⟨z0,z1,f0,f1⟩:=jZ S0)))
  all_goals go_wp2_with fail
  all_goals go_meet
  ·exact TC G0 H0 ((Ch.of_below (D:=A) (d8 j 1)).self m0) W0 N O
  ·have C0:(j.alloc (Obj.cells #[.int .u64 0,.slice none 0 0] 120)).drew.heap.size=j.heap.size+1:=by simp[World.drew]
   rw[C0]at O;exact XS S0 G0 (fun x d=>by rcases H0 x d with q|q;exact .inl q;rw[C0]at q;exact .inr (by omega)) ((Ch.of_below (D:=A) (a8 j _).drew).self m0) W0 N (by omega) (by omega) (fun e=>by rcases H0 _ e with q|q;exact C.o.2.2 q;rw[C0]at q;omega) (Nat.le_refl _)
 case rest=>
  obtain⟨A',D',nb,g,n,rfl,rfl,hM,o0,hC,hN,T0,N,U0,O⟩:=hcut;have z:=b9 hM;have L:=b9 o0;have t0:=b9 hC;have s:=b9 hN;have y:c6 (¬A' nb∧ ¬A' g):=⟨T0,N⟩;have L0:c6 (j.heap.size≤nb∧j.heap.size≤g):=⟨U0,O⟩;have B:=b9 (p0.o.ch hC C.o.1 C.o.2.1)
  have r:c6 (¬A' w.heap.size∧ ¬A' (w.heap.size+1)):=by
   have h1:=J.o;exact⟨fun e=>by rcases o0 _ e with q|q;exact C.o.1 q;omega,fun e=>by rcases o0 _ e with q|q;exact C.o.2.1 q;omega⟩
  have l1:=b9 hM.dsk;have b:=b9 hM.sub
  have b1:c6 (S'.wr<9223372036854775807):=by
   show _<_;have h1:=X0.o;have h2:=C1.o;have h3:=aX d1.o;have h4:=z.o.ok.n8;omega
  have c0:=B.o.c0;have j4: ∀wx,Ch D' wc wx→wx.cell? ⟨w.heap.size,0,none⟩=some (.pointer (some ⟨pb,0,none⟩)):=fun wx d=>by rw[World.cell?_of_block (w:=wc) (a:=⟨w.heap.size,0,none⟩) (d.block _ (c8 B.o.c0) (fun e=>r.o.1 (b.o _ e)))];exact B.o.c0
  have j5: ∀wx,Ch D' wc wx→wx.cell? ⟨pb,2,none⟩=some dv:=fun wx d=>by rw[World.cell?_of_block (w:=wc) (a:=⟨pb,2,none⟩) (d.block _ (z.o.al _ z.o.ab) z.o.nb)];exact Kr z.o
  have j6: ∀wx,Ch D' wc wx→wx.cell? ⟨nb,0,none⟩=some (.int .u64 (P.gen+1:Nat)):=fun wx d=>by rw[World.cell?_of_block (w:=wc) (a:=⟨nb,0,none⟩) (d.block _ s.o.lt (fun e=>y.o.1 (b.o _ e)))];exact s.o.c0
  have j7: ∀wx,Ch D' wc wx→wx.cell? ⟨nb,1,none⟩=some (.slice (some ⟨g,0,none⟩) t.length n):=fun wx d=>by rw[World.cell?_of_block (w:=wc) (a:=⟨nb,1,none⟩) (d.block _ s.o.lt (fun e=>y.o.1 (b.o _ e)))];exact s.o.c1
  have F0:Ch D' wc wc.drew:=Ch.of_below (d8 _ _);have q0:c6 (t.length≤8):=by show _≤_;rw[X.o.2];exact z.o.ok.n8
  have o1:=b9 E.o.dsk.good.n64;have Y:c6 (∀x∈t,x<64):=fun x d=>by have h1:=gE X.o.1 x d;have h2:=o1.o;omega
  have Z:c6 (P.gen+1<18446744073709551616):=by show _<_;have:=N0.o;omega
  have Y0:=b9 (eV q0.o Z.o Y.o);obtain⟨ho,W⟩:=c7 (((1-P.home:Nat):Int));have U:=b9 W;rw[←W];clear hM o0 hC hN T0 N U0 O W j0 j1 A1 r1 c0;by_cases G:l7 S' ((1-P.home:Nat):Int) (k9 (P.gen+1) t)=0
  ·have J0:c6 (l7 S' ho (k9 (P.gen+1) t)=0):=by show _=_;rw[U.o];exact G
   have HR:c6 (A5 P S ps=(0,⟨P.gen+1,t,1-P.home,P.over⟩,i7 S' ho (k9 (P.gen+1) t))):=by show _=_;rw[U.o];exact KJ K0.o P0.o Z0.o HG.o s0.o G
   clear G;go_wp2_with fail
   go_region_held3 (fun wx=>Ch D' wc wx) (first|assumption)
    (first
     |(go_at_call 80;refine(kW (s.o.row.tw.below (d8 _ _)) q0.o Y.o Z.o).mono ?_;rintro e w4 ⟨rv,rfl,d0,I⟩;have g0:Ch D' wc w4:=Ch.self (by assumption) (Ch.of_below I);have H:f8 wc w4:=a9 (d8 wc 1) I)
     |(go_at_call 79;refine(MR (l1.o.below H) ho (p7 d0 Y0.o) b1.o J0.o).mono ?_;rintro e u ⟨rfl,⟨D5,h0,b0⟩,l0⟩;have m:Ch D' wc u:=Ch.self (by assumption) l0))
   all_goals
    have p:c6 (∀x,D5 x→D' x∨wc.heap.size≤x):=fun x d=>by rcases b0 x d with e|e;exact .inl e;exact .inr (Nat.le_trans H.size e)
    have l:=b9 (z.o.redisk h0 p.o m C6);have T:=b9 (s.o.ch m (fun e=>y.o.1 (b.o _ e)) (fun e=>y.o.2 (b.o _ e)));have I0:=b9 (B.o.ch m (fun e=>r.o.1 (b.o _ e)) (fun e=>r.o.2 (b.o _ e)));have F1:=b9 (t0.o.trans m (fun x d=>L.o x (b.o _ d)))
    have I1:c6 (∀x,(A' x∨D5 x)→A x∨j.heap.size≤x):=fun x d=>by
     rcases d with e|e
     ·exact L.o x e
     ·rcases p.o x e with q|q
      ·exact L.o x (b.o _ q)
      ·exact .inr (Nat.le_trans t0.o.size q)
    have y0:c6 (¬(A' nb∨D5 nb)∧ ¬(A' g∨D5 g)∧ ¬(A' (w.heap.size+1)∨D5 (w.heap.size+1))):=by
     have h1:=s.o.lt;have h2:=s.o.row.lt;have h3:=c8 B.o.c1;simp only at h3;refine⟨fun e=>?_,fun e=>?_,fun e=>?_⟩
     ·rcases e with e|e
      ·exact y.o.1 e
      ·rcases p.o _ e with q|q
       ·exact y.o.1 (b.o _ q)
       ·omega
     ·rcases e with e|e
      ·exact y.o.2 e
      ·rcases p.o _ e with q|q
       ·exact y.o.2 (b.o _ q)
       ·omega
     ·rcases e with e|e
      ·exact r.o.2 e
      ·rcases p.o _ e with q|q
       ·exact r.o.2 (b.o _ q)
       ·omega
    clear m l0 h0 b0 d0 I H g0 j4 j5 j6 j7 F0;have e0:=I0.o.c0;have e1:=T.o.c0;have e2:=T.o.c1;have z0:=Fo l.o;have z1:=Hy l.o;have z3:=Na l.o;have f0:=l.o.soft 0;have f1:=l.o.soft 1;have f3:=l.o.soft 3;have i0: ∀wx,Kz u w.heap.size nb wx→wx.cell? ⟨w.heap.size,0,none⟩=some (.pointer (some ⟨pb,0,none⟩)):=fun wx d=>by rw[World.cell?_of_block (w:=u) (a:=⟨w.heap.size,0,none⟩) d.k0];exact I0.o.c0
    have i1: ∀wx,Kz u w.heap.size nb wx→wx.cell? ⟨nb,0,none⟩=some (.int .u64 (P.gen+1:Nat)):=fun wx d=>by rw[World.cell?_of_block (w:=u) (a:=⟨nb,0,none⟩) d.k1];exact T.o.c0
    have i2: ∀wx,Kz u w.heap.size nb wx→wx.cell? ⟨nb,1,none⟩=some (.slice (some ⟨g,0,none⟩) t.length n):=fun wx d=>by rw[World.cell?_of_block (w:=u) (a:=⟨nb,1,none⟩) d.k1];exact T.o.c1
    have R:c6 (w.heap.size≠pb∧nb≠pb):=⟨by have:=r0.o;omega,by have h1:=r0.o;have h2:=L0.o.1;have h3:=J.o;omega⟩;have x1:Kz u w.heap.size nb u.drew:=⟨rfl,rfl,Nat.le_refl _⟩;clear e0 e1 e2;go_wp2_with fail;go_region_held3 (fun wx=>Kz u w.heap.size nb wx) (first|assumption|exact Kz.set (by assumption) R.o.1 R.o.2 _ _|exact Kz.set1 (by assumption) R.o.1 R.o.2 _) (fail);obtain⟨w6,M⟩:=c7 (((u.setCell ⟨pb,0,none⟩ (.int .u64 ((P.gen:Int)+1))).setCell ⟨pb,1,none⟩ (.slice (some ⟨g,0,none⟩) t.length n)).setCell ⟨pb,3,none⟩ (.int .i64 ho));have G1:c6 ((i7 S' ho (k9 (P.gen+1) t)).bl.length=S.bl.length):=by show _=_;rw[C6];exact Ct s0.o
    have a1:c6 (MP (fun x=>(A' x∨D5 x)∨x=g) D5 w6.drew pb (.slice (some ⟨g,0,none⟩) t.length n) dv ⟨P.gen+1,t,1-P.home,P.over⟩ (i7 S' ho (k9 (P.gen+1) t))):=by
     have t1:(Bo.mk (P.gen+1) t (1-P.home) P.over).ok (i7 S' ho (k9 (P.gen+1) t)).bl.length:=by
      rw[G1.o];exact⟨by show 1≤P.gen+1;omega,by have:=N0.o;show P.gen+1≤_;omega,q0.o,X.o.1,by show 1-P.home≤1;omega⟩
     have:=(Cj l.o T.o.row y0.o.2.1 t1).drew;have e6:w6=((u.setCell ⟨pb,0,none⟩ (.int .u64 ((P.gen+1:Nat):Int))).setCell ⟨pb,1,none⟩ (.slice (some ⟨g,0,none⟩) t.length n)).setCell ⟨pb,3,none⟩ (.int .i64 ((1-P.home:Nat):Int)):=by rw[M,U.o];rfl
     rw[e6];exact this
    have m1:c6 (Ch A w w6.drew):=by
     have h1:=(Ch.of_below (D:=A) v0.o).self F1.o;have D0:=E.o.ab;rw[M];exact(((h1.self (Ch.of_grown (A7 _ pb 0 _) (fun x d=>by cases d;exact D0))).self (Ch.of_grown (A7 _ pb 1 _) (fun x d=>by cases d;exact D0))).self (Ch.of_grown (A7 _ pb 3 _) (fun x d=>by cases d;exact D0))).self (Ch.of_below (d8 _ _))
    have A0:Pz w pb w6.drew:=by
     have:Ch (fun x=>x=pb) u w6.drew:=by
      rw[M];exact(((Ch.of_grown (A7 u pb 0 _) (fun x d=>by cases d;rfl)).self (Ch.of_grown (A7 _ pb 1 _) (fun x d=>by cases d;rfl))).self (Ch.of_grown (A7 _ pb 3 _) (fun x d=>by cases d;rfl))).self (Ch.of_below (d8 _ _))
     exact I0.o.ch this R.o.1 (by have:=r0.o;omega)
    rw[←M];have y1:=A0.c1;have y2:=A0.f1;obtain⟨w7,R0⟩:=c7 w6.drew;rw[←R0]at a1 m1 y1 y2⊢;clear R0 A0 M z0 z1 z3 f0 f1 f3 i0 i1 i2 x1;go_wp2_with fail;refine leaves_cons (f:=83) (args:= #[.pointer (some ⟨w.heap.size,0,none⟩),.pointer (some ⟨w.heap.size+1,0,none⟩)]) (by simp) (by simp[go_sem]) ?_;refine(CY _ _ _).mono ?_;rintro e u' w'' ⟨rfl,rfl,rfl⟩
    exact⟨.int .i64 0,by simp[results,Tryz.results37,go_sem,y1],dW HR.o (a1.o.other (fun e=>by rcases e with e|e;exact y0.o.2.2 e;have h1:=L0.o.2;have h2:=J.o;omega) _ _) (fun x d=>by
     rcases d with e|e
     ·rcases I1.o x e with q|q
      ·exact .inl q
      ·exact .inr (Nat.le_trans v0.o.size q)
     ·subst e;exact .inr (Nat.le_trans v0.o.size L0.o.2)) (P7 m1.o (by omega) _ _)⟩
  ·have J0:c6 (l7 S' ho (k9 (P.gen+1) t)≠0):=by show _≠_;rw[U.o];exact G
   have HR:c6 (A5 P S ps=(80,J6 P,i7 S' ho (k9 (P.gen+1) t))):=by show _=_;rw[U.o];exact yQ K0.o P0.o Z0.o HG.o s0.o G
   clear G;go_wp2_with fail;refine wp_region_held_drew (S:=fun wx=>Ch D' wc wx) (by kernel_rfl) ?_ fun Q0=>?_
   ·exact F0
   refine wpAnyH_take (i:=0) (oi:=⟨some 40,_,_,_,_,_⟩) (v:=?_) rfl (by kernel_rfl) (by kernel_rfl) (by kernel_rfl) (fun c a w h=>dS (by decide) _ c a w h) (Or.inl ⟨by rfl,?_⟩) (by assumption) ?_;rotate_left
   ·intro w k;(try dsimp only at k);go_simp;all_goals (with_reducible rfl)
   try simp only[Act.put,zz]
   refine wpAnyH_take (i:=1) (oi:=⟨some 41,_,_,_,_,_⟩) (v:=?_) rfl (by kernel_rfl) (by kernel_rfl) (by kernel_rfl) (fun c a w h=>dS (by decide) _ c a w h) (Or.inl ⟨by rfl,?_⟩) (by assumption) ?_;rotate_left
   ·intro w k;(try dsimp only at k);go_simp;all_goals (with_reducible rfl)
   try simp only[Act.put,zz]
   refine wpAnyH_take (i:=2) (oi:=⟨some 42,_,_,_,_,_⟩) (v:=?_) rfl (by kernel_rfl) (by kernel_rfl) (by kernel_rfl) (fun c a w h=>dS (by decide) _ c a w h) (Or.inl ⟨by rfl,?_⟩) (by assumption) ?_;rotate_left
   ·intro w k;(try dsimp only at k);go_simp;all_goals (with_reducible rfl)
   try simp only[Act.put,zz]
   refine wpAnyH_take (i:=3) (oi:=⟨some 43,_,_,_,_,_⟩) (v:=?_) rfl (by kernel_rfl) (by kernel_rfl) (by kernel_rfl) (fun c a w h=>dS (by decide) _ c a w h) (Or.inl ⟨by rfl,?_⟩) (by assumption) ?_;rotate_left
   ·intro w k;(try dsimp only at k);go_simp;all_goals (with_reducible rfl)
   try simp only[Act.put,zz]
   refine wpAnyH_take (i:=4) (oi:=⟨some 44,_,_,_,_,_⟩) (v:=?_) rfl (by kernel_rfl) (by kernel_rfl) (by kernel_rfl) (fun c a w h=>dS (by decide) _ c a w h) (Or.inl ⟨by rfl,?_⟩) (by assumption) ?_;rotate_left
   ·intro w k;(try dsimp only at k);go_simp;all_goals (with_reducible rfl)
   try simp only[Act.put,zz]
   refine wpAnyH_take (i:=5) (oi:=⟨some 45,_,_,_,_,_⟩) (v:=?_) rfl (by kernel_rfl) (by kernel_rfl) (by kernel_rfl) (fun c a w h=>dS (by decide) _ c a w h) (Or.inl ⟨by rfl,?_⟩) (by assumption) ?_;rotate_left
   ·intro w k;(try dsimp only at k);go_simp;all_goals (with_reducible rfl)
   try simp only[Act.put,zz]
   refine C7 6 46 rfl fun K hK=>?_;go_simp;refine(kW (s.o.row.tw.below (d8 _ _)) q0.o Y.o Z.o).mono ?_;rintro e w4 ⟨rv,rfl,d0,I⟩;have g0:=Ch.self F0 (Ch.of_below I);have H:=a9 (d8 wc 1) I;refine hK.out _ _ ?_ fun Q0=>?_
   ·exact g0
   clear hK K;try simp only[Act.put,zz]
   refine C7 7 47 rfl fun K hK=>?_;go_simp;refine(wW (l1.o.below H) ho (p7 d0 Y0.o) b1.o J0.o).mono ?_;rintro e u ⟨⟨pu,pv,rfl⟩,⟨D5,h0,b0⟩,l0⟩;have m:=Ch.self g0 l0;have p:c6 (∀x,D5 x→D' x∨wc.heap.size≤x):=fun x d=>by rcases b0 x d with e|e;exact .inl e;exact .inr (Nat.le_trans H.size e)
   have l:=b9 (z.o.redisk h0 p.o m C6);have a0:Pz w pb u:=B.o.ch m (fun e=>r.o.1 (b.o _ e)) (fun e=>r.o.2 (b.o _ e));have n1:Ch A j u:=t0.o.trans m (fun x d=>L.o x (b.o _ d));refine leaves_cons (f:=83) (args:= #[.pointer (some ⟨w.heap.size,0,none⟩),.pointer (some ⟨w.heap.size+1,0,none⟩)]) (by simp) (by simp[go_sem]) ?_;refine(Y7 pu pv [] u a0.c0 (Jy l.o) (l.o.soft 4) a0.c1 a0.f1).mono ?_;rintro e u' w'' ⟨rfl,rfl,rfl⟩;refine⟨.int .i64 80,by simp[results,Tryz.results37,go_sem,a0.c1],yR HR.o l.o (fun x d=>?_) (fun e=>?_) v0.o n1⟩
   ·have h1:=J.o;rcases d with e|e
    ·rcases L.o x e with q|q
     ·exact .inl q
     ·exact .inr (by omega)
    ·rcases p.o x e with q|q
     ·rcases L.o x (b.o _ q)with q|q
      ·exact .inl q
      ·exact .inr (by omega)
     ·have:=t0.o.size;exact .inr (by omega)
   ·have h3:=c8 B.o.c1;simp only at h3;rcases e with e|e
    ·exact r.o.2 e
    ·rcases p.o _ e with q|q
     ·exact r.o.2 (b.o _ q)
     ·omega
theorem oA(h:BP A w v dv P S)(hl:Tx A w lv ps)(hwr:S.wr<4611686018427387904):
  Calls Tryz.prog 37 #[v,lv] w fun e w'=>Pt ES 124 89 A w v dv P S ps e w':=by
 obtain⟨D,j,i,rfl,h⟩:=h;by_cases a:i6 P S=true∨x9 P.tab.length ps≠0∨ps=[]∨P.gen=1099511627776
 ·exact RV h hl a
 ·have g:i6 P S=false:=by cases e:i6 P S;rfl;exact absurd (.inl e) a
  have f:=Classical.not_not.1 (fun e=>a (.inr (.inl e)));have d:ps≠[]:=fun e=>a (.inr (.inr (.inl e)));have c:P.gen≠1099511627776:=fun e=>a (.inr (.inr (.inr e)));obtain⟨r,S',b⟩: ∃r S',D4 P.tab ps 1 P.tab S=(r,S'):=⟨_,_,rfl⟩
  cases r with
  |none=>exact KL h hl g f d c hwr b
  |some t=>exact CT h hl g f d c hwr b
end
end
end Go.Proofs.YtfhoilcbhmeofaaGreat
